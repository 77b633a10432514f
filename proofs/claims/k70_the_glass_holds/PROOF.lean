import PyProof.Rows.All
import Wide.All
import OpenK.AllK
import Wide.FinOn
import Lean
import PyProof.EqAt
import PyProof.EqKinds
import PyProof.TupleCall
import PySem.Challenge.RW_glasslayers_k70_the_glass_holds
set_option compiler.extract_closed false
set_option Elab.async false
set_option linter.all false
set_option maxRecDepth 100000
namespace L2
open PySem PySem.Spec PyProof.Rows
abbrev Key:=Sum Int Str
def qop:Key->Value->Bool
|.inl k,v=>Value.isInt k v
|.inr x,v=>Value.isStrOf x v
def keyH(w:World):Key->Int
|.inl k=>hashInt k
|.inr x=>hashStr w x
theorem qbb:∀ {k:Key} {v:Value},qop k v=true->(∃i t,k=Sum.inl i/\v=Value.int i t)\/(∃x t,k=Sum.inr x/\v=Value.str x t)
|.inl i,v,h=>by
  obtain⟨t,e⟩:=Value.isInt_shape (k:=i) (v:=v) h
  exact .inl ⟨i,t,rfl,e⟩
|.inr x,v,h=>by
  obtain⟨t,e⟩:=Value.isStrOf_shape (x:=x) (v:=v) h
  exact .inr ⟨x,t,rfl,e⟩
theorem qqr(i:Int)(t:Tok):qop (.inl i) (.int i t)=true:=by simp[qop,Value.isInt]
theorem qqs(x:Str)(t:Tok):qop (.inr x) (.str x t)=true:=by simp[qop,Value.isStrOf]
theorem q0a(a b:Int):decide ((Sum.inl a:Key)=Sum.inl b)=(a==b):=by
 by_cases e:a=b
 ·subst e;simp
 ·have h:¬ (Sum.inl a:Key)=Sum.inl b:=λq=>e (Sum.inl.inj q)
  rw[decide_eq_false h]
  exact(beq_eq_false_iff_ne.mpr e).symm
theorem q0d(a b:Str):decide ((Sum.inr a:Key)=Sum.inr b)=decide (a=b):=by
 by_cases e:a=b
 ·subst e;simp
 ·have h:¬ (Sum.inr a:Key)=Sum.inr b:=λq=>e (Sum.inr.inj q)
  rw[decide_eq_false h,decide_eq_false e]
theorem q0b(a:Int)(b:Str):decide ((Sum.inl a:Key)=Sum.inr b)=false:=decide_eq_false (λq=>nomatch q)
theorem q0c(a:Str)(b:Int):decide ((Sum.inr a:Key)=Sum.inl b)=false:=decide_eq_false (λq=>nomatch q)
def qbi(prog:Program)(w:World):PySem.KeyKind prog w Key where
 is:=qop
 hash:=keyH w
 inj:=λv a b ha hb=>by
  rcases qbb ha with ⟨i,t,rfl,rfl⟩|⟨x,t,rfl,rfl⟩
  ·rcases qbb hb with ⟨j,u,rfl,e⟩|⟨y,u,rfl,e⟩
   ·injection e with e1 _;rw[e1]
   ·exact nomatch e
  ·rcases qbb hb with ⟨j,u,rfl,e⟩|⟨y,u,rfl,e⟩
   ·exact nomatch e
   ·injection e with e1 _;rw[e1]
 byValue:=λk v h=>by
  rcases qbb h with ⟨i,t,rfl,rfl⟩|⟨x,t,rfl,rfl⟩<;>rfl
 pyHash:=λhv h=>by
  rcases qbb hv with ⟨i,t,rfl,rfl⟩|⟨x,t,rfl,rfl⟩
  ·exact wpAny_pyHash_int h
  ·exact wpAny_pyHash_str h
 eqBool:=λhu hv h=>by
  rcases qbb hu with ⟨i,t,rfl,rfl⟩|⟨x,t,rfl,rfl⟩
  ·rcases qbb hv with ⟨j,u,rfl,rfl⟩|⟨y,u,rfl,rfl⟩
   ·rw[q0a] at h;exact wpAny_eqBool_int h
   ·rw[q0b] at h;exact SeqAt.EqAt.int_str i t y u _ _ _ _ h
  ·rcases qbb hv with ⟨j,u,rfl,rfl⟩|⟨y,u,rfl,rfl⟩
   ·rw[q0c] at h;exact SeqAt.EqAt.str_int x t j u _ _ _ _ h
   ·rw[q0d] at h;exact wpAny_eqBool_str h
 «strs»:=λk x t v h=>by
  rcases qbb h with ⟨i,u,rfl,e⟩|⟨y,u,rfl,e⟩
  ·exact nomatch e
  ·injection e with e1 _
   subst e1
   cases v<;>rfl
theorem ql7(prog:Program)(w:World)(i:Int)(t:Tok):(qbi prog w).is (.inl i) (.int i t)=true:=qqr i t
theorem ql8(prog:Program)(w:World)(x:Str)(t:Tok):(qbi prog w).is (.inr x) (.str x t)=true:=qqs x t
end L2
namespace L2
open PySem PySem.Spec PyProof.Rows
inductive V where
|non|bl (b:Bool)|int (i:Int)|str (x:Str)|byt (b:Array UInt8)|flt (b:UInt64)|ref (a:Addr)|ty (n:String)
 deriving DecidableEq
def RelV:V->Value->Prop
|.non,u=>u=Value.none
|.bl b,u=>u=Value.bool b
|.int i,u=>∃t,u=Value.int i t
|.str x,u=>∃t,u=Value.str x t
|.byt b,u=>∃t,u=Value.bytes b t
|.flt b,u=>∃t,u=Value.float b t
|.ref a,u=>u=Value.ref a
|.ty n,u=>u=Value.type n
abbrev Vals:List V->List Value->Prop:=Paired RelV
theorem Vals.length{xs:List V}{us:List Value}(r:Vals xs us):xs.length=us.length:=Paired.length r
theorem Vals.get:∀ {xs:List V} {us:List Value} {i:Nat} {x:V},Vals xs us->xs[i]?=some x->∃u,us[i]?=some u/\RelV x u
|_,_,_,_,.nil,e=>by simp at e
|_,_,0,_,.cons r _,e=>by simp at e;subst e;exact⟨_,rfl,r⟩
|_,_,i+1,x,.cons _ t,e=>by
  obtain⟨u,h1,h2⟩:=Vals.get (i:=i) (x:=x) t (by simpa using e)
  exact⟨u,by simpa using h1,h2⟩
theorem Vals.append:∀ {xs ys:List V} {us ws:List Value},Vals xs us->Vals ys ws->Vals (xs++ys) (us++ws)
|_,_,_,_,.nil,s=>s
|_,_,_,_,.cons r t,s=>.cons r (Vals.append t s)
theorem Vals.take:∀ {xs:List V} {us:List Value} (n:Nat),Vals xs us->Vals (xs.take n) (us.take n)
|_,_,0,_=>.nil
|_,_,_+1,.nil=>.nil
|_,_,n+1,.cons r t=>.cons r (Vals.take n t)
theorem Vals.drop:∀ {xs:List V} {us:List Value} (n:Nat),Vals xs us->Vals (xs.drop n) (us.drop n)
|_,_,0,r=>r
|_,_,_+1,.nil=>.nil
|_,_,n+1,.cons _ t=>Vals.drop n t
def RelO:Option V->Option Value->Prop
|some v,some u=>RelV v u
|none,none=>True
|_,_=>False
def KV{κ:Type}:List (κ×V)->List (κ×Value)->Prop:=Paired λ(p:κ×V) (q:κ×Value)=>p.1=q.1/\RelV p.2 q.2
def kV:Key->V
|.inl i=>.int i
|.inr x=>.str x
inductive HO where
|lst (xs:List V)
|tup (xs:List V)
|dK (kvs:List (Key×V))|dT (kvs:List (List Key×V))
|set (S:Int->Bool) (n:Nat)
|ins (C dx:Addr) (fs:List (Str×V))
|own (x:Addr)
|xd (fs:List (Str×V))
|met (f x:Addr)
|rng (lo hi:Int)
|frz (o:Obj) (u:HO)
|tbl (ps:Array Value)
|ext (φ:Heap->Prop)
abbrev Hp:=Addr->Option HO
def upd(H:Hp)(a:Addr)(o:HO):Hp:=λb=>if b=a then some o else H b
theorem qag{H:Hp}{a:Addr}{o:HO}:upd H a o a=some o:=by unfold upd;rw[if_pos rfl]
theorem qal{H:Hp}{a b:Addr}{o:HO}(h:b≠a):upd H a o b=H b:=by unfold upd;rw[if_neg h]
theorem q0m{H:Hp}{a b:Addr}{o u:HO}(h:H a=some o)(h':H b=some u)(d:o≠u):a≠b:=by
 intro e;subst e;rw[h] at h';exact d (Option.some.inj h')
theorem qce{H:Hp}{a b:Addr}{o:HO}(h:H a=some o)(h':H b=none):a≠b:=by
 intro e;subst e;rw[h] at h';cases h'
section
variable (P:Program) (w:World)
def ObjOk(H:Hp)(h:Heap)(a:Addr):HO->Prop
|.lst xs=>xs.length<=sizeLine/\∃(its:List Value) (n:Nat),Vals xs its/\h.get? a=some { cls:=.type "list",data:=.seq its.toArray n }
|.tup xs=>xs.length<=sizeLine/\∃its:List Value,Vals xs its/\IsTup h a its.toArray
|.dK kvs=>kvs.length<=sizeLine/\(a==sysModules)=false/\∃vs,KV kvs vs/\h.DictOf (qbi P w) a vs
|.dT kvs=>kvs.length<=sizeLine/\(a==sysModules)=false/\∃xs:List (List Key×Addr×Value),
   Paired (λ(p:List Key×V) (q:List Key×Addr×Value)=>p.1=q.1/\H q.2.1=some (.tup (p.1.map kV))/\RelV p.2 q.2.2) kvs xs /\
   ∃o es ep,h.get? a=some o/\o.ExactDict/\o.data=.dict es ep/\es.toList=xs.map (entryOfKey (tupleKind (qbi P w)))/\(xs.map (·.1)).Nodup
|.set S n=>h.SetOf (intKind P w) a S n
|.ins C dx fs=>H dx=some (.own a)/\fs.length<=1000/\dx≠a/\h.get? a=some (PySem.W.instObj C dx) /\
   ∃mA,h.Ns1 dx mA/\(∀f,RelO (fs.lookup f) (mA f))/\PySem.Within mA (fs.map (·.1))
|.own _=>∃o,h.get? a=some o
|.xd fs=>∃mA,h.Ns1 a mA/\∀f,RelO (fs.lookup f) (mA f)
|.rng lo hi=>∃t u v,h.get? a=some { cls:=.type "range",data:=.fields #[.int lo t,.int hi u,.int 1 v] }
|.frz o u=>h.get? a=some o/\ObjOk H h a u
|.tbl ps=>h.get? a=some { cls:=.none,data:=.fields ps }
|.met f x=>h.get? a=some (PySem.W.methodObj (.ref f) (.ref x))
|.ext φ=>φ h/\(∃o,h.get? a=some o)/\∀h1 h2:Heap,φ h1->(∀o,h1.get? a=some o->h2.get? a=some o)->φ h2
def HOk(H:Hp)(h:Heap):Prop:=∀a o,H a=some o->ObjOk P w H h a o
end
section
variable {P:Program} {w:World} {H H':Hp} {h h':Heap} {a:Addr} {o:HO}
theorem ObjOk.lt(x:ObjOk P w H h a o):a<h.objs.size:=by
 cases o with
|lst xs=>obtain⟨_,_,_,_,e⟩:=x;exact Heap.lt_size e
|tup xs=>obtain⟨_,_,_,p⟩:=x;exact p.lt
|dK kvs=>obtain⟨_,_,_,_,o,_,_,e,_⟩:=x;exact Heap.lt_size e
|dT kvs=>obtain⟨_,_,_,_,o,_,_,e,_⟩:=x;exact Heap.lt_size e
|set S n=>obtain⟨o,_,_,_,e,_⟩:=x;exact Heap.lt_size e
|ins C dx fs=>obtain⟨_,_,_,e,_⟩:=x;exact Heap.lt_size e
|own y=>obtain⟨_,e⟩:=x;exact Heap.lt_size e
|xd fs=>obtain⟨_,⟨_,_,_,e,_⟩,_⟩:=x;exact Heap.lt_size e
|rng lo hi=>obtain⟨_,_,_,e⟩:=x;exact Heap.lt_size e
|frz ob u=>obtain⟨e,_⟩:=x;exact Heap.lt_size e
|tbl ps=>exact Heap.lt_size (show h.get? a=some _ from x)
|met f y=>exact Heap.lt_size (show h.get? a=some _ from x)
|ext φ=>obtain⟨_,⟨_,e⟩,_⟩:=x;exact Heap.lt_size e
theorem Paired.mapP{α β:Type}{F G:α->β->Prop}:∀ {l₁:List α} {l₂:List β},Paired F l₁ l₂->(∀a b,F a b->G a b)->Paired G l₁ l₂
|_,_,.nil,_=>.nil
|_,_,.cons r t,f=>.cons (f _ _ r) (Paired.mapP t f)
theorem ObjOk.stay(x:ObjOk P w H h a o)(k:∀b u,(b=a\/H b=some (.own a))->h.get? b=some u->h'.get? b=some u)
  (ho:∀b,H b=some (.own a)->H' b=some (.own a)) (ht:∀b xs,H b=some (.tup xs)->H' b=some (.tup xs)):ObjOk P w H' h' a o:=by
 induction o with
|lst xs=>obtain⟨z,its,n,r,e⟩:=x;exact⟨z,its,n,r,k _ _ (.inl rfl) e⟩
|tup xs=>obtain⟨z,its,r,ob,e,c⟩:=x;exact⟨z,its,r,ob,k _ _ (.inl rfl) e,c⟩
|dK kvs=>obtain⟨z,y,vs,r,ob,es,ep,e,c⟩:=x;exact⟨z,y,vs,r,ob,es,ep,k _ _ (.inl rfl) e,c⟩
|dT kvs =>
  obtain⟨z,y,xs,r,ob,es,ep,e,c⟩:=x
  exact⟨z,y,xs,Paired.mapP r λp q z=>⟨z.1,ht _ _ z.2.1,z.2.2⟩,ob,es,ep,k _ _ (.inl rfl) e,c⟩
|set S n=>obtain⟨ob,es,ep,t,e,c⟩:=x;exact⟨ob,es,ep,t,k _ _ (.inl rfl) e,c⟩
|ins C dx fs =>
  obtain⟨d,z,ne,e,mA,⟨od,es,ep,e2,c⟩,r⟩:=x
  exact⟨ho _ d,z,ne,k _ _ (.inl rfl) e,mA,⟨od,es,ep,k _ _ (.inr d) e2,c⟩,r⟩
|own y=>obtain⟨ob,e⟩:=x;exact⟨ob,k _ _ (.inl rfl) e⟩
|xd fs=>obtain⟨mA,⟨od,es,ep,e,c⟩,r⟩:=x;exact⟨mA,⟨od,es,ep,k _ _ (.inl rfl) e,c⟩,r⟩
|rng lo hi=>obtain⟨t,u,v,e⟩:=x;exact⟨t,u,v,k _ _ (.inl rfl) e⟩
|frz ob u ih=>obtain⟨e,q⟩:=x;exact⟨k _ _ (.inl rfl) e,ih q⟩
|tbl ps =>
  have e:h.get? a=some { cls:=.none,data:=.fields ps }:=x
  show h'.get? a=some { cls:=.none,data:=.fields ps }
  exact k a _ (.inl rfl) e
|met f y =>
  have e:h.get? a=some (PySem.W.methodObj (.ref f) (.ref y)):=x
  show h'.get? a=some (PySem.W.methodObj (.ref f) (.ref y))
  exact k a _ (.inl rfl) e
|ext φ=>obtain⟨p,⟨o,e⟩,st⟩:=x;exact⟨st _ _ p λo q=>k _ _ (.inl rfl) q,⟨o,k _ _ (.inl rfl) e⟩,st⟩
theorem HOk.lt(x:HOk P w H h)(e:H a=some o):a<h.objs.size:=(x a o e).lt
theorem HOk.fresh(x:HOk P w H h)(e:h.objs.size<=a):H a=none:=by
 cases q:H a with
|none=>rfl
|some u=>exact absurd (Nat.lt_of_lt_of_le (x.lt q) e) (Nat.lt_irrefl _)
theorem HOk.kept(x:HOk P w H h)(k:∀b u,h.get? b=some u->h'.get? b=some u):HOk P w H h':=λa o e =>
 (x a o e).stay (λb u _ q=>k b u q) (λ_ q=>q) λ_ _ q=>q
theorem HOk.laid(x:HOk P w H h)(k:∀b u,h.get? b=some u->h'.get? b=some u)(hp:h.objs.size<=a)(new:ObjOk P w (upd H a o) h' a o):HOk P w (upd H a o) h':=λb u e=>by
 have hn:=x.fresh hp
 by_cases hb:b=a
 ·subst hb;rw[qag] at e;cases e;exact new
 ·rw[qal hb] at e
  exact(x b u e).stay (λc v _ q=>k c v q) (λc q=>by rw[qal (qce q hn)];exact q) λc xs q=>by rw[qal (qce q hn)];exact q
end
def Rd(H:Hp)(a:Addr)(u:HO):Prop:=H a=some u\/∃o,H a=some (.frz o u)
theorem Rd.ok{P:Program}{w:World}{H:Hp}{h:Heap}{a:Addr}{u:HO}(r:Rd H a u)(x:HOk P w H h):ObjOk P w H h a u:=by
 rcases r with r|⟨o,r⟩
 ·exact x a u r
 ·obtain⟨_,q⟩:=x a _ r
  exact q
def Mut:Option HO->Prop
|some (.lst _)=>True
|some (.dK _)=>True
|some (.dT _)=>True
|some (.set _ _)=>True
|some (.ins _ _ _)=>True
|some (.ext _)=>True
|_=>False
section
variable {P:Program} {w:World} {H:Hp} {h h':Heap} {x e:Addr} {o':HO}
theorem HOk.write(ok:HOk P w H h)(mu:Mut (H x))(he:e=x\/H e=some (.own x))(k:∀b u,b≠e->h.get? b=some u->h'.get? b=some u)(heo:∃u,h'.get? e=some u)
  (new:ObjOk P w (upd H x o') h' x o'):HOk P w (upd H x o') h':=λb u q=>by
 have nown:∀c y,H c=some (.own y)->c≠x:=λc y r z=>by subst z;rw[r] at mu;exact mu
 have ntup:∀c xs,H c=some (.tup xs)->c≠x:=λc xs r z=>by subst z;rw[r] at mu;exact mu
 by_cases hb:b=x
 ·subst hb;rw[qag] at q;cases q;exact new
 ·rw[qal hb] at q
  by_cases hbe:b=e
  ·have q':H b=some (.own x):=by
    rcases he with z|z
    ·exact absurd (hbe.trans z) hb
    ·rw[hbe];exact z
   rw[q] at q';cases q'
   obtain⟨v,hv⟩:=heo
   exact⟨v,by rw[hbe];exact hv⟩
  ·refine(ok b u q).stay (λc v hc r=>k c v ?_ r) (λc r=>by rw[qal (nown c b r)];exact r) λc xs r=>by rw[qal (ntup c xs r)];exact r
   rcases hc with rfl|hc
   ·exact hbe
   ·rintro rfl
    rcases he with z|z
    ·exact nown c b hc z
    ·rw[hc] at z;cases z;exact hb rfl
end
structure Un(fs ex:List Addr)(H H':Hp)(h h':Heap):Prop where
 keep:∀b o,h.get? b=some o->H b=none->b∉fs->b∉ex->h'.get? b=some o
 slot:∀b o,h.get? b=some o->H b=none->b∈fs->b∉ex->∃sl,h'.get? b=some { o with slots:=sl }
 free:∀b o,h.get? b=some o->H b=none->b∉ex->H' b=none
 there:∀b o,h.get? b=some o->b∉ex->∃o',h'.get? b=some o'
 tups:∀b xs,H b=some (.tup xs)->H' b=some (.tup xs)
 frzs:∀b o u,H b=some (.frz o u)->H' b=some (.frz o u)
 tbls:∀b ps,H b=some (.tbl ps)->∃more,H' b=some (.tbl (ps++more))
section
variable {fs fs' ex ex':List Addr} {H H1 H2:Hp} {h h1 h2 h':Heap} {a x e:Addr} {o:HO}
theorem Un.any(u:Un fs ex H H1 h h1){b:Addr}{ob:Obj}(q:h.get? b=some ob)(n:H b=none)(hx:b∉ex):∃sl,h1.get? b=some { ob with slots:=sl }:=by
 by_cases hb:b∈fs
 ·exact u.slot b ob q n hb hx
 ·exact⟨ob.slots,u.keep b ob q n hb hx⟩
theorem Un.kept(k:∀b u,h.get? b=some u->h'.get? b=some u):Un fs ex H H h h' :=
 ⟨λb ob q _ _ _=>k b ob q,λb ob q _ _ _=>⟨ob.slots,k b ob q⟩,λ_ _ _ n _=>n,λb ob q _=>⟨ob,k b ob q⟩,λ_ _ q=>q,λ_ _ _ q=>q,λ_ ps q=>⟨#[],by rw[q];simp⟩⟩
theorem Un.refl:Un fs ex H H h h:=Un.kept λ_ _ q=>q
theorem Un.laid(k:∀b u,h.get? b=some u->h'.get? b=some u)(hp:h.objs.size<=a)(hn:H a=none):Un fs ex H (upd H a o) h h' where
 keep:=λb u q _ _ _=>k b u q
 slot:=λb u q _ _ _=>⟨u.slots,k b u q⟩
 free:=λb u q n _=>by rw[qal (Nat.ne_of_lt (Nat.lt_of_lt_of_le (Heap.lt_size q) hp))];exact n
 there:=λb u q _=>⟨u,k b u q⟩
 tups:=λb xs q=>by rw[qal (qce q hn)];exact q
 frzs:=λb u xs q=>by rw[qal (qce q hn)];exact q
 tbls:=λb ps q=>⟨#[],by rw[qal (qce q hn),q];simp⟩
theorem Un.write(mu:Mut (H x))(he:e=x\/H e=some (.own x))(k:∀b u,b≠e->h.get? b=some u->h'.get? b=some u)(heo:∃u,h'.get? e=some u):Un fs ex H (upd H x o) h h':=by
 have hx:∀b,H b=none->b≠x:=λb n z=>by subst z;rw[n] at mu;exact mu
 have hb:∀b,H b=none->b≠e:=λb n z=>by
  subst z
  rcases he with r|r
  ·exact hx b n r
  ·rw[n] at r;cases r
 have hm:∀b u,H b=some u->¬ Mut (some u)->b≠x:=λb u q nm z=>by subst z;rw[q] at mu;exact nm mu
 refine⟨λb u q n _ _=>k b u (hb b n) q,λb u q n _ _=>⟨u.slots,k b u (hb b n) q⟩,λb u q n _=>by rw[qal (hx b n)];exact n,λb u q _=>?_,
  λb xs q=>by rw[qal (hm b _ q λz=>z)];exact q,λb u xs q=>by rw[qal (hm b _ q λz=>z)];exact q,λb ps q=>⟨#[],by rw[qal (hm b _ q λz=>z),q];simp⟩⟩
 by_cases hbe:b=e
 ·subst hbe;exact heo
 ·exact⟨u,k b u hbe q⟩
theorem Un.mono(u:Un fs ex H H1 h h1)(hs:∀b∈fs,b∈fs')(hx:∀b∈ex,b∈ex'):Un fs' ex' H H1 h h1 :=
 ⟨λb ob q n hb he=>u.keep b ob q n (λz=>hb (hs b z)) λz=>he (hx b z),λ_ _ q n _ he=>u.any q n λz=>he (hx _ z),λb ob q n he=>u.free b ob q n λz=>he (hx b z),λb ob q he=>u.there b ob q λz=>he (hx b z),u.tups,u.frzs,u.tbls⟩
end
def trk(h:Heap)(H:Hp):List Addr:=(List.range h.objs.size).filter λa=>(H a).isSome
def hidT(h:Heap)(H:Hp):Heap:=PySem.W.hideAll h (trk h H)
theorem qql(h:Heap)(H:Hp):(hidT h H).objs.size=h.objs.size:=PySem.W.hideAll_size _ _
theorem qs2{h:Heap}{H:Hp}{b:Addr}{o:Obj}(e:h.get? b=some o)(n:H b=none):(hidT h H).get? b=some o :=
 PySem.W.hideAll_get _ e λhm=>by
  have q:(H b).isSome=true:=(List.mem_filter.mp hm).2
  rw[n] at q;simp at q
theorem qxm{h:Heap}{H:Hp}{b:Addr}{o:Obj}(e:(hidT h H).get? b=some o):h.get? b=some o/\H b=none:=by
 have e':h.get? b=some o:=PySem.W.of_hideAll (trk h H) e
 refine⟨e',?_⟩
 cases q:H b with
|none=>rfl
|some x =>
  have hm:b∈trk h H:=List.mem_filter.mpr ⟨List.mem_range.mpr (Heap.lt_size e'),by simp[q]⟩
  have z:(hidT h H).get? b=none:=PySem.W.hideAll_none (trk h H) hm
  rw[z] at e;cases e
def qwp(g h:Heap)(L:Addr):List (Addr×Obj):=(List.range h.objs.size).filterMap λa=>if a=L\/(g.get? a).isSome=true then none else (h.get? a).map λo=>(a,o)
def rest(g h:Heap)(L d:Addr):List (Addr×Obj):=(qwp g h L).filter λp=>decide (p.1≠d)
end L2
namespace L2
open PySem PySem.Spec PyProof.Rows
structure Mod(K:PySem.W.Frag)(mg:Str->Option Value)(base:Heap):Prop where
 kin:K.In base
 glob:base.Ns mainGlobals mg
 blt:∃mb,base.Ns builtinsNs mb/\∀x:Str,x≠"__name__" -> mb x=bootBuiltins x
 nolimit:base.NoLimit
structure Cx where
 prog:Program
 w:World
 K:PySem.W.Frag
 mg:Str->Option Value
 base:Heap
 A:Around
 N:List Str
 s₀:Shared
 H₀:Hp
 env:Env
 outer:List Env
 stack:List Env
 ex:List Addr
 fn:Str->Bool
 calm:Bool
 pn:List (Addr×Obj)
 xe:Value->Shared->Prop
def frs(l:List Env):List Addr:=l.filterMap (·.frame)
abbrev Cx.fs(X:Cx):List Addr:=frs X.outer
def Vis(sc:Scope)(x:Str):Prop:=sc.names.lookup x=some .local\/sc.names.lookup x=some .cell\/sc.names.lookup x=some .free
def Loc(sc:Scope)(x:Str):Prop:=sc.names.lookup x=some .local\/sc.names.lookup x=some .cell
def Look(env:Env)(h:Heap)(m:Str->Option Value)(x:Str)(u:Value):Prop :=
 (env.kindOf x=some .local/\m x=some u)\/((env.kindOf x=some .cell\/env.kindOf x=some .free)/\∃c,env.cells.lookup x=some c/\h.IsCell c (some u))
structure Cx.Ok(X:Cx):Prop where
 mod:Mod X.K X.mg X.base
 kind:X.env.scope.kind=.function
 glob:X.env.globals=mainGlobals
 blt:X.env.builtins=builtinsNs
 above:X.s₀.heap.objs.size<=X.env.locals
 inj:∀x y c,X.env.cells.lookup x=some c->X.env.cells.lookup y=some c->x=y
 has:∀x,(X.env.kindOf x=some .cell\/X.env.kindOf x=some .free)->∃c,X.env.cells.lookup x=some c
 cab:∀x c,X.fn x=true->X.env.cells.lookup x=some c->X.s₀.heap.objs.size<=c
 hd:X.calm=true->X.A.handled=none
 frames:X.A.frames=some X.stack
 stk:X.stack=X.outer\/(X.stack=X.env::X.outer/\X.env.frame=some X.env.locals)
 exf:∀b∈X.ex,b≠X.env.locals/\∀x c,X.env.cells.lookup x=some c->c≠b
 bs:∀b o,X.base.get? b=some o->X.s₀.heap.get? b=some o/\X.H₀ b=none
 bsz:X.base.objs.size<=X.s₀.heap.objs.size
 noex:∀b o,X.base.get? b=some o->b∉X.ex
 exfs:∀b∈X.ex,b∉X.fs
 funs:X.s₀.heap.FunFrames X.base X.outer
 frf:∀b∈X.fs,X.H₀ b=none
structure Inv(X:Cx)(pins:List (Addr×Obj))(σ:List (Option V))(H:Hp)(s:Shared):Prop where
 ok:X.Ok
 os:s.os=X.s₀.os
 bare:AllBare s.gens
 base:Un X.fs X.ex X.H₀ H X.s₀.heap s.heap
 loc:∃m,s.heap.Ns X.env.locals m/\∀(i:Nat) (x:Str) (v:V),X.N[i]?=some x->σ[i]?=some (some v)->Vis X.env.scope x->∃u,RelV v u/\Look X.env s.heap m x u
 cell:∀x c,X.env.cells.lookup x=some c->∃v,s.heap.IsCell c v
 free:H X.env.locals=none
 freeC:∀x c,X.env.cells.lookup x=some c->H c=none
 pin:∀p∈X.pn++pins,s.heap.get? p.1=some p.2/\H p.1=none/\p.1≠X.env.locals/\p.1∉X.fs/\∀v,p.2.data≠.cell v
 hok:HOk X.prog X.w H s.heap
 len:σ.length=X.N.length
section
variable {X:Cx} {pins:List (Addr×Obj)} {σ:List (Option V)} {H H':Hp} {s:Shared} {h':Heap}
theorem Cx.Ok.nofr(ok:X.Ok){b:Addr}{o:Obj}(e:X.base.get? b=some o):b∉X.fs:=λhb=>by
 have:=(ok.funs.mem hb).1
 rw[e] at this;cases this
theorem Inv.bs(I:Inv X pins σ H s):∀b o,X.base.get? b=some o->s.heap.get? b=some o/\H b=none:=λb o e =>
 ⟨I.base.keep b o (I.ok.bs b o e).1 (I.ok.bs b o e).2 (I.ok.nofr e) (I.ok.noex b o e),I.base.free b o (I.ok.bs b o e).1 (I.ok.bs b o e).2 (I.ok.noex b o e)⟩
theorem Inv.bk(I:Inv X pins σ H s):∀b o,X.base.get? b=some o->s.heap.get? b=some o:=λb o e=>(I.bs b o e).1
theorem Inv.mod(I:Inv X pins σ H s):Mod X.K X.mg X.base:=I.ok.mod
theorem Inv.kIn(I:Inv X pins σ H s):X.K.In s.heap:=I.ok.mod.kin.keeps I.bk
theorem Inv.lt(I:Inv X pins σ H s):X.env.locals<s.heap.objs.size:=let ⟨_,hn,_⟩:=I.loc;hn.lt
theorem Inv.sz(I:Inv X pins σ H s):X.s₀.heap.objs.size<=s.heap.objs.size:=Nat.le_trans I.ok.above (Nat.le_of_lt I.lt)
theorem Inv.nofs(I:Inv X pins σ H s){a:Addr}(h:s.heap.objs.size<=a):a∉X.fs:=λhb=>by
 obtain⟨_,o,ho,_⟩:=I.ok.funs.mem hb
 exact absurd (Nat.lt_of_lt_of_le (Heap.lt_size ho) (Nat.le_trans I.sz h)) (Nat.lt_irrefl _)
theorem Inv.cne(I:Inv X pins σ H s):∀x c,X.env.cells.lookup x=some c->c≠X.env.locals:=λx c e z=>by
 obtain⟨v,o,ho,hd⟩:=I.cell x c e
 obtain⟨m,⟨o',es,ep,ho',hd',_⟩,_⟩:=I.loc
 rw[z,ho'] at ho;cases ho;rw[hd'] at hd;cases hd
theorem Inv.funs(I:Inv X pins σ H s):s.heap.FunFrames X.base X.outer:=by
 have all:∀(l:List Env),(∀b∈frs l,b∈X.fs)->X.s₀.heap.FunFrames X.base l->s.heap.FunFrames X.base l:=by
  intro l
  induction l with
 |nil=>intro _ _;trivial
 |cons env r ih =>
   intro hs hl
   obtain⟨hk,⟨L,o,hf,hn,ho,hd⟩,hr⟩:=hl
   have hL:L∈X.fs:=hs L (by unfold frs;rw[List.filterMap_cons,hf];exact List.mem_cons_self)
   obtain⟨sl,e⟩:=I.base.slot L o ho (I.ok.frf L hL) hL λz=>I.ok.exfs L z hL
   exact⟨hk,⟨L,_,hf,hn,e,hd⟩,ih (λb hb=>hs b (by unfold frs;rw[List.filterMap_cons,hf];exact List.mem_cons_of_mem _ hb)) hr⟩
 exact all X.outer (λ_ hb=>hb) I.ok.funs
theorem Inv.stack(I:Inv X pins σ H s):s.heap.FunFrames X.base X.stack:=by
 rcases I.ok.stk with e|⟨e,hf⟩
 ·rw[e];exact I.funs
 ·rw[e]
  obtain⟨m,hn,_⟩:=I.loc
  refine .cons (by rw[I.ok.kind];decide) hf hn ?_ I.funs
  exact Heap.get?_none_of_le (Nat.le_trans I.ok.bsz I.ok.above)
theorem Inv.stkSub(I:Inv X pins σ H s):∀b∈frs X.stack,b∈X.env.locals::X.fs:=λb hb=>by
 rcases I.ok.stk with e|⟨e,hf⟩
 ·rw[e] at hb;exact List.mem_cons_of_mem _ hb
 ·rw[e] at hb
  unfold frs at hb
  rw[List.filterMap_cons,hf] at hb
  exact hb
theorem Inv.stkFree(I:Inv X pins σ H s):∀b∈frs X.stack,H b=none:=λb hb=>by
 rcases List.mem_cons.mp (I.stkSub b hb) with e|hb
 ·rw[e];exact I.free
 ·obtain⟨_,o,ho,_⟩:=I.ok.funs.mem hb
  exact I.base.free b o ho (I.ok.frf b hb) λz=>I.ok.exfs b z hb
theorem Inv.step{g':Array GenState}{t':Nat}{d':Drawn}{ch:List Addr}(I:Inv X pins σ H s)
  (hch:∀b∈ch,(b∈X.ex\/X.s₀.heap.objs.size<=b)/\b≠X.env.locals/\(∀x c,X.env.cells.lookup x=some c->c≠b)/\∀p∈X.pn++pins,p.1≠b)
  (keep:∀b o,b≠X.env.locals->b∉X.fs->b∉ch->s.heap.get? b=some o->H b=none->h'.get? b=some o)
  (slot:∀b o,b≠X.env.locals->b∈X.fs->b∉ch->s.heap.get? b=some o->H b=none->∃sl,h'.get? b=some { o with slots:=sl }) (free:∀b o,b∉ch->s.heap.get? b=some o->H b=none->H' b=none)
  (there:∀b o,b∉ch->s.heap.get? b=some o->∃o',h'.get? b=some o')
  (tups:∀b xs,H b=some (.tup xs)->H' b=some (.tup xs)) (frzs:∀b o u,H b=some (.frz o u)->H' b=some (.frz o u)) (tbls:∀b ps,H b=some (.tbl ps)->∃more,H' b=some (.tbl (ps++more)))
  (ns:∀m,s.heap.Ns X.env.locals m->h'.Ns X.env.locals m) (hok:HOk X.prog X.w H' h') (hg:AllBare g') :
  Inv X pins σ H' { s with heap:=h',gens:=g',drawn:=d',toks:=t' }:=by
 have neL:∀b o,X.s₀.heap.get? b=some o->b≠X.env.locals:=λb o e=>Nat.ne_of_lt (Nat.lt_of_lt_of_le (Heap.lt_size e) I.ok.above)
 have neC:∀b o,X.s₀.heap.get? b=some o->b∉X.ex->b∉ch:=λb o e hx hb=>by
  rcases (hch b hb).1 with z|z
  ·exact hx z
  ·exact absurd (Nat.lt_of_lt_of_le (Heap.lt_size e) z) (Nat.lt_irrefl _)
 have cellK:∀x c,X.env.cells.lookup x=some c->∀v,s.heap.IsCell c v->h'.IsCell c v:=λx c e v ⟨o,ho,hd⟩=>by
  have nch:c∉ch:=λz=>(hch c z).2.2.1 x c e rfl
  by_cases hc:c∈X.fs
  ·obtain⟨sl,q⟩:=slot c o (I.cne x c e) hc nch ho (I.freeC x c e)
   exact⟨_,q,hd⟩
  ·exact⟨o,keep c o (I.cne x c e) hc nch ho (I.freeC x c e),hd⟩
 refine⟨I.ok,I.os,hg,⟨λb o e n hb hx=>?_,λb o e n hb hx=>?_,λb o e n hx=>?_,λb o e hx=>?_,λb xs e=>tups b xs (I.base.tups b xs e),λb o xs e=>frzs b o xs (I.base.frzs b o xs e),λb ps e=>?_⟩,?_,λx c e=>?_,?_,λx c e=>?_,λp hp=>?_,hok,I.len⟩
 ·exact keep b o (neL b o e) hb (neC b o e hx) (I.base.keep b o e n hb hx) (I.base.free b o e n hx)
 ·obtain⟨sl,e1⟩:=I.base.slot b o e n hb hx
  obtain⟨sl',e2⟩:=slot b _ (neL b o e) hb (neC b o e hx) e1 (I.base.free b o e n hx)
  exact⟨sl',e2⟩
 ·obtain⟨o',e1⟩:=I.base.there b o e hx
  exact free b o' (neC b o e hx) e1 (I.base.free b o e n hx)
 ·obtain⟨o',e1⟩:=I.base.there b o e hx
  exact there b o' (neC b o e hx) e1
 ·obtain⟨m1,e1⟩:=I.base.tbls b ps e
  obtain⟨m2,e2⟩:=tbls b _ e1
  exact⟨m1++m2,by rw[e2,Array.append_assoc]⟩
 ·obtain⟨m,hn,hl⟩:=I.loc
  refine⟨m,ns m hn,λi x v e1 e2 e3=>?_⟩
  obtain⟨u,r,l⟩:=hl i x v e1 e2 e3
  refine⟨u,r,?_⟩
  rcases l with l|⟨k,c,e,z⟩
  ·exact .inl l
  ·exact .inr ⟨k,c,e,cellK x c e _ z⟩
 ·obtain⟨v,z⟩:=I.cell x c e
  exact⟨v,cellK x c e v z⟩
 ·obtain⟨m,⟨o,_,_,ho,_⟩,_⟩:=I.loc
  exact free _ o (λz=>(hch _ z).2.1 rfl) ho I.free
 ·obtain⟨v,o,ho,hd⟩:=I.cell x c e
  exact free c o (λz=>(hch c z).2.2.1 x c e rfl) ho (I.freeC x c e)
 ·obtain⟨e,n,ne,nf,d⟩:=I.pin p hp
  have nch:p.1∉ch:=λz=>(hch p.1 z).2.2.2 p hp rfl
  exact⟨keep p.1 p.2 ne nf nch e n,free p.1 p.2 nch e n,ne,nf,d⟩
theorem Inv.un{t':Nat}(I:Inv X pins σ H s)(u:Un X.fs [] H H' s.heap h')(hok:HOk X.prog X.w H' h'):Inv X pins σ H' { s with heap:=h',toks:=t' }:=by
 obtain⟨m,⟨o,es,ep,ho,r⟩,_⟩:=id I.loc
 obtain⟨sl,hL⟩:=u.any ho I.free (by simp)
 exact I.step (g':=s.gens) (d':=s.drawn) (ch:=[]) (λ_ z=>nomatch z) (λb o _ hb _ e n=>u.keep b o e n hb (by simp)) (λb o _ hb _ e n=>u.slot b o e n hb (by simp)) (λb o _ e n=>u.free b o e n (by simp)) (λb o _ e=>u.there b o e (by simp)) u.tups u.frzs u.tbls (λm' hm=>by
  obtain⟨o',es',ep',ho',r'⟩:=hm
  rw[ho] at ho';cases ho'
  exact⟨_,es',ep',hL,r'⟩) hok I.bare
theorem Inv.call{g':Array GenState}{t':Nat}{d':Drawn}{ch:List Addr}(I:Inv X pins σ H s)(u:Un (frs X.stack) ch H H' s.heap h')(hok:HOk X.prog X.w H' h')(hg:AllBare g')
  (hch:∀b∈ch,(b∈X.ex\/X.s₀.heap.objs.size<=b)/\b≠X.env.locals/\(∀x c,X.env.cells.lookup x=some c->c≠b)/\∀p∈X.pn++pins,p.1≠b) :
  Inv X pins σ H' { s with heap:=h',gens:=g',drawn:=d',toks:=t' }:=by
 obtain⟨m,⟨o,es,ep,ho,r⟩,_⟩:=id I.loc
 obtain⟨sl,hL⟩:=u.any ho I.free λz=>(hch _ z).2.1 rfl
 exact I.step (ch:=ch) hch (λb o hL hb hc e n=>u.keep b o e n (λz=>(List.mem_cons.mp (I.stkSub b z)).elim hL hb) hc) (λb o _ _ hc e n=>u.any e n hc) (λb o hc e n=>u.free b o e n hc) (λb o hc e=>u.there b o e hc) u.tups u.frzs u.tbls (λm' hm=>by
  obtain⟨o',es',ep',ho',r'⟩:=hm
  rw[ho] at ho';cases ho'
  exact⟨_,es',ep',hL,r'⟩) hok hg
theorem Inv.turned{t':Nat}{it:Addr}(I:Inv X pins σ H s)(k:∀b o,b≠it->s.heap.get? b=some o->h'.get? b=some o)(hn:H it=none)(hL:it≠X.env.locals)
  (h1:it∈X.ex\/X.s₀.heap.objs.size<=it) (h2:∀x c,X.env.cells.lookup x=some c->c≠it) (h3:∀p∈X.pn++pins,p.1≠it):Inv X pins σ H { s with heap:=h',toks:=t' }:=by
 have nit:∀b u,H b=some u->b≠it:=λb u e z=>by rw[z,hn] at e;cases e
 refine I.step (g':=s.gens) (d':=s.drawn) (ch:=[it]) (λb hb=>?_) (λb o _ _ hc e _=>k b o (λz=>hc (by simp[z])) e) (λb o _ _ hc e _=>⟨o.slots,k b o (λz=>hc (by simp[z])) e⟩) (λ_ _ _ _ n=>n)
  (λb o hc e=>⟨o,k b o (λz=>hc (by simp[z])) e⟩) (λ_ _ e=>e) (λ_ _ _ e=>e) (λb ps e=>⟨#[],by rw[e];simp⟩) (λm hm=>?_) (λb u e=>?_) I.bare
 ·have e:b=it:=by simpa using hb
  subst e
  exact⟨h1,hL,h2,h3⟩
 ·obtain⟨o,es,ep,ho,r⟩:=hm
  exact⟨o,es,ep,k _ o (Ne.symm hL) ho,r⟩
 ·refine(I.hok b u e).stay (λc v hc q=>k c v ?_ q) (λ_ q=>q) λ_ _ q=>q
  rcases hc with z|z
  ·rw[z];exact nit b u e
  ·exact nit c _ z
theorem Inv.tok(I:Inv X pins σ H s)(t:Nat):Inv X pins σ H { s with toks:=t }:=I.un (h':=s.heap) (t':=t) Un.refl I.hok
theorem Inv.kept{t':Nat}(I:Inv X pins σ H s)(k:∀b u,s.heap.get? b=some u->h'.get? b=some u):Inv X pins σ H { s with heap:=h',toks:=t' }:=I.un (Un.kept k) (I.hok.kept k)
theorem Inv.laid{a:Addr}{o:HO}{t':Nat}(I:Inv X pins σ H s)(k:∀b u,s.heap.get? b=some u->h'.get? b=some u)(hp:s.heap.objs.size<=a)(new:ObjOk X.prog X.w (upd H a o) h' a o) :
  Inv X pins σ (upd H a o) { s with heap:=h',toks:=t' }:=I.un (Un.laid k hp (I.hok.fresh hp)) (I.hok.laid k hp new)
theorem Inv.write{x e:Addr}{o:HO}{t':Nat}(I:Inv X pins σ H s)(mu:Mut (H x))(he:e=x\/H e=some (.own x))(k:∀b u,b≠e->s.heap.get? b=some u->h'.get? b=some u)(heo:∃u,h'.get? e=some u)
  (new:ObjOk X.prog X.w (upd H x o) h' x o):Inv X pins σ (upd H x o) { s with heap:=h',toks:=t' }:=I.un (Un.write mu he k heo) (I.hok.write mu he k heo new)
theorem Inv.pins_of{pins':List (Addr×Obj)}(I:Inv X pins σ H s)(h:∀p∈pins',s.heap.get? p.1=some p.2/\H p.1=none/\p.1≠X.env.locals/\p.1∉X.fs/\∀v,p.2.data≠.cell v):Inv X pins' σ H s :=
 ⟨I.ok,I.os,I.bare,I.base,I.loc,I.cell,I.free,I.freeC,λp hp=>(List.mem_append.mp hp).elim (λz=>I.pin p (List.mem_append_left _ z)) (h p),I.hok,I.len⟩
theorem qny{N:List Str}(hN:N.Nodup){i j:Nat}{x:Str}(a:N[i]?=some x)(b:N[j]?=some x):i=j:=by
 obtain⟨h1,e1⟩:=List.getElem?_eq_some_iff.mp a
 obtain⟨h2,e2⟩:=List.getElem?_eq_some_iff.mp b
 exact(List.getElem_inj hN).mp (e1.trans e2.symm)
theorem qk2{M:Model}{A:Around}{E:Value->Shared->Prop}{i:Nat}{x:Str}{v:V}{u:Value}{Q:Unit->Shared->Prop}(I:Inv X pins σ H s)(hN:X.N.Nodup)(hi:X.N[i]?=some x)(hx:Loc X.env.scope x)(r:RelV v u)
  (h:∀s',Inv X pins (σ.set i (some v)) H s'->(∃a,Heap.SameBut a s.heap s'.heap/\(a=X.env.locals\/X.env.cells.lookup x=some a))->Q () s') (hf:X.fn x=true\/X.env.scope.names.lookup x=some .local:=by first|exact .inl rfl|exact .inr rfl|assumption):wpAny M A (storeName X.env x u) Q E s:=by
 obtain⟨m,hn,hl⟩:=id I.loc
 have hcls:(X.env.scope.kind==.class||(X.env.scope.kind==.module&&X.env.locals != X.env.globals))=false:=by rw[I.ok.kind];rfl
 have hiσ:i<σ.length:=by rw[I.len];exact(List.getElem?_eq_some_iff.mp hi).1
 have cne:=I.cne
 have tracked:∀ {a:Addr} {h':Heap},(∃o,s.heap.get? a=some o/\H a=none)->Heap.SameBut a s.heap h'->HOk X.prog X.w H h':=λ{a h'} ha hs b ob e=>by
  obtain⟨_,_,hfree⟩:=ha
  refine(I.hok b ob e).stay (λc w' hc q=>(hs.2 c ?_).trans q) (λ_ q=>q) λ_ _ q=>q
  rintro rfl
  rcases hc with rfl|hc
  ·rw[hfree] at e;cases e
  ·rw[hfree] at hc;cases hc
 rcases hx with hk|hk
 ·refine wpAny_storeName_local hk hn (λh' hn' hs=>?_) hcls
  obtain⟨oL,_,_,hoL,_⟩:=id hn
  refine h _ ⟨I.ok,I.os,I.bare,⟨λb o e n hb hx=>?_,λb o e n hb hx=>?_,I.base.free,λb o e hx=>?_,I.base.tups,I.base.frzs,I.base.tbls⟩,⟨_,hn',λj y v' e1 e2 e3=>?_⟩,λy c e=>?_,I.free,I.freeC,λp hp=>?_,tracked ⟨oL,hoL,I.free⟩ hs,by simpa using I.len⟩ ⟨_,hs,.inl rfl⟩
  ·exact(hs.2 b (Nat.ne_of_lt (Nat.lt_of_lt_of_le (Heap.lt_size e) I.ok.above))).trans (I.base.keep b o e n hb hx)
  ·obtain⟨sl,e1⟩:=I.base.slot b o e n hb hx
   exact⟨sl,(hs.2 b (Nat.ne_of_lt (Nat.lt_of_lt_of_le (Heap.lt_size e) I.ok.above))).trans e1⟩
  ·obtain⟨o',e1⟩:=I.base.there b o e hx
   exact⟨o',(hs.2 b (Nat.ne_of_lt (Nat.lt_of_lt_of_le (Heap.lt_size e) I.ok.above))).trans e1⟩
  ·by_cases hj:j=i
   ·subst hj
    rw[hi] at e1;cases e1
    rw[List.getElem?_set_self hiσ] at e2
    cases e2
    exact⟨u,r,.inl ⟨hk,by simp⟩⟩
   ·rw[List.getElem?_set_ne (Ne.symm hj)] at e2
    obtain⟨u',r',q⟩:=hl j y v' e1 e2 e3
    refine⟨u',r',?_⟩
    rcases q with ⟨k,e⟩|⟨k,c,e,z⟩
    ·refine .inl ⟨k,?_⟩
     have:y≠x:=λe=>hj (qny hN e1 (e▸hi))
     simp[this,e]
    ·exact .inr ⟨k,c,e,z.sameBut hs (cne y c e)⟩
  ·obtain⟨w',z⟩:=I.cell y c e
   exact⟨w',z.sameBut hs (cne y c e)⟩
  ·obtain⟨e,n,ne,nf,d⟩:=I.pin p hp
   exact⟨(hs.2 p.1 ne).trans e,n,ne,nf,d⟩
 ·have hfn:X.fn x=true:=by
   rcases hf with z|z
   ·exact z
   ·rw[z] at hk;cases hk
  obtain⟨c,hc⟩:=I.ok.has x (.inl hk)
  obtain⟨w',z⟩:=I.cell x c hc
  refine wpAny_storeName_cell I.ok.kind hk hc z (λh' hc' hs=>?_)
  obtain⟨oc,hoc,hocd⟩:=id z
  refine h { s with heap:=h' } ⟨I.ok,I.os,I.bare,⟨λb o e n hb hx=>?_,λb o e n hb hx=>?_,I.base.free,λb o e hx=>?_,I.base.tups,I.base.frzs,I.base.tbls⟩,⟨m,hn.sameBut hs (Ne.symm (cne x c hc)),λj y v' e1 e2 e3=>?_⟩,λy c' e=>?_,I.free,I.freeC,λp hp=>?_,tracked ⟨oc,hoc,I.freeC x c hc⟩ hs,by simpa using I.len⟩ ⟨c,hs,.inr hc⟩
  ·exact(hs.2 b (Nat.ne_of_lt (Nat.lt_of_lt_of_le (Heap.lt_size e) (I.ok.cab x c hfn hc)))).trans (I.base.keep b o e n hb hx)
  ·obtain⟨sl,e1⟩:=I.base.slot b o e n hb hx
   exact⟨sl,(hs.2 b (Nat.ne_of_lt (Nat.lt_of_lt_of_le (Heap.lt_size e) (I.ok.cab x c hfn hc)))).trans e1⟩
  ·obtain⟨o',e1⟩:=I.base.there b o e hx
   exact⟨o',(hs.2 b (Nat.ne_of_lt (Nat.lt_of_lt_of_le (Heap.lt_size e) (I.ok.cab x c hfn hc)))).trans e1⟩
  ·by_cases hj:j=i
   ·subst hj
    rw[hi] at e1;cases e1
    rw[List.getElem?_set_self hiσ] at e2
    cases e2
    exact⟨u,r,.inr ⟨.inl hk,c,hc,hc'⟩⟩
   ·rw[List.getElem?_set_ne (Ne.symm hj)] at e2
    obtain⟨u',r',q⟩:=hl j y v' e1 e2 e3
    refine⟨u',r',?_⟩
    rcases q with q|⟨k,c',e,z'⟩
    ·exact .inl q
    ·refine .inr ⟨k,c',e,z'.sameBut hs ?_⟩
     rintro rfl
     exact hj (qny hN e1 (I.ok.inj _ _ _ e hc▸hi))
  ·by_cases hcc:c'=c
   ·subst hcc;exact⟨_,hc'⟩
   ·obtain⟨w2,z2⟩:=I.cell y c' e
    exact⟨w2,z2.sameBut hs hcc⟩
  ·obtain⟨e,n,ne,nf,d⟩:=I.pin p hp
   refine⟨(hs.2 p.1 ?_).trans e,n,ne,nf,d⟩
   intro q
   rw[q,hoc] at e
   have q':oc=p.2:=Option.some.inj e
   exact d w' (by rw[←q'];exact hocd)
theorem qjp{M:Model}{A:Around}{E:Value->Shared->Prop}{i:Nat}{x:Str}{v:V}{u:Value}{Q:Unit->Shared->Prop}(I:Inv X pins σ H s)(hN:X.N.Nodup)(hi:X.N[i]?=some x)(hx:Loc X.env.scope x)(r:RelV v u)
  (h:∀s',Inv X pins (σ.set i (some v)) H s'->Q () s') (hf:X.fn x=true\/X.env.scope.names.lookup x=some .local:=by first|exact .inl rfl|exact .inr rfl|assumption):wpAny M A (storeName X.env x u) Q E s :=
 qk2 I hN hi hx r (λs' I' _=>h s' I') hf
theorem Inv.call'{s':Shared}{ch:List Addr}(I:Inv X pins σ H s)(ho:s'.os=s.os)(u:Un (frs X.stack) ch H H' s.heap s'.heap)(hok:HOk X.prog X.w H' s'.heap)(hg:AllBare s'.gens)
  (hch:∀b∈ch,(b∈X.ex\/X.s₀.heap.objs.size<=b)/\b≠X.env.locals/\(∀x c,X.env.cells.lookup x=some c->c≠b)/\∀p∈X.pn++pins,p.1≠b):Inv X pins σ H' s':=by
 obtain⟨h',g',d',t',o'⟩:=s'
 have e:o'=s.os:=ho
 subst e
 exact I.call (g':=g') (t':=t') (d':=d') u hok hg hch
end
abbrev XK:=Value->Option Addr->Hp->Prop
abbrev St:=List (Option V)
abbrev VK:=V->Hp->Prop
abbrev TE:=St->Hp->VK->Prop
abbrev TT:=St->Hp->(Bool->Hp->Prop)->Prop
abbrev TA:=St->Hp->(List V->Hp->Prop)->Prop
structure Ends where
 nx:St->Hp->Prop
 rt:VK
 bk:St->Hp->Prop:=λ_ _=>False
 ct:St->Hp->Prop:=λ_ _=>False
abbrev TS:=Ends->St->Hp->Prop
def EP(X:Cx)(pins:List (Addr×Obj))(σ:St)(Q:VK)(u:Value)(s':Shared):Prop:=∃v H',Inv X pins σ H' s'/\RelV v u/\Q v H'
def TP(X:Cx)(pins:List (Addr×Obj))(σ:St)(Q:Bool->Hp->Prop)(b:Bool)(s':Shared):Prop:=∃H',Inv X pins σ H' s'/\Q b H'
def AP(X:Cx)(pins:List (Addr×Obj))(σ:St)(Q:List V->Hp->Prop)(us:List Value)(s':Shared):Prop:=∃vs H',Inv X pins σ H' s'/\Vals vs us/\Q vs H'
def SP(X:Cx)(pins:List (Addr×Obj))(D:Ends)(f:Flow)(s':Shared):Prop :=
 match f with
|.next=>∃σ' H',Inv X pins σ' H' s'/\D.nx σ' H'
|.brk=>∃σ' H',Inv X pins σ' H' s'/\D.bk σ' H'
|.cont=>∃σ' H',Inv X pins σ' H' s'/\D.ct σ' H'
|.ret u=>∃v σ' H',Inv X pins σ' H' s'/\RelV v u/\D.rt v H'
def PE(X:Cx)(e:Expr)(t:TE):Prop :=
 ∀(pins:List (Addr×Obj)) (s:Shared) (σ:St) (H:Hp) (Q:VK),Inv X pins σ H s->t σ H Q->wpAny (model X.prog X.w) X.A (eval e X.env) (EP X pins σ Q) X.xe s
def PT(X:Cx)(e:Expr)(t:TT):Prop :=
 ∀(pins:List (Addr×Obj)) (s:Shared) (σ:St) (H:Hp) (Q:Bool->Hp->Prop),Inv X pins σ H s->t σ H Q->wpAny (model X.prog X.w) X.A (isTrue e X.env (eval e X.env)) (TP X pins σ Q) X.xe s
def PW(X:Cx)(e:Expr)(t:TT):Prop :=
 ∀(whole:Sem Value) (pins:List (Addr×Obj)) (s:Shared) (σ:St) (H:Hp) (Q:Bool->Hp->Prop),Inv X pins σ H s->t σ H Q->wpAny (model X.prog X.w) X.A (isTrue e X.env whole) (TP X pins σ Q) X.xe s
theorem PW.pt{X:Cx}{e:Expr}{t:TT}(h:PW X e t):PT X e t:=h _
def PA(X:Cx)(es:List Expr)(t:TA):Prop :=
 ∀(pos:Pos) (pins:List (Addr×Obj)) (s:Shared) (σ:St) (H:Hp) (Q:List V->Hp->Prop),Inv X pins σ H s->t σ H Q->wpAny (model X.prog X.w) X.A (spliced (backTo pos (starEach es X.env))) (AP X pins σ Q) X.xe s
def PS(X:Cx)(st:Stmt)(t:TS):Prop :=
 ∀(pins:List (Addr×Obj)) (s:Shared) (σ:St) (H:Hp) (D:Ends),Inv X pins σ H s->t D σ H->wpAny (model X.prog X.w) X.A (exec st X.env) (SP X pins D) X.xe s
def PSs(X:Cx)(st:List Stmt)(t:TS):Prop :=
 ∀(pins:List (Addr×Obj)) (s:Shared) (σ:St) (H:Hp) (D:Ends),Inv X pins σ H s->t D σ H->wpAny (model X.prog X.w) X.A (execs st X.env) (SP X pins D) X.xe s
theorem thn{α:Type}{t:Sem α}{Q Q':α->Shared->Prop}{M:Model}{A:Around}{E:Value->Shared->Prop}{s:Shared}(h:wpAny M A t Q E s)(hQ:∀a s,Q a s->Q' a s):wpAny M A t Q' E s:=wpAny_mono h hQ λ_ _ x=>x
end L2
namespace L2
open PySem PySem.Spec PyProof.Rows
section
variable {X:Cx}
theorem bin{a b:Expr}{ta tb:TE}(ha:PE X a ta)(hb:PE X b tb){pins:List (Addr×Obj)}{s:Shared}{σ:St}{H:Hp}{R:V->V->Hp->Prop}(I:Inv X pins σ H s)(h:ta σ H λx H1=>tb σ H1 λy H2=>R x y H2)
  {α:Type} {Q:α->Shared->Prop} {f:Value->Value->Sem α}
  (hf:∀v u s2 x y H2,Inv X pins σ H2 s2->RelV x v->RelV y u->R x y H2->wpAny (model X.prog X.w) X.A (f v u) Q X.xe s2) :
  wpAny (model X.prog X.w) X.A (eval a X.env) (λv s₁=>wpAny (model X.prog X.w) X.A (eval b X.env) (λu s₂=>wpAny (model X.prog X.w) X.A (f v u) Q X.xe s₂) X.xe s₁) X.xe s:=by
 refine thn (ha pins s σ H _ I h) λv s1 ⟨x,H1,I1,r1,q1⟩=>?_
 refine thn (hb pins s1 σ H1 _ I1 q1) λu s2 ⟨y,H2,I2,r2,q2⟩=>?_
 exact hf v u s2 x y H2 I2 r1 r2 q2
def tVar(i:Nat):TE:=λσ H Q=>∃v,σ[i]?=some (some v)/\Q v H
def tC(v:V):TE:=λ_ H Q=>Q v H
theorem q09{i:Nat}{x:Str}{pos:Pos}(hN:X.N[i]?=some x)(hv:Vis X.env.scope x)(hd:(x==("__debug__" : Str))=false:=by decide)(hcd:(x==("__classdict__" : Str))=false:=by decide):PE X (.Name x pos) (tVar i):=by
 intro pins s σ H Q I h
 obtain⟨v,e,h⟩:=h
 obtain⟨m,hn,hl⟩:=I.loc
 obtain⟨u,r,l⟩:=hl i x v hN e hv
 have fin:EP X pins σ Q u s:=⟨v,H,I,r,h⟩
 rcases l with ⟨hk,hm⟩|⟨hk,c,hc,hcell⟩
 ·exact wpAny_Name (wpAny_loadName_local I.ok.kind hk hn hm fin) hd
 ·rcases hk with hk|hk
  ·exact wpAny_Name (wpAny_loadName_cell I.ok.kind hk hc hcell fin) hd
  ·exact wpAny_Name (wpAny_loadName_free I.ok.kind hk hc hcell fin hcd) hd
theorem q02{i j pos}:PE X (.Constant (.int i) j pos) (tC (.int i)):=λ_ _ _ H _ I h=>wpAny_Constant_int ⟨.int i,H,I.tok _,⟨_,rfl⟩,h⟩
theorem q3d{b j pos}:PE X (.Constant (.bool b) j pos) (tC (.bl b)):=λ_ _ _ H _ I h=>Constant_bool ⟨.bl b,H,I,rfl,h⟩
theorem q04{j pos}:PE X (.Constant .none j pos) (tC .non):=λ_ _ _ H _ I h=>Constant_none ⟨.non,H,I,rfl,h⟩
theorem q07{x j pos}:PE X (.Constant (.str x) j pos) (tC (.str x)):=λ_ _ _ H _ I h=>Calls.Constant_str ⟨.str x,H,I.tok _,⟨_,rfl⟩,h⟩
def Gl(X:Cx)(x:Str):Prop:=X.env.kindOf x=some .globalImplicit
theorem qgu{E:Value->Shared->Prop}{pins:List (Addr×Obj)}{s:Shared}{σ:St}{H:Hp}{x:Str}{u:Value}{pos:Pos}{Q:Value->Shared->Prop}(I:Inv X pins σ H s)(hg:Gl X x)(hm:X.mg x=some u)(h:Q u s)
  (hd:(x==("__debug__" : Str))=false:=by decide):wpAny (model X.prog X.w) X.A (eval (.Name x pos) X.env) Q E s :=
 Calls.Name_function_global I.ok.kind hg (Calls.loadGlobal_global (by rw[I.ok.glob];exact I.mod.glob.keeps I.bk) hm h) hd
theorem qno{E:Value->Shared->Prop}{pins:List (Addr×Obj)}{s:Shared}{σ:St}{H:Hp}{x:Str}{u:Value}{pos:Pos}{Q:Value->Shared->Prop}(I:Inv X pins σ H s)(hg:Gl X x)(hm:X.mg x=none)(hv:bootBuiltins x=some u)(h:Q u s)
  (hn:x≠"__name__" := by decide) (hd:(x==("__debug__" : Str))=false:=by decide):wpAny (model X.prog X.w) X.A (eval (.Name x pos) X.env) Q E s:=by
 obtain⟨mb,h1,h2⟩:=I.mod.blt
 exact Calls.Name_function_global I.ok.kind hg (Calls.loadGlobal_builtin (by rw[I.ok.glob];exact I.mod.glob.keeps I.bk) hm (by rw[I.ok.blt];exact h1.keeps I.bk) ((h2 x hn).trans hv) h) hd
theorem qx1{x:Str}{v:V}{u:Value}{pos:Pos}(hg:Gl X x)(hm:X.mg x=some u)(r:RelV v u)(hd:(x==("__debug__" : Str))=false:=by decide):PE X (.Name x pos) (tC v) :=
 λ_ _ _ H _ I h=>qgu I hg hm ⟨v,H,I,r,h⟩ hd
theorem qxx{x:Str}{v:V}{u:Value}{pos:Pos}(hg:Gl X x)(hm:X.mg x=none)(hv:bootBuiltins x=some u)(r:RelV v u)(hn:x≠"__name__" := by decide)(hd:(x==("__debug__" : Str))=false:=by decide):PE X (.Name x pos) (tC v) :=
 λ_ _ _ H _ I h=>qno I hg hm hv ⟨v,H,I,r,h⟩ hn hd
variable {a b:Expr} {ta tb:TE} {pos:Pos}
def PC(X:Cx)(op:CmpOp)(a b:Expr)(t:TE):Prop :=
 ∀(pins:List (Addr×Obj)) (s:Shared) (σ:St) (H:Hp) (Q:VK),Inv X pins σ H s->t σ H Q ->
  wpAny (model X.prog X.w) X.A (eval a X.env) (λv s₁=>wpAny (model X.prog X.w) X.A (eval b X.env) (λu s₂=>wpAny (model X.prog X.w) X.A (compareOp op v u) (EP X pins σ Q) X.xe s₂) X.xe s₁) X.xe s
theorem qnx(b:Expr){op:CmpOp}(h:op≠.In)(h2:op≠.NotIn):behindInMarks op b=false:=by
 have e1:(op==CmpOp.In)=false:=by cases op<;>first|rfl|exact absurd rfl h
 have e2:(op==CmpOp.NotIn)=false:=by cases op<;>first|rfl|exact absurd rfl h2
 cases b<;>simp[behindInMarks,e1,e2]
def tB(t:TE):TT:=λσ H Q=>t σ H λx H1=>∃c,x=.bl c/\Q c H1
theorem q00{op:CmpOp}{t:TE}(h:PC X op a b t)(h1:behindInMarks op b=false:=by first|exact qnx _ (by decide) (by decide)|rfl):PE X (.Compare a [op] [b] pos) t:=λpins s σ H Q I hw=>wpAny_Compare1 (h pins s σ H Q I hw) h1
theorem qvr{op:CmpOp}{t:TE}(h:PC X op a b t)(h1:behindInMarks op b=false:=by first|exact qnx _ (by decide) (by decide)|rfl):PT X (.Compare a [op] [b] pos) (tB t):=by
 intro pins s σ H Q I hw
 refine wpAny_isTrue_Compare1 (thn (h pins s σ H _ I hw) λv s1 h1=>thn h1 λu s2 h2=>thn h2 λc s3 ⟨x,H1,I1,r1,q1⟩=>?_) h1
 obtain⟨d,rfl,q⟩:=q1
 cases r1
 exact wpAny_truthy_bool ⟨H1,I1,q⟩
theorem q1k{e:Expr}{t:TE}(h:PE X e t)(he:∀whole,isTrue e X.env whole=(do let v ←whole;standAt e.pos;holding [v] (truthy v)):=by intro _;rfl):PT X e (tB t):=by
 intro pins s σ H Q I hw
 refine isTrue_plain (thn (h pins s σ H _ I hw) λv s1 ⟨x,H1,I1,r1,q1⟩=>?_) (he _)
 obtain⟨d,rfl,q⟩:=q1
 cases r1
 exact wpAny_truthy_bool ⟨H1,I1,q⟩
variable {tA tB':TT} {rest:List Expr}
def tAnd(t u:TT):TT:=λσ H Q=>t σ H λc H1=>if c=true then u σ H1 Q else Q false H1
def tOr(t u:TT):TT:=λσ H Q=>t σ H λc H1=>if c=true then Q true H1 else u σ H1 Q
def tNot(t:TT):TT:=λσ H Q=>t σ H λc H1=>Q (!c) H1
theorem qyi(ha:PT X a tA):PW X (.BoolOp .And [a] pos) tA:=by
 intro wh pins s σ H Q I h
 refine isTrue_and (thn (ha pins s σ H Q I h) λc s1 e=>?_)
 cases c with
|true=>exact isTrue_and_nil e
|false=>exact e
theorem q1m(ha:PT X a tA):PW X (.BoolOp .Or [a] pos) tA:=by
 intro wh pins s σ H Q I h
 refine isTrue_or (thn (ha pins s σ H Q I h) λc s1 e=>?_)
 cases c with
|false=>exact isTrue_or_nil e
|true=>exact e
theorem q1l(ha:PT X a tA)(hb:PW X (.BoolOp .And (b::rest) pos) tB'):PW X (.BoolOp .And (a::b::rest) pos) (tAnd tA tB'):=by
 intro wh pins s σ H Q I h
 refine isTrue_and (thn (ha pins s σ H _ I h) λc s1 ⟨H1,I1,q1⟩=>?_)
 cases c with
|true=>exact hb wh pins s1 σ H1 Q I1 q1
|false=>exact⟨H1,I1,q1⟩
theorem q3m(ha:PT X a tA)(hb:PW X (.BoolOp .Or (b::rest) pos) tB'):PW X (.BoolOp .Or (a::b::rest) pos) (tOr tA tB'):=by
 intro wh pins s σ H Q I h
 refine isTrue_or (thn (ha pins s σ H _ I h) λc s1 ⟨H1,I1,q1⟩=>?_)
 cases c with
|true=>exact⟨H1,I1,q1⟩
|false=>exact hb wh pins s1 σ H1 Q I1 q1
theorem q1j(ha:PT X a tA):PT X (.UnaryOp .Not a pos) (tNot tA):=by
 intro pins s σ H Q I h
 exact isTrue_not (ha pins s σ H (λc H1=>Q (!c) H1) I h)
def qy4(ta tb:TE):TE:=λσ H Q=>ta σ H λx H1=>∃c,x=.bl c/\if c=true then tb σ H1 Q else Q (.bl false) H1
def q2d(ta:TE):TE:=λσ H Q=>ta σ H λx H1=>∃c,x=.bl c/\Q (.bl (!c)) H1
theorem q06{op}{t:TE}(h:PE X a t):PE X (.BoolOp op [a] pos) t:=λpins s σ H Q I hw=>BoolOp_one (h pins s σ H Q I hw)
theorem q0x(ha:PE X a ta)(hb:PE X (.BoolOp .And (b::rest) pos) tb):PE X (.BoolOp .And (a::b::rest) pos) (qy4 ta tb):=by
 intro pins s σ H Q I h
 refine BoolOp_and (thn (ha pins s σ H _ I h) λv s1 ⟨x,H1,I1,r1,q1⟩=>?_)
 obtain⟨c,rfl,q1⟩:=q1
 cases r1
 refine wpAny_truthy_bool ?_
 cases c with
|true=>exact hb pins s1 σ H1 Q I1 q1
|false=>exact⟨.bl false,H1,I1,rfl,q1⟩
theorem q05(ha:PE X a ta):PE X (.UnaryOp .Not a pos) (q2d ta):=by
 intro pins s σ H Q I h
 refine UnaryOp_ (thn (ha pins s σ H _ I h) λv s1 ⟨x,H1,I1,r1,q1⟩=>?_)
 obtain⟨c,rfl,q1⟩:=q1
 cases r1
 exact not_of (wpAny_truthy_bool ⟨.bl (!c),H1,I1,rfl,q1⟩)
def tIf(t:TT)(ta tb:TE):TE:=λσ H Q=>t σ H λc H1=>if c=true then ta σ H1 Q else tb σ H1 Q
theorem qts{c:Expr}(hc:PT X c tA)(ha:PE X a ta)(hb:PE X b tb):PE X (.IfExp c a b pos) (tIf tA ta tb):=by
 intro pins s σ H Q I h
 refine wpAny_IfExp (thn (hc pins s σ H _ I h) λd s1 ⟨H1,I1,q1⟩=>?_)
 cases d with
|true=>exact ha pins s1 σ H1 Q I1 q1
|false=>exact hb pins s1 σ H1 Q I1 q1
end
end L2
namespace L2
open PySem PySem.Spec PyProof.Rows
def SqL(K:PySem.W.Frag)(H:Hp)(a:Addr)(xs:List V):Prop :=
 Rd H a (.lst xs) \/
  ∃(o:Obj) (its:Array Value) (n:Nat),K.lookup a=some o/\o.cls=.type "list" /\ o.dict=none/\o.data=.seq its n/\its.size<=sizeLine/\Vals xs its.toList
def SqT(K:PySem.W.Frag)(H:Hp)(a:Addr)(xs:List V):Prop :=
 Rd H a (.tup xs) \/
  ∃(o:Obj) (its:Array Value) (n:Nat),K.lookup a=some o/\o.cls=.type "tuple" /\ o.data=.seq its n/\its.size<=sizeLine/\Vals xs its.toList
def absV:Value->Option V
|.none=>some .non
|.bool b=>some (.bl b)
|.int i _=>some (.int i)
|.str x _=>some (.str x)
|.bytes b _=>some (.byt b)
|.float b _=>some (.flt b)
|.ref a=>some (.ref a)
|.type n=>some (.ty n)
|_=>none
theorem RelV.abs{x:V}{u:Value}(r:RelV x u):absV u=some x:=by
 cases x with
|non=>cases r;rfl
|bl _=>cases r;rfl
|int _=>obtain⟨t,rfl⟩:=r;rfl
|str _=>obtain⟨t,rfl⟩:=r;rfl
|byt _=>obtain⟨t,rfl⟩:=r;rfl
|flt _=>obtain⟨t,rfl⟩:=r;rfl
|ref _=>cases r;rfl
|ty _=>cases r;rfl
theorem RelV.inj{x y:V}{u:Value}(r:RelV x u)(q:RelV y u):x=y:=Option.some.inj (r.abs.symm.trans q.abs)
theorem Vals.inj:∀ {xs ys:List V} {us:List Value},Vals xs us->Vals ys us->xs=ys
|_,_,_,.nil,.nil=>rfl
|_,_,_,.cons r t,.cons r' t'=>by rw[r.inj r',Vals.inj t t']
section
variable {X:Cx} {pins:List (Addr×Obj)} {σ:St} {H:Hp} {s:Shared} {a:Addr} {xs ys:List V}
theorem SqL.of{K:PySem.W.Frag}(h:H a=some (.lst xs)):SqL K H a xs:=.inl (.inl h)
theorem SqT.of{K:PySem.W.Frag}(h:H a=some (.tup xs)):SqT K H a xs:=.inl (.inl h)
theorem Inv.list(I:Inv X pins σ H s)(h:SqL X.K H a xs):∃its:List Value,Vals xs its/\PlainL s.heap a its.toArray/\xs.length<=sizeLine:=by
 rcases h with h|⟨o,its,n,hk,hc,hd,hs,hz,r⟩
 ·obtain⟨z,its,n,r,e⟩:=h.ok I.hok
  exact⟨its,r,⟨_,n,e,rfl,rfl,rfl⟩,z⟩
 ·refine⟨its.toList,r,⟨o,n,I.kIn a o hk,hc,hd,by simpa using hs⟩,?_⟩
  have e:=r.length
  simp only[Array.length_toList] at e
  lia
theorem Inv.tuple(I:Inv X pins σ H s)(h:SqT X.K H a xs):∃its:List Value,Vals xs its/\IsTup s.heap a its.toArray/\xs.length<=sizeLine:=by
 rcases h with h|⟨o,its,n,hk,hc,hs,hz,r⟩
 ·obtain⟨z,its,r,p⟩:=h.ok I.hok
  exact⟨its,r,p,z⟩
 ·refine⟨its.toList,r,⟨o,I.kIn a o hk,hc,n,by simpa using hs⟩,?_⟩
  have e:=r.length
  simp only[Array.length_toList] at e
  lia
theorem Inv.list_inj(I:Inv X pins σ H s)(h:SqL X.K H a xs)(h':SqL X.K H a ys):xs=ys:=by
 obtain⟨its,r,⟨o,n,e,_,_,d⟩,_⟩:=I.list h
 obtain⟨its',r',⟨o',n',e',_,_,d'⟩,_⟩:=I.list h'
 rw[e] at e';cases e'
 rw[d] at d'
 injection d' with d1 _
 have:its=its':=by simpa using congrArg Array.toList d1
 subst this
 exact r.inj r'
theorem Inv.tuple_inj(I:Inv X pins σ H s)(h:SqT X.K H a xs)(h':SqT X.K H a ys):xs=ys:=by
 obtain⟨its,r,⟨o,e,_,n,d⟩,_⟩:=I.tuple h
 obtain⟨its',r',⟨o',e',_,n',d'⟩,_⟩:=I.tuple h'
 rw[e] at e';cases e'
 rw[d] at d'
 injection d' with d1 _
 have:its=its':=by simpa using congrArg Array.toList d1
 subst this
 exact r.inj r'
end
abbrev Cx.wish(X:Cx)(E:Value->Shared->Prop):Cx:={ X with xe:=E }
abbrev Cx.nox(X:Cx):Cx:=X.wish λ_ _=>False
theorem Cx.Ok.wish{X:Cx}(ok:X.Ok)(E:Value->Shared->Prop):(X.wish E).Ok :=
 ⟨ok.mod,ok.kind,ok.glob,ok.blt,ok.above,ok.inj,ok.has,ok.cab,ok.hd,ok.frames,ok.stk,ok.exf,ok.bs,ok.bsz,ok.noex,ok.exfs,ok.funs,ok.frf⟩
theorem Cx.Ok.unwish{X:Cx}{E:Value->Shared->Prop}(ok:(X.wish E).Ok):X.Ok :=
 ⟨ok.mod,ok.kind,ok.glob,ok.blt,ok.above,ok.inj,ok.has,ok.cab,ok.hd,ok.frames,ok.stk,ok.exf,ok.bs,ok.bsz,ok.noex,ok.exfs,ok.funs,ok.frf⟩
section
variable {X:Cx} {pins:List (Addr×Obj)} {σ:St} {H:Hp} {s:Shared} {E:Value->Shared->Prop}
theorem Inv.wish(I:Inv X pins σ H s)(E:Value->Shared->Prop):Inv (X.wish E) pins σ H s:=⟨I.ok.wish E,I.os,I.bare,I.base,I.loc,I.cell,I.free,I.freeC,I.pin,I.hok,I.len⟩
theorem Inv.unwish(I:Inv (X.wish E) pins σ H s):Inv X pins σ H s:=⟨I.ok.unwish,I.os,I.bare,I.base,I.loc,I.cell,I.free,I.freeC,I.pin,I.hok,I.len⟩
theorem SP.unwish{D:Ends}{f:Flow}{s':Shared}(h:SP (X.wish E) pins D f s'):SP X pins D f s':=by
 cases f with
|next=>obtain⟨σ',H',I,q⟩:=h;exact⟨σ',H',I.unwish,q⟩
|brk=>obtain⟨σ',H',I,q⟩:=h;exact⟨σ',H',I.unwish,q⟩
|cont=>obtain⟨σ',H',I,q⟩:=h;exact⟨σ',H',I.unwish,q⟩
|ret u=>obtain⟨v,σ',H',I,r,q⟩:=h;exact⟨v,σ',H',I.unwish,r,q⟩
theorem PSs.nox{st:List Stmt}{t:TS}(h:PSs X.nox st t):PSs X st t:=λpins s σ H D I hw =>
 wpAny_mono (h pins s σ H D (I.wish _) hw) (λ_ _ q=>q.unwish) λ_ _ z=>False.elim z
end
section
variable {X:Cx} {st:Stmt} {rest:List Stmt} {t u:TS} {e:Expr} {te:TE} {pos:Pos}
def qhv:TS:=λD σ H=>D.nx σ H
def tSeq(t u:TS):TS:=λD σ H=>t { D with nx:=u D } σ H
theorem qye:PSs X [] qhv:=λ_ _ σ H _ I h=>wpAny_execs_nil ⟨σ,H,I,h⟩
theorem qty(h1:PS X st t)(h2:PSs X rest u):PSs X (st::rest) (tSeq t u):=by
 intro pins s σ H D I h
 refine wpAny_execs_cons (thn (h1 pins s σ H { D with nx:=u D } I h) λf s1 q=>?_)
 cases f with
|next =>
  obtain⟨σ',H',I',q⟩:=q
  exact h2 pins s1 σ' H' D I' q
|ret v=>exact q
|brk=>exact q
|cont=>exact q
theorem qyf(h1:PS X st t):PSs X [st] t:=by
 intro pins s σ H D I h
 refine wpAny_execs_cons (thn (h1 pins s σ H D I h) λf s1 q=>?_)
 cases f with
|next=>exact wpAny_execs_nil q
|ret v=>exact q
|brk=>exact q
|cont=>exact q
theorem Inv.quiet{pins:List (Addr×Obj)}{σ:St}{H:Hp}{s:Shared}(I:Inv X pins σ H s):interactive X.env=false:=by simp[interactive,I.ok.kind]
def qjq(te:TE):TS:=λD σ H=>te σ H λ_ H1=>D.nx σ H1
theorem qyc(he:PE X e te)(hs:swapsWith e none pos.line X.env=pure false:=by rfl):PS X (.Expr e pos) (qjq te):=by
 intro pins s σ H D I h
 exact wpAny_Expr_any (thn (he pins s σ H _ I h) λv s1 ⟨x,H1,I1,r1,q1⟩=>⟨σ,H1,I1,q1⟩) I.quiet hs
def tRet(te:TE):TS:=λD σ H=>te σ H D.rt
theorem q1h(he:PE X e te):PS X (.Return (some e) pos) (tRet te):=by
 intro pins s σ H D I h
 exact wpAny_Return_some (thn (he pins s σ H _ I h) λv s1 ⟨x,H1,I1,r1,q1⟩=>⟨x,σ,H1,I1,r1,q1⟩)
def tIfS(c:TT)(t u:TS):TS:=λD σ H=>c σ H λb H1=>if b=true then t D σ H1 else u D σ H1
theorem q3k{c:Expr}{a b:List Stmt}{tc:TT}(hc:PT X c tc)(ha:PSs X a t)(hb:PSs X b u):PS X (.If c a b pos) (tIfS tc t u):=by
 intro pins s σ H D I h
 refine wpAny_If (thn (hc pins s σ H _ I h) λd s1 ⟨H1,I1,q1⟩=>?_)
 cases d with
|true=>exact ha pins s1 σ H1 D I1 q1
|false=>exact hb pins s1 σ H1 D I1 q1
end
abbrev TG:=V->St->Hp->(St->Hp->Prop)->Prop
abbrev TGs:=List V->St->Hp->(St->Hp->Prop)->Prop
def PG(X:Cx)(target:Expr)(t:TG):Prop :=
 ∀(pins:List (Addr×Obj)) (s:Shared) (σ:St) (H:Hp) (v:V) (u:Value) (Q:St->Hp->Prop),Inv X pins σ H s->RelV v u->t v σ H Q ->
  wpAny (model X.prog X.w) X.A (assign target X.env u) (λ_ s'=>∃σ' H',Inv X pins σ' H' s'/\Q σ' H') X.xe s
def PGs(X:Cx)(ts:List Expr)(t:TGs):Prop :=
 ∀(pins:List (Addr×Obj)) (s:Shared) (σ:St) (H:Hp) (vs:List V) (us:List Value) (Q:St->Hp->Prop),Inv X pins σ H s->Vals vs us->t vs σ H Q ->
  wpAny (model X.prog X.w) X.A (assignInOrder ((assignEach ts X.env).map (·.2)) us) (λ_ s'=>∃σ' H',Inv X pins σ' H' s'/\Q σ' H') X.xe s
section
variable {X:Cx} {pos:Pos}
def qb1(i:Nat):TG:=λv σ H Q=>Q (σ.set i (some v)) H
theorem qx3{i:Nat}{x:Str}(hN:X.N.Nodup)(hi:X.N[i]?=some x)(hx:Loc X.env.scope x)(hf:X.fn x=true\/X.env.scope.names.lookup x=some .local:=by first|exact .inl rfl|exact .inr rfl|assumption):PG X (.Name x pos) (qb1 i):=by
 intro pins s σ H v u Q I r h
 exact wpAny_assign_Name (qjp I hN hi hx r (λs' I'=>⟨_,H,I',h⟩) hf)
def gNil:TGs:=λvs σ H Q=>vs=[]/\Q σ H
def qz3(t:TG)(u:TGs):TGs:=λvs σ H Q=>∃v r,vs=v::r/\t v σ H λσ' H'=>u r σ' H' Q
theorem qx4:PGs X [] gNil:=by
 intro pins s σ H vs us Q I r h
 obtain⟨e,h⟩:=h
 subst e
 cases r
 exact assignInOrder_nil ⟨σ,H,I,h⟩
theorem qtv{e:Expr}{es:List Expr}{t:TG}{u:TGs}(h1:PG X e t)(h2:PGs X es u)
  (hs:(assignEach (e::es) X.env).map (·.2)=assign e X.env::(assignEach es X.env).map (·.2):=by rfl):PGs X (e::es) (qz3 t u):=by
 intro pins s σ H vs us Q I r h
 obtain⟨v,vr,e1,h⟩:=h
 subst e1
 cases r with
|cons r rr =>
  rw[hs]
  refine assignInOrder_cons (thn (h1 pins s σ H _ _ _ I r h) λ_ s1 ⟨σ1,H1,I1,q1⟩=>?_)
  exact h2 pins s1 σ1 H1 _ _ Q I1 rr q1
def gTup(K:PySem.W.Frag)(n:Nat)(t:TGs):TG:=λv σ H Q=>∃a xs,v=.ref a/\SqT K H a xs/\xs.length=n/\t xs σ H Q
theorem q1a{es:List Expr}{k:Nat}{t:TGs}{n:Nat}(hc:X.calm=true)(h:PGs X es t)
  (hn:(assignEach es X.env).length=n:=by rfl) (hst:(assignEach es X.env).findIdx? (·.1)=none:=by rfl):PG X (.Tuple es k pos) (gTup X.K n t):=by
 intro pins s σ H v u Q I r hw
 obtain⟨a,xs,e1,hq,hl,hw⟩:=hw
 subst e1
 cases r
 obtain⟨its,rv,ht,hz⟩:=I.tuple hq
 refine assign_Tuple_tuple (I.ok.hd hc) ht (by simp[hn,←hl,rv.length]) hst λh' hx=>?_
 have I1:Inv X pins σ H { s with heap:=h' }:=I.kept (t':=s.toks) λb o e=>hx b o (Nat.ne_of_lt (Heap.lt_size e)) e
 exact h pins _ σ H xs _ Q I1 (by simpa using rv) hw
def tAsg(te:TE)(g:TG):TS:=λD σ H=>te σ H λx H1=>g x σ H1 D.nx
theorem q1i{i:Nat}{x:Str}{e:Expr}{te:TE}{pos':Pos}(hN:X.N.Nodup)(hi:X.N[i]?=some x)(hx:Loc X.env.scope x)(he:PE X e te)(hs:swapsWith e (some (.Name x pos')) pos.line X.env=pure false:=by rfl)(hf:X.fn x=true\/X.env.scope.names.lookup x=some .local:=by first|exact .inl rfl|exact .inr rfl|assumption) :
  PS X (.Assign [.Name x pos'] e pos) (tAsg te (qb1 i)):=by
 intro pins s σ H D I h
 refine wpAny_Assign_Name (thn (he pins s σ H _ I h) λv s1 ⟨y,H1,I1,r1,q1⟩=>?_) hs
 exact qjp I1 hN hi hx r1 (λs2 I2=>⟨_,H1,I2,q1⟩) hf
end
section
variable {X:Cx} {pos:Pos}
end
structure It where
 go:Nat->Hp->Prop
 yld:Nat->Hp->V->Hp->Prop
 stop:Nat->Hp->Prop
def FpOk(X:Cx)(pins:List (Addr×Obj))(H:Hp)(b:Addr):Prop :=
 H b=none/\b≠X.env.locals/\b∉X.fs/\(b∈X.ex\/X.s₀.heap.objs.size<=b)/\(∀x c,X.env.cells.lookup x=some c->c≠b)/\∀p∈X.pn++pins,p.1≠b
theorem Inv.fpOk{X:Cx}{pins:List (Addr×Obj)}{σ:St}{H H':Hp}{s:Shared}{b:Addr}(I:Inv X pins σ H s)(hb:s.heap.objs.size<=b)(hn:H' b=none):FpOk X pins H' b:=by
 refine⟨hn,Nat.ne_of_gt (Nat.lt_of_lt_of_le I.lt hb),I.nofs hb,.inr (Nat.le_trans I.sz hb),λx c e z=>?_,λp hp z=>?_⟩
 ·obtain⟨v,q⟩:=I.cell x c e
  exact absurd (Nat.lt_of_lt_of_le q.lt (by rw[z];exact hb)) (Nat.lt_irrefl _)
 ·exact absurd (Nat.lt_of_lt_of_le (Heap.lt_size (I.pin p hp).1) (by rw[z];exact hb)) (Nat.lt_irrefl _)
structure Turn(P:Program)(w:World)(K:PySem.W.Frag)(tg:Expr)(J:It)(fp:List Addr)(it:Addr)(tn:Nat->Heap->Prop):Prop where
 mem:it∈fp
 obj:∀i h,tn i h->∀b∈fp,∃o,h.get? b=some o/\∀v,o.data≠.cell v
 keep:∀i h h',tn i h->(∀b∈fp,∀o,h.get? b=some o->h'.get? b=some o)->tn i h'
 item:∀(X:Cx),X.prog=P->X.w=w->X.K=K->X.calm=true->∀(i:Nat) (pins:List (Addr×Obj)) (s:Shared) (σ:St) (H:Hp) (E:Value->Shared->Prop),Inv X pins σ H s->(∀b∈fp,FpOk X pins H b)->tn i s.heap->J.go i H ->
  wpAny (model P w) X.A (pyNext (.ref it)) (λr s1=>∃u,r=some u /\
   wpAny (model P w) X.A (letOwnedTupleGo tg (.ref it) u) (λ_ s2=>∃x H',Inv X pins σ H' s2/\RelV x u/\J.yld i H x H'/\tn (i+1) s2.heap/\∀b∈fp,H' b=none) E s1) E s
 done:∀(X:Cx),X.prog=P->X.w=w->X.K=K->X.calm=true->∀(i:Nat) (pins:List (Addr×Obj)) (s:Shared) (σ:St) (H:Hp) (E:Value->Shared->Prop),Inv X pins σ H s->(∀b∈fp,FpOk X pins H b)->tn i s.heap->J.stop i H ->
  wpAny (model P w) X.A (pyNext (.ref it)) (λr s1=>r=none/\Inv X pins σ H s1) E s
 self:∀(A:Around) (i:Nat) (s:Shared) (Q:Value->Shared->Prop) (E:Value->Shared->Prop),tn i s.heap->Q (.ref it) s->wpAny (model P w) A (pyIter (.ref it)) Q E s
abbrev TI:=St->Hp->(It->Hp->Prop)->Prop
def PIE(X:Cx)(pins:List (Addr×Obj))(σ:St)(tg:Expr)(R:It->Hp->Prop)(itv:Value)(s2:Shared):Prop :=
 ∃(it:Addr) (fp:List Addr) (tn:Nat->Heap->Prop) (J:It) (H':Hp),itv=.ref it/\Inv X pins σ H' s2/\Turn X.prog X.w X.K tg J fp it tn/\tn 0 s2.heap/\(∀b∈fp,FpOk X pins H' b)/\R J H'
def PI(X:Cx)(tg iter:Expr)(wi:TI):Prop :=
 ∀(pins:List (Addr×Obj)) (s:Shared) (σ:St) (H:Hp) (R:It->Hp->Prop),Inv X pins σ H s->wi σ H R ->
  wpAny (model X.prog X.w) X.A (eval iter X.env) (λv s1=>wpAny (model X.prog X.w) X.A (pyIter v) (PIE X pins σ tg R) X.xe s1) X.xe s
theorem qqi{M:Model}{A:Around}{E:Value->Shared->Prop}{s:Shared}{tg:Expr}{it:Addr}{u:Value}{o:Obj}{n:String}{vs:Array Value}{Q:Unit->Shared->Prop}(ho:s.heap.get? it=some o)(hc:o.cls=.type n)(hd:o.data=.fields vs)
    (hn:["enumerate","zip","dict_itemiterator","dict_reverseitemiterator","odict_iterator","itertools.zip_longest","itertools.pairwise"].contains n=false) (hQ:Q () s):wpAny M A (letOwnedTupleGo tg (.ref it) u) Q E s:=by
  unfold letOwnedTupleGo
  cases tg<;>first
   |exact wpAny_pure hQ
   |  (cases u<;>first
       |exact wpAny_pure hQ
       |  (refine wpAny_bind (wpAny_load ho ?_)
           rw[hc,hd]
           show wpAny M A (if (["enumerate","zip","dict_itemiterator","dict_reverseitemiterator","odict_iterator","itertools.zip_longest","itertools.pairwise"].contains n&&vs[0]?==some (rawInt _))=true then _ else _) Q E s
           rw[if_neg (by intro h;rw[hn,Bool.false_and] at h;cases h)]
           exact wpAny_pure hQ))
def Itl(K:PySem.W.Frag)(a:Addr):It :=
 ⟨λi H=>∃xs x,SqL K H a xs/\xs[i]?=some x,λi H x H'=>H'=H/\∀xs,SqL K H a xs->xs[i]?=some x,λi H=>∃xs,SqL K H a xs/\xs.length<=i⟩
def Itt(K:PySem.W.Frag)(a:Addr):It :=
 ⟨λi H=>∃xs x,SqT K H a xs/\xs[i]?=some x,λi H x H'=>H'=H/\∀xs,SqT K H a xs->xs[i]?=some x,λi H=>∃xs,SqT K H a xs/\xs.length<=i⟩
def Itr(lo:Int)(n:Nat):It:=⟨λi _=>i<n,λi H x H'=>H'=H/\x=.int (lo+i),λi _=>n<=i⟩
theorem qk6{P:Program}{w:World}{K:PySem.W.Frag}{tg:Expr}(a it:Addr):Turn P w K tg (Itl K a) [it] it (λi h=>h.IsListIter it a i) where
 mem:=by simp
 obj:=λi h st b hb=>by
  have e:b=it:=by simpa using hb
  subst e
  obtain⟨o,e,c,d⟩:=st
  exact⟨o,e,λv z=>by rw[d] at z;cases z⟩
 keep:=λi h h' st k=>st.at λo e=>k it (by simp) o e
 item:=by
  intro X hP hw hK hc i pins s σ H E I hf st hg
  subst hP hw hK
  obtain⟨xs,x,hq,hx⟩:=hg
  obtain⟨its,rv,p,hz⟩:=I.list hq
  obtain⟨u,hu,ru⟩:=rv.get hx
  obtain⟨f0,f1,f2,f3,f4,f5⟩:=hf it (by simp)
  refine wpAny_pyNext_list_item st p.isList (x:=u) (by simpa using hu) λh' st' sb=>?_
  have I1:Inv X pins σ H { s with heap:=h' }:=I.turned (t':=s.toks) (λb o hb e=>(sb.2 b hb).trans e) f0 f1 f3 f4 f5
  obtain⟨o,e,c,d⟩:=id st'
  exact⟨u,rfl,qqi (s:={ s with heap:=h' }) e c d (by decide) ⟨x,H,I1,ru,⟨rfl,λys hy=>by rw[I.list_inj hy hq];exact hx⟩,st',λb hb=>(hf b hb).1⟩⟩
 done:=by
  intro X hP hw hK hc i pins s σ H E I hf st hg
  subst hP hw hK
  obtain⟨xs,hq,hx⟩:=hg
  obtain⟨its,rv,p,hz⟩:=I.list hq
  obtain⟨f0,f1,f2,f3,f4,f5⟩:=hf it (by simp)
  have hl:=rv.length
  exact wpAny_pyNext_list_end (I.ok.hd hc) st p.isList (by simp;lia) λh' eb=>⟨rfl,I.turned (t':=s.toks) (λb o hb e=>eb b o hb e) f0 f1 f3 f4 f5⟩
 self:=λ_ _ _ _ _ st h=>wpAny_pyIter_listiter st h
theorem qpc{P:Program}{w:World}{K:PySem.W.Frag}{tg:Expr}(a it:Addr):Turn P w K tg (Itt K a) [it] it (λi h=>h.IsTupleIter it a i) where
 mem:=by simp
 obj:=λi h st b hb=>by
  have e:b=it:=by simpa using hb
  subst e
  obtain⟨o,e,c,d⟩:=st
  exact⟨o,e,λv z=>by rw[d] at z;cases z⟩
 keep:=λi h h' st k=>st.at λo e=>k it (by simp) o e
 item:=by
  intro X hP hw hK hc i pins s σ H E I hf st hg
  subst hP hw hK
  obtain⟨xs,x,hq,hx⟩:=hg
  obtain⟨its,rv,p,hz⟩:=I.tuple hq
  obtain⟨u,hu,ru⟩:=rv.get hx
  obtain⟨f0,f1,f2,f3,f4,f5⟩:=hf it (by simp)
  refine wpAny_pyNext_tuple_item st (show s.heap.IsTuple a its.toArray from p) (x:=u) (by simpa using hu) λh' st' sb=>?_
  have I1:Inv X pins σ H { s with heap:=h' }:=I.turned (t':=s.toks) (λb o hb e=>(sb.2 b hb).trans e) f0 f1 f3 f4 f5
  obtain⟨o,e,c,d⟩:=id st'
  exact⟨u,rfl,qqi (s:={ s with heap:=h' }) e c d (by decide) ⟨x,H,I1,ru,⟨rfl,λys hy=>by rw[I.tuple_inj hy hq];exact hx⟩,st',λb hb=>(hf b hb).1⟩⟩
 done:=by
  intro X hP hw hK hc i pins s σ H E I hf st hg
  subst hP hw hK
  obtain⟨xs,hq,hx⟩:=hg
  obtain⟨its,rv,p,hz⟩:=I.tuple hq
  obtain⟨f0,f1,f2,f3,f4,f5⟩:=hf it (by simp)
  have hl:=rv.length
  exact wpAny_pyNext_tuple_end (I.ok.hd hc) st (show s.heap.IsTuple a its.toArray from p) (by simp;lia) λh' eb=>⟨rfl,I.turned (t':=s.toks) (λb o hb e=>eb b o hb e) f0 f1 f3 f4 f5⟩
 self:=λ_ _ _ _ _ st h=>wpAny_pyIter_tupleiter st h
theorem qpb{P:Program}{w:World}{K:PySem.W.Frag}{tg:Expr}(it:Addr)(lo:Int)(n:Nat):Turn P w K tg (Itr lo n) [it] it (λi h=>IsRangeIter h it (lo+(i:Nat)*1) ((n:Int)-(i:Nat)) 1) where
 mem:=by simp
 obj:=λi h st b hb=>by
  have e:b=it:=by simpa using hb
  subst e
  exact⟨_,st,λv z=>by
   have z':Data.fields _=Data.cell v:=z
   cases z'⟩
 keep:=λi h h' st k=>k it (by simp) _ st
 item:=by
  intro X hP hw hK hc i pins s σ H E I hf st hg
  subst hP hw hK
  obtain⟨f0,f1,f2,f3,f4,f5⟩:=hf it (by simp)
  have W:=Walks.range (prog:=X.prog) (w:=X.w) (I.ok.hd hc) it lo 1 n
  refine W.item i s _ _ hg st λv h' tk hv st' kk=>?_
  obtain⟨t,rfl⟩:=hv
  have I1:Inv X pins σ H { s with heap:=h',toks:=tk }:=I.turned (λb o hb e=>kk b o (by simpa using hb) e) f0 f1 f3 f4 f5
  refine⟨_,rfl,qqi (s:={ s with heap:=h',toks:=tk }) (n:="range_iterator") st' rfl rfl (by decide) ⟨.int (lo+i),H,I1,⟨t,?_⟩,⟨rfl,rfl⟩,st',λb hb=>(hf b hb).1⟩⟩
  rw[Int.mul_one]
 done:=by
  intro X hP hw hK hc i pins s σ H E I hf st hg
  subst hP hw hK
  obtain⟨f0,f1,f2,f3,f4,f5⟩:=hf it (by simp)
  exact wpAny_pyNext_range_end (I.ok.hd hc) st (by have:n<=i:=hg;lia) λh' eb=>⟨rfl,I.turned (t':=s.toks) (λb o hb e=>eb b o hb e) f0 f1 f3 f4 f5⟩
 self:=λ_ _ _ _ _ st h=>wpAny_pyIter_rangeiter st h
end L2
namespace L2
open PySem PySem.Spec PyProof.Rows
section
variable {X:Cx} {tg:Expr}
def qlv(K:PySem.W.Frag)(tl:TE):TI:=λσ H R=>tl σ H λx H1=>∃a,x=.ref a/\(∃xs,SqL K H1 a xs)/\R (Itl K a) H1
theorem qx5{l:Expr}{tl:TE}(hl:PE X l tl):PI X tg l (qlv X.K tl):=by
 intro pins s σ H R I h
 refine thn (hl pins s σ H _ I h) λv s1 ⟨x,H1,I1,r1,q1⟩=>?_
 obtain⟨a,e,⟨xs,hq⟩,q⟩:=q1
 subst e
 cases r1
 obtain⟨its,rv,p,hz⟩:=I1.list hq
 refine wpAny_pyIter_list p.isList ?_
 refine⟨s1.heap.objs.size,[s1.heap.objs.size],_,_,H1,rfl,I1.kept (t':=s1.toks) λb o e=>Heap.get?_push_of_some _ e,qk6 a _,⟨_,Heap.get?_push_size _ rfl,rfl,rfl⟩,λb hb=>?_,q⟩
 have e:b=s1.heap.objs.size:=by simpa using hb
 subst e
 exact I1.fpOk (Nat.le_refl _) (I1.hok.fresh (Nat.le_refl _))
theorem qt7{pins:List (Addr×Obj)}{σ:St}{H:Hp}{s:Shared}{R:It->Hp->Prop}{E:Value->Shared->Prop}{lo hi:Int}{t u v:Tok}{tk:Nat}(I:Inv X pins σ H s)(h1:-(2 ^ 62)<=lo)(h2:lo<2 ^ 62)(h3:-(2 ^ 62)<=hi)(h4:hi<2 ^ 62)
  (q:R (Itr lo (hi-lo).toNat) H):wpAny (model X.prog X.w) X.A (pyIter (.ref s.heap.objs.size)) (PIE X pins σ tg R) E { s with heap:=s.heap.push { cls:=.type "range",data:=.fields #[.int lo t,.int hi u,.int 1 v] },toks:=tk }:=by
 refine wpAny_pyIter_range (IsRange.new ..) (small_one h1 h2 h3 h4) ?_
 have I1:Inv X pins σ H { s with heap:=s.heap.push { cls:=.type "range",data:=.fields #[.int lo t,.int hi u,.int 1 v] },toks:=tk }:=I.kept λb o e=>Heap.get?_push_of_some _ e
 refine⟨(s.heap.push { cls:=.type "range",data:=.fields #[.int lo t,.int hi u,.int 1 v] }).objs.size,[(s.heap.push { cls:=.type "range",data:=.fields #[.int lo t,.int hi u,.int 1 v] }).objs.size],_,_,H,rfl,
  I1.kept (t':=tk) λb o e=>Heap.get?_push_of_some _ e,qpb _ lo (hi-lo).toNat,?_,λb hb=>?_,q⟩
 ·have e1:lo+((0:Nat):Int)*1=lo:=by simp
  have e2:(((hi-lo).toNat:Nat):Int)-((0:Nat):Int)=Builtin.Range.rangeSize lo hi 1:=by rw[rangeSize_one];split<;>lia
  show IsRangeIter _ _ (lo+((0:Nat):Int)*1) ((((hi-lo).toNat:Nat):Int)-((0:Nat):Int)) 1
  rw[e1,e2]
  exact Heap.get?_push_size _ rfl
 ·have e:b=(s.heap.push { cls:=.type "range",data:=.fields #[.int lo t,.int hi u,.int 1 v] }).objs.size:=by simpa using hb
  subst e
  exact I1.fpOk (Nat.le_refl _) (I1.hok.fresh (Nat.le_refl _))
def qom(ta:TA):TI:=λσ H R=>ta σ H λvs H1=>∃j:Int,vs=[.int j]/\-(2 ^ 62)<=j/\j<2 ^ 62/\R (Itr 0 j.toNat) H1
theorem qrm{a:Expr}{ta:TA}{p pos:Pos}(hg:Gl X "range")(hm:X.mg "range" = none)(ha:PA X [a] ta)(hs:starEach [a] X.env=[(false,eval a X.env)]:=by rfl):PI X tg (.Call (.Name "range" p) [a] [] pos) (qom ta):=by
 intro pins s σ H R I h
 refine Call_ (qno I hg hm boot_range (PyProof.Rows.callWith_type1 (thn (ha pos pins s σ H _ I h) λus s1 ⟨vs,H1,I1,r1,q1⟩=>?_) hs rfl))
 obtain⟨j,e,q1,q2,q⟩:=q1
 subst e
 cases r1 with
|cons r rr =>
  cases rr
  obtain⟨t,rfl⟩:=r
  exact call_range_1 (qt7 I1 (by lia) (by lia) q1 q2 (by simpa using q))
def tFor(wi:TI)(g:TG)(tb:TS):TS:=λD σ H=>wi σ H λJ H1=>∃W:Nat->Nat->St->Hp->Prop,(∃m,W 0 m σ H1)/\∀i m σ H,W i m σ H ->
 (J.stop i H/\D.nx σ H)\/(J.go i H/\∃N:St->Hp->Prop,(∀σ' H',N σ' H'->∃m',m'<m/\W (i+1) m' σ' H')/\∀x H',J.yld i H x H'->g x σ H' λσ2 H2=>tb { D with nx:=N,ct:=N,bk:=D.nx } σ2 H2)
def qkt(fp:List Addr)(h:Heap):List (Addr×Obj):=fp.filterMap λb=>(h.get? b).map λo=>(b,o)
theorem qea{fp:List Addr}{h:Heap}{b:Addr}{o:Obj}(hb:b∈fp)(e:h.get? b=some o):(b,o)∈qkt fp h:=List.mem_filterMap.mpr ⟨b,hb,by rw[e];rfl⟩
theorem qrb{fp:List Addr}{h:Heap}{p:Addr×Obj}(hp:p∈qkt fp h):p.1∈fp/\h.get? p.1=some p.2:=by
 obtain⟨b,hb,e⟩:=List.mem_filterMap.mp hp
 cases q:h.get? b with
|none=>rw[q] at e;cases e
|some o =>
  rw[q] at e
  have e':(b,o)=p:=Option.some.inj e
  subst e'
  exact⟨hb,q⟩
theorem Inv.pinned{pins:List (Addr×Obj)}{σ:St}{H:Hp}{s:Shared}{fp:List Addr}(I:Inv X pins σ H s)(hf:∀b∈fp,FpOk X pins H b)(ho:∀b∈fp,∃o,s.heap.get? b=some o/\∀v,o.data≠.cell v):Inv X (pins++qkt fp s.heap) σ H s :=
 I.pins_of λp hp=>(List.mem_append.mp hp).elim (λz=>I.pin p (List.mem_append_right _ z)) λz=>by
  obtain⟨hb,e⟩:=qrb z
  obtain⟨f0,f1,f2,_⟩:=hf p.1 hb
  obtain⟨o,e',d⟩:=ho p.1 hb
  rw[e] at e';cases e'
  exact⟨e,f0,f1,f2,d⟩
theorem Inv.unpinned{pins pl:List (Addr×Obj)}{σ:St}{H:Hp}{s:Shared}(I:Inv X (pins++pl) σ H s):Inv X pins σ H s:=I.pins_of λp hp=>I.pin p (List.mem_append_right _ (List.mem_append_left _ hp))
theorem q1e{iter:Expr}{body:List Stmt}{wi:TI}{g:TG}{tb:TS}{pos:Pos}(hp:PassesOwn (model X.prog X.w) X.A X.env X.xe)(hc:X.calm=true)(hi:PI X tg iter wi)(hg:PG X tg g)(hb:PSs X body tb)
  (hs:∀x,foldedSetIterable iter X.env x=pure x:=by intro _;rfl):PS X (.For tg iter body [] pos) (tFor wi g tb):=by
 intro pins s σ H D I h
 refine wpAny_For (thn (hi pins s σ H _ I h) λv s1 h1=>thn h1 λitv s2 h2=>?_) hs
 obtain⟨it,fp,tn,J,H2,e,I2,T,st2,f2,W,⟨m0,w0⟩,turn⟩:=h2
 subst e
 have stat:∀ {H':Hp},(∀b∈fp,H' b=none)->∀b∈fp,FpOk X pins H' b:=λhn b hb=>⟨hn b hb,(f2 b hb).2⟩
 refine codeAny_forLoop_any (λn s'=>∃i σ' H',Inv X pins σ' H' s'/\tn i s'.heap/\(∀b∈fp,H' b=none)/\W i n σ' H') ?_ m0 ⟨0,σ,H2,I2,st2,λb hb=>(f2 b hb).1,w0⟩
 rintro n s3 ⟨i,σ3,H3,I3,st3,fr3,w3⟩
 rcases turn i n σ3 H3 w3 with ⟨stop,qn⟩|⟨go,N,hN,step⟩
 ·refine wpAny_passesOwn hp (thn (T.done X rfl rfl rfl hc i pins s3 σ3 H3 X.xe I3 (stat fr3) st3 stop) λr s4 ⟨hr,I4⟩=>?_)
  subst hr
  exact wpAny_execs_nil ⟨σ3,H3,I4,qn⟩
 ·refine wpAny_passesOwn hp (thn (T.item X rfl rfl rfl hc i pins s3 σ3 H3 X.xe I3 (stat fr3) st3 go) λr s4 ⟨u,hr,h4⟩=>?_)
  subst hr
  refine wpAny_passesOwn hp (thn h4 λ_ s5 ⟨x,H5,I5,r5,y5,st5,fr5⟩=>?_)
  have I5':=I5.pinned (stat fr5) (T.obj _ _ st5)
  refine wpAny_passesOwn hp (thn (hg _ s5 σ3 H5 x u _ I5' r5 (step x H5 y5)) λ_ s6 ⟨σ6,H6,I6,q6⟩=>?_)
  refine wpAny_passesOwn hp (thn (hb _ s6 σ6 H6 _ I6 q6) λf s7 q7=>?_)
  have again:∀ {σ7:St} {H7:Hp},Inv X (pins++qkt fp s5.heap) σ7 H7 s7->N σ7 H7->∃m,m<n/\∃i σ' H',Inv X pins σ' H' s7/\tn i s7.heap/\(∀b∈fp,H' b=none)/\W i m σ' H':=λ{σ7 H7} I7 n7=>by
   obtain⟨m',hm,w7⟩:=hN σ7 H7 n7
   refine⟨m',hm,i+1,σ7,H7,I7.unpinned,T.keep _ _ _ st5 λb hb o e=>(I7.pin (b,o) (List.mem_append_right _ (List.mem_append_right _ (qea hb e)))).1,λb hb=>?_,w7⟩
   obtain⟨o,e,d⟩:=T.obj _ _ st5 b hb
   exact(I7.pin (b,o) (List.mem_append_right _ (List.mem_append_right _ (qea hb e)))).2.1
  cases f with
 |next=>obtain⟨σ7,H7,I7,n7⟩:=q7;exact again I7 n7
 |cont=>obtain⟨σ7,H7,I7,n7⟩:=q7;exact again I7 n7
 |brk=>obtain⟨σ7,H7,I7,q7⟩:=q7;exact⟨σ7,H7,I7.unpinned,q7⟩
 |ret v=>obtain⟨x7,σ7,H7,I7,r7,q7⟩:=q7;exact⟨x7,σ7,H7,I7.unpinned,r7,q7⟩
end
theorem qs0{K:PySem.W.Frag}{a:Addr}{xs:List V}{g:TG}{tb:TS}{D:Ends}{σ:St}{H:Hp}(Pv:Nat->St->Hp->Prop)(h0:Pv 0 σ H)(hl:∀i σ H,i<=xs.length->Pv i σ H->SqL K H a xs)
  (hs:∀i x σ H,xs[i]?=some x->Pv i σ H->g x σ H λσ2 H2=>tb { D with nx:=Pv (i+1),ct:=Pv (i+1),bk:=D.nx } σ2 H2) (hd:∀σ H,Pv xs.length σ H->D.nx σ H) :
  ∃W:Nat->Nat->St->Hp->Prop,(∃m,W 0 m σ H)/\∀i m σ H,W i m σ H ->
   ((Itl K a).stop i H/\D.nx σ H)\/((Itl K a).go i H/\∃N:St->Hp->Prop,(∀σ' H',N σ' H'->∃m',m'<m/\W (i+1) m' σ' H')/\∀x H',(Itl K a).yld i H x H'->g x σ H' λσ2 H2=>tb { D with nx:=N,ct:=N,bk:=D.nx } σ2 H2):=by
 refine⟨λi m σ H=>m=xs.length-i/\i<=xs.length/\Pv i σ H,⟨xs.length,by simp,Nat.zero_le _,h0⟩,?_⟩
 rintro i m σ H ⟨rfl,hi,p⟩
 have q:=hl i σ H hi p
 by_cases hlt:i<xs.length
 ·refine .inr ⟨⟨xs,xs[i],q,by simp[hlt]⟩,Pv (i+1),λσ' H' p'=>⟨xs.length-(i+1),by lia,rfl,hlt,p'⟩,λx H' y=>?_⟩
  obtain⟨e,y⟩:=y
  subst e
  exact hs i x σ _ (y xs q) p
 ·have e:i=xs.length:=by lia
  subst e
  exact .inl ⟨⟨xs,q,Nat.le_refl _⟩,hd σ H p⟩
theorem qgn{lo:Int}{n:Nat}{g:TG}{tb:TS}{D:Ends}{σ:St}{H:Hp}(Pv:Nat->St->Hp->Prop)(h0:Pv 0 σ H)
  (hs:∀i σ H,i<n->Pv i σ H->g (.int (lo+i)) σ H λσ2 H2=>tb { D with nx:=Pv (i+1),ct:=Pv (i+1),bk:=D.nx } σ2 H2) (hd:∀σ H,Pv n σ H->D.nx σ H) :
  ∃W:Nat->Nat->St->Hp->Prop,(∃m,W 0 m σ H)/\∀i m σ H,W i m σ H ->
   ((Itr lo n).stop i H/\D.nx σ H)\/((Itr lo n).go i H/\∃N:St->Hp->Prop,(∀σ' H',N σ' H'->∃m',m'<m/\W (i+1) m' σ' H')/\∀x H',(Itr lo n).yld i H x H'->g x σ H' λσ2 H2=>tb { D with nx:=N,ct:=N,bk:=D.nx } σ2 H2):=by
 refine⟨λi m σ H=>m=n-i/\i<=n/\Pv i σ H,⟨n,by simp,Nat.zero_le _,h0⟩,?_⟩
 rintro i m σ H ⟨rfl,hi,p⟩
 by_cases hlt:i<n
 ·refine .inr ⟨hlt,Pv (i+1),λσ' H' p'=>⟨n-(i+1),by lia,rfl,hlt,p'⟩,λx H' y=>?_⟩
  obtain⟨e,y⟩:=y
  subst e y
  exact hs i σ _ hlt p
 ·have e:i=n:=by lia
  subst e
  exact .inl ⟨Nat.le_refl _,hd σ H p⟩
end L2
namespace L2
open PySem PySem.Spec PyProof.Rows
abbrev R2:=V->V->Hp->VK->Prop
def OpR(X:Cx)(f:Value->Value->Sem Value)(r:R2):Prop :=
 ∀(pins:List (Addr×Obj)) (s:Shared) (σ:St) (H:Hp) (x y:V) (v u:Value) (Q:VK),Inv X pins σ H s->RelV x v->RelV y u->r x y H Q ->
  wpAny (model X.prog X.w) X.A (f v u) (EP X pins σ Q) X.xe s
def UnR(X:Cx)(f:Value->Sem Value)(r:V->Hp->VK->Prop):Prop :=
 ∀(pins:List (Addr×Obj)) (s:Shared) (σ:St) (H:Hp) (x:V) (v:Value) (Q:VK),Inv X pins σ H s->RelV x v->r x H Q ->
  wpAny (model X.prog X.w) X.A (f v) (EP X pins σ Q) X.xe s
def CallR(X:Cx)(f:Value)(r:List V->Hp->VK->Prop):Prop :=
 ∀(pins:List (Addr×Obj)) (s:Shared) (σ:St) (H:Hp) (xs:List V) (us:List Value) (Q:VK),Inv X pins σ H s->Vals xs us->r xs H Q ->
  wpAny (model X.prog X.w) X.A (call f us) (EP X pins σ Q) X.xe s
def TruR(X:Cx)(r:V->Hp->(Bool->Hp->Prop)->Prop):Prop :=
 ∀(pins:List (Addr×Obj)) (s:Shared) (σ:St) (H:Hp) (x:V) (v:Value) (Q:Bool->Hp->Prop),Inv X pins σ H s->RelV x v->r x H Q ->
  wpAny (model X.prog X.w) X.A (truthy v) (TP X pins σ Q) X.xe s
def tOp(r:R2)(ta tb:TE):TE:=λσ H Q=>ta σ H λx H1=>tb σ H1 λy H2=>r x y H2 Q
def tUn(r:V->Hp->VK->Prop)(ta:TE):TE:=λσ H Q=>ta σ H λx H1=>r x H1 Q
def rI(C:Int->Int->Prop)(g:Int->Int->V):R2:=λx y H Q=>∃i j,x=.int i/\y=.int j/\C i j/\Q (g i j) H
def rI0(g:Int->Int->V):R2:=λx y H Q=>∃i j,x=.int i/\y=.int j/\Q (g i j) H
def rU(g:Int->V):V->Hp->VK->Prop:=λx H Q=>∃i,x=.int i/\Q (g i) H
section
variable {X:Cx} {a b c:Expr} {ta tb tc:TE} {pos:Pos}
theorem binT(ha:PE X a ta)(hb:PE X b tb){pins:List (Addr×Obj)}{s:Shared}{σ:St}{H:Hp}{R:V->V->Hp->Prop}(I:Inv X pins σ H s)
  (h:ta σ H λx H1=>tb σ H1 λy H2=>R x y H2) {Q:Value->Shared->Prop} {f:Value->Value->Sem Value}
  (hf:∀v u s2 x y H2,Inv X pins σ H2 s2->RelV x v->RelV y u->R x y H2->wpAny (model X.prog X.w) X.A (f v u) Q X.xe s2) :
  wpAny (model X.prog X.w) X.A (eval a X.env) (λv s₁=>wpAny (model X.prog X.w) X.A (eval b X.env) (λu s₂=>wpAny (model X.prog X.w) X.A (f v u) Q X.xe s₂) X.xe s₁) X.xe s:=by
 refine thn (ha pins s σ H _ I h) λv s1 ⟨x,H1,I1,r1,q1⟩=>?_
 refine thn (hb pins s1 σ H1 _ I1 q1) λu s2 ⟨y,H2,I2,r2,q2⟩=>?_
 exact hf v u s2 x y H2 I2 r1 r2 q2
theorem q3g{op:Operator}{r:R2}(ho:OpR X (binaryOp op) r)(ha:PE X a ta)(hb:PE X b tb):PE X (.BinOp a op b pos) (tOp r ta tb):=by
 intro pins s σ H Q I h
 exact wpAny_BinOp (binT ha hb I h λv u s2 x y H2 I2 rx ry q=>ho pins s2 σ H2 x y v u Q I2 rx ry q)
theorem q3h{op:UnaryOp}{r:V->Hp->VK->Prop}(ho:UnR X (unaryOp op) r)(ha:PE X a ta):PE X (.UnaryOp op a pos) (tUn r ta):=by
 intro pins s σ H Q I h
 exact UnaryOp_ (thn (ha pins s σ H _ I h) λv s1 ⟨x,H1,I1,r1,q1⟩=>ho pins s1 σ H1 x v Q I1 r1 q1)
theorem opI{f:Value->Value->Sem Value}{C:Int->Int->Prop}{g:Int->Int->Int}
  (rule:∀(i j:Int) (t u:Tok) (s:Shared) (Q:Value->Shared->Prop) (E:Value->Shared->Prop),C i j->Q (.int (g i j) s.toks) { s with toks:=s.toks+1 }->wpAny (model X.prog X.w) X.A (f (.int i t) (.int j u)) Q E s) :
  OpR X f (rI C λi j=>.int (g i j)):=by
 intro pins s σ H x y v u Q I rx ry h
 obtain⟨i,j,rfl,rfl,hc,q⟩:=h
 obtain⟨t,rfl⟩:=rx
 obtain⟨t',rfl⟩:=ry
 exact rule i j t t' s _ _ hc ⟨.int (g i j),H,I.tok _,⟨_,rfl⟩,q⟩
theorem opI0{f:Value->Value->Sem Value}{g:Int->Int->Int}
  (rule:∀(i j:Int) (t u:Tok) (s:Shared) (Q:Value->Shared->Prop) (E:Value->Shared->Prop),Q (.int (g i j) s.toks) { s with toks:=s.toks+1 }->wpAny (model X.prog X.w) X.A (f (.int i t) (.int j u)) Q E s) :
  OpR X f (rI0 λi j=>.int (g i j)):=by
 intro pins s σ H x y v u Q I rx ry h
 obtain⟨i,j,rfl,rfl,q⟩:=h
 obtain⟨t,rfl⟩:=rx
 obtain⟨t',rfl⟩:=ry
 exact rule i j t t' s _ _ ⟨.int (g i j),H,I.tok _,⟨_,rfl⟩,q⟩
theorem opB0{f:Value->Value->Sem Value}{g:Int->Int->Bool}
  (rule:∀(i j:Int) (t u:Tok) (s:Shared) (Q:Value->Shared->Prop) (E:Value->Shared->Prop),Q (.bool (g i j)) s->wpAny (model X.prog X.w) X.A (f (.int i t) (.int j u)) Q E s) :
  OpR X f (rI0 λi j=>.bl (g i j)):=by
 intro pins s σ H x y v u Q I rx ry h
 obtain⟨i,j,rfl,rfl,q⟩:=h
 obtain⟨t,rfl⟩:=rx
 obtain⟨t',rfl⟩:=ry
 exact rule i j t t' s _ _ ⟨.bl (g i j),H,I,rfl,q⟩
def CDiv(i j:Int):Prop:=0<j/\j<1073741824
def CPow(i j:Int):Prop:=0<=j/\j<=1000000/\i.natAbs<2 ^ 64
def CMul(i j:Int):Prop:=(-(2 ^ 64)<i/\i<2 ^ 64)\/(-(2 ^ 64)<j/\j<2 ^ 64)
theorem CMul.ok{i j:Int}(h:CMul i j):IntMulOk i j:=by
 rcases h with ⟨h1,h2⟩|⟨h1,h2⟩
 ·exact .of_left (intBits_le_64 h1 h2)
 ·exact .of_right (intBits_le_64 h1 h2)
theorem op_add:OpR X (binaryOp .Add) (rI0 λi j=>.int (i+j)):=opI0 λ_ _ _ _ _ _ _ q=>add_int q
theorem q0s:OpR X (binaryOp .Mult) (rI CMul λi j=>.int (i*j)):=opI λ_ _ _ _ _ _ _ hc q=>mul_int q hc.ok
theorem qxq:OpR X (binaryOp .FloorDiv) (rI CDiv λi j=>.int (i / j)):=opI λi j _ _ _ _ _ hc q=>by
 have h1:(0:Int)<j:=hc.1
 have h2:j<1073741824:=hc.2
 exact floordiv_int (by lia) (by rw[Int.fdiv_eq_ediv_of_nonneg i (by lia)];exact q) (.inl (PyProof.noPylong_small (by lia)))
theorem q0r:OpR X (binaryOp .Mod) (rI (λ_ j=>0<j) λi j=>.int (i%j)):=opI λi j _ _ _ _ _ hc q=>by
 have h1:(0:Int)<j:=hc
 exact mod_int' (by lia) (by rw[Int.fmod_eq_emod_of_nonneg i (by lia)];exact q)
theorem q0u:OpR X (binaryOp .Pow) (rI CPow λi j=>.int (i ^ j.toNat)):=opI λ_ _ _ _ _ _ _ hc q=>pow_int_small hc.1 hc.2.1 hc.2.2 q
theorem unI{f:Value->Sem Value}{g:Int->Int}
  (rule:∀(i:Int) (t:Tok) (s:Shared) (Q:Value->Shared->Prop) (E:Value->Shared->Prop),Q (.int (g i) s.toks) { s with toks:=s.toks+1 }->wpAny (model X.prog X.w) X.A (f (.int i t)) Q E s) :
  UnR X f (rU λi=>.int (g i)):=by
 intro pins s σ H x v Q I rx h
 obtain⟨i,rfl,q⟩:=h
 obtain⟨t,rfl⟩:=rx
 exact rule i t s _ _ ⟨.int (g i),H,I.tok _,⟨_,rfl⟩,q⟩
theorem q2f:UnR X (unaryOp .USub) (rU λi=>.int (-i)):=unI λ_ _ _ _ _ q=>neg_int q
end
def scal:V->V->Bool
|.non,.non=>true|.non,.int _=>true|.int _,.non=>true|.non,.bl _=>true|.bl _,.non=>true|.non,.str _=>true|.str _,.non=>true
|.int _,.int _=>true|.bl _,.bl _=>true|.str _,.str _=>true|.byt _,.byt _=>true
|.int _,.str _=>true|.str _,.int _=>true|.bl _,.str _=>true|.str _,.bl _=>true
|_,_=>false
def rEq:R2:=λx y H Q=>scal x y=true/\Q (.bl (decide (x=y))) H
def rNe:R2:=λx y H Q=>scal x y=true/\Q (.bl (!decide (x=y))) H
theorem qpz{i j:Int}:decide (V.int i=V.int j)=(i==j):=by
 rw[Bool.eq_iff_iff]
 simp
theorem qu8{i j:Bool}:decide (V.bl i=V.bl j)=(i==j):=by
 rw[Bool.eq_iff_iff]
 simp
theorem qp0{i j:Str}:decide (V.str i=V.str j)=(i==j):=by
 rw[Bool.eq_iff_iff]
 simp
theorem qpy{i j:Array UInt8}:decide (V.byt i=V.byt j)=(i.toList==j.toList):=by
 rw[Bool.eq_iff_iff]
 cases i
 cases j
 simp
section
variable {X:Cx} {a b c:Expr} {ta tb tc:TE} {pos:Pos}
theorem qa0{pins:List (Addr×Obj)}{σ:St}{H:Hp}{s:Shared}{Q:VK}{k k':Bool}(I:Inv X pins σ H s)(q:Q (.bl k) H)(e:k=k'):EP X pins σ Q (.bool k') s:=by
 subst e
 exact⟨.bl k,H,I,rfl,q⟩
theorem q3a:OpR X (compareOp .Eq) rEq:=by
 intro pins s σ H x y v u Q I rx ry h
 obtain⟨hs,q⟩:=h
 cases x with
|non =>
  cases rx
  cases y with
 |non=>cases ry;exact PySem.EqNone.eq_none_none (qa0 I q (by simp))
 |bl j=>cases ry;exact PySem.EqNone.eq_none_bool (qa0 I q (by simp))
 |int j=>obtain⟨t',rfl⟩:=ry;exact PySem.EqNone.eq_none_int (qa0 I q (by simp))
 |str j=>obtain⟨t',rfl⟩:=ry;exact PySem.EqNone.eq_none_str (qa0 I q (by simp))
 |_=>exact absurd (show false=true from hs) Bool.false_ne_true
|bl i =>
  cases rx
  cases y with
 |non=>cases ry;exact PySem.EqNone.eq_bool_none (qa0 I q (by simp))
 |bl j=>cases ry;exact eq_bool (qa0 I q qu8)
 |str j=>obtain⟨t',rfl⟩:=ry;exact PySem.EqMixed.eq_bool_str (qa0 I q (by simp))
 |_=>exact absurd (show false=true from hs) Bool.false_ne_true
|int i =>
  obtain⟨t,rfl⟩:=rx
  cases y with
 |non=>cases ry;exact PySem.EqNone.eq_int_none (qa0 I q (by simp))
 |int j=>obtain⟨t',rfl⟩:=ry;exact eq_int (qa0 I q qpz)
 |str j=>obtain⟨t',rfl⟩:=ry;exact PySem.EqMixed.eq_int_str (qa0 I q (by simp))
 |_=>exact absurd (show false=true from hs) Bool.false_ne_true
|str i =>
  obtain⟨t,rfl⟩:=rx
  cases y with
 |non=>cases ry;exact PySem.EqNone.eq_str_none (qa0 I q (by simp))
 |bl j=>cases ry;exact PySem.EqMixed.eq_str_bool (qa0 I q (by simp))
 |int j=>obtain⟨t',rfl⟩:=ry;exact PySem.EqMixed.eq_str_int (qa0 I q (by simp))
 |str j=>obtain⟨t',rfl⟩:=ry;exact eq_str (qa0 I q qp0)
 |_=>exact absurd (show false=true from hs) Bool.false_ne_true
|byt i =>
  obtain⟨t,rfl⟩:=rx
  cases y with
 |byt j=>obtain⟨t',rfl⟩:=ry;exact PySem.W.eq_bytes (qa0 I q qpy)
 |_=>exact absurd (show false=true from hs) Bool.false_ne_true
|_=>cases y<;>exact absurd (show false=true from hs) Bool.false_ne_true
theorem q3c:OpR X (compareOp .NotEq) rNe:=by
 intro pins s σ H x y v u Q I rx ry h
 obtain⟨hs,q⟩:=h
 cases x with
|non =>
  cases rx
  cases y with
 |non=>cases ry;exact PySem.EqNone.ne_none_none (qa0 I q (by simp))
 |bl j=>cases ry;exact PySem.EqNone.ne_none_bool (qa0 I q (by simp))
 |int j=>obtain⟨t',rfl⟩:=ry;exact PySem.EqNone.ne_none_int (qa0 I q (by simp))
 |str j=>obtain⟨t',rfl⟩:=ry;exact PySem.EqNone.ne_none_str (qa0 I q (by simp))
 |_=>exact absurd (show false=true from hs) Bool.false_ne_true
|bl i =>
  cases rx
  cases y with
 |non=>cases ry;exact PySem.EqNone.ne_bool_none (qa0 I q (by simp))
 |bl j=>cases ry;exact ne_bool (qa0 I q (congrArg not qu8))
 |str j=>obtain⟨t',rfl⟩:=ry;exact PySem.EqMixed.ne_bool_str (qa0 I q (by simp))
 |_=>exact absurd (show false=true from hs) Bool.false_ne_true
|int i =>
  obtain⟨t,rfl⟩:=rx
  cases y with
 |non=>cases ry;exact PySem.EqNone.ne_int_none (qa0 I q (by simp))
 |int j=>obtain⟨t',rfl⟩:=ry;exact ne_int (qa0 I q (congrArg not qpz))
 |str j=>obtain⟨t',rfl⟩:=ry;exact PySem.EqMixed.ne_int_str (qa0 I q (by simp))
 |_=>exact absurd (show false=true from hs) Bool.false_ne_true
|str i =>
  obtain⟨t,rfl⟩:=rx
  cases y with
 |non=>cases ry;exact PySem.EqNone.ne_str_none (qa0 I q (by simp))
 |bl j=>cases ry;exact PySem.EqMixed.ne_str_bool (qa0 I q (by simp))
 |int j=>obtain⟨t',rfl⟩:=ry;exact PySem.EqMixed.ne_str_int (qa0 I q (by simp))
 |str j=>obtain⟨t',rfl⟩:=ry;exact ne_str (qa0 I q (congrArg not qp0))
 |_=>exact absurd (show false=true from hs) Bool.false_ne_true
|byt i =>
  obtain⟨t,rfl⟩:=rx
  cases y with
 |byt j=>obtain⟨t',rfl⟩:=ry;exact PySem.W.ne_bytes (qa0 I q (congrArg not qpy))
 |_=>exact absurd (show false=true from hs) Bool.false_ne_true
|_=>cases y<;>exact absurd (show false=true from hs) Bool.false_ne_true
theorem q3b:OpR X (compareOp .Lt) (rI0 λi j=>.bl (decide (i<j))):=opB0 λ_ _ _ _ _ _ _ q=>lt_int q
theorem q0q:OpR X (compareOp .Gt) (rI0 λi j=>.bl (decide (j<i))):=opB0 λ_ _ _ _ _ _ _ q=>gt_int q
theorem op_in_str:OpR X (compareOp .In) (λx y H Q=>∃i j,x=.str i/\y=.str j/\Q (.bl (!(Builtin.Str.occurrences j i 0 j.length 1).isEmpty)) H):=by
 intro pins s σ H x y v u Q I rx ry h
 obtain⟨i,j,rfl,rfl,q⟩:=h
 obtain⟨t,rfl⟩:=rx
 obtain⟨t',rfl⟩:=ry
 exact in_str (qa0 I q rfl)
theorem qri:OpR X (compareOp .IsNot) (λx y H Q=>y=.non/\Q (.bl (!decide (x=.non))) H):=by
 intro pins s σ H x y v u Q I rx ry h
 obtain⟨rfl,q⟩:=h
 cases ry
 refine isnot_none_gen (qa0 I q ?_)
 cases x<;>first
 |(cases rx;rfl)
 |(obtain⟨t,rfl⟩:=rx;rfl)
theorem OpR.or{f:Value->Value->Sem Value}{r r':R2}(h:OpR X f r)(h':OpR X f r'):OpR X f (λx y H Q=>r x y H Q\/r' x y H Q):=by
 intro pins s σ H x y v u Q I rx ry q
 rcases q with q|q
 ·exact h pins s σ H x y v u Q I rx ry q
 ·exact h' pins s σ H x y v u Q I rx ry q
theorem qxz{op:CmpOp}{r:R2}(ho:OpR X (compareOp op) r)(ha:PE X a ta)(hb:PE X b tb)(hm:behindInMarks op b=false):PE X (.Compare a [op] [b] pos) (tOp r ta tb):=by
 intro pins s σ H Q I h
 exact wpAny_Compare1 (binT ha hb I h λv u s2 x y H2 I2 rx ry q=>ho pins s2 σ H2 x y v u Q I2 rx ry q) hm
def quq(t:TE):TT:=λσ H Q=>t σ H λx H'=>∃k,x=.bl k/\Q k H'
theorem qyg{op:CmpOp}{r:R2}(ho:OpR X (compareOp op) r)(ha:PE X a ta)(hb:PE X b tb)(hm:behindInMarks op b=false):PT X (.Compare a [op] [b] pos) (quq (tOp r ta tb)):=by
 intro pins s σ H Q I h
 refine wpAny_isTrue_Compare1 (thn (ha pins s σ H _ I h) λv s1 ⟨x,H1,I1,r1,q1⟩=>thn (hb pins s1 σ H1 _ I1 q1) λu s2 ⟨y,H2,I2,r2,q2⟩ =>
  thn (ho pins s2 σ H2 x y v u _ I2 r1 r2 q2) λc s3 ⟨z,H3,I3,r3,k,e,q3⟩=>?_) hm
 subst e
 cases r3
 exact wpAny_truthy_bool ⟨H3,I3,q3⟩
def TruV(K:PySem.W.Frag)(x:V)(H:Hp)(k:Bool):Prop :=
 match x with
|.non=>k=false
|.bl b=>k=b
|.int i=>k=(i != 0)
|.str y=>y.length<=sizeLine/\k=((y.length:Int) != 0)
|.byt y=>y.size<=sizeLine/\k=((y.size:Int) != 0)
|.ref p=>(∃xs,SqL K H p xs/\k=!xs.isEmpty)\/(∃xs,SqT K H p xs/\k=!xs.isEmpty)\/∃kvs,H p=some (.dK kvs)/\k=!kvs.isEmpty
|_=>False
theorem qon{κ:Type}{kvs:List (κ×V)}{vs:List (κ×Value)}(r:KV kvs vs):(!vs.isEmpty)=!kvs.isEmpty:=by
 cases r<;>rfl
theorem qh3{xs:List V}{its:List Value}(r:Vals xs its):(!its.toArray.isEmpty)=!xs.isEmpty:=by
 cases r<;>simp
theorem qgz:(sizeLine:Nat)<2 ^ 63:=by rw[sizeLine_eq];decide
theorem q33:TruR X (λx H Q=>∃k,TruV X.K x H k/\Q k H):=by
 intro pins s σ H x v Q I rx h
 obtain⟨k,e,q⟩:=h
 have hl:=qgz
 have hs:sizeLine=16777216:=sizeLine_eq
 cases x with
|non =>
  cases rx
  have e':k=false:=e
  subst e'
  exact truthy_none ⟨H,I,q⟩
|bl b =>
  cases rx
  have e':k=b:=e
  subst e'
  exact wpAny_truthy_bool ⟨H,I,q⟩
|int i =>
  obtain⟨t,rfl⟩:=rx
  have e':k=(i != 0):=e
  subst e'
  exact PySem.P.truthy_int ⟨H,I,q⟩
|str y =>
  obtain⟨t,rfl⟩:=rx
  obtain⟨hy,e'⟩:y.length<=sizeLine/\k=((y.length:Int) != 0):=e
  subst e'
  exact PySem.P.truthy_str (by lia) ⟨H,I.tok _,q⟩
|byt y =>
  obtain⟨t,rfl⟩:=rx
  obtain⟨hy,e'⟩:y.size<=sizeLine/\k=((y.size:Int) != 0):=e
  subst e'
  exact PySem.W.truthy_bytes (by lia) ⟨H,I.tok _,q⟩
|ref p =>
  cases rx
  have e':(∃xs,SqL X.K H p xs/\k=!xs.isEmpty)\/(∃xs,SqT X.K H p xs/\k=!xs.isEmpty)\/∃kvs,H p=some (.dK kvs)/\k=!kvs.isEmpty:=e
  rcases e' with ⟨xs,hx,e'⟩|⟨xs,hx,e'⟩|⟨kvs,hx,e'⟩
  ·subst e'
   obtain⟨its,r,pl,hz⟩:=I.list hx
   have hlen:=r.length
   exact wpAny_truthy_list pl.isList (by simp only[List.size_toArray];lia) ⟨H,I.tok _,by rw[qh3 r];exact q⟩
  ·subst e'
   obtain⟨its,r,pl,hz⟩:=I.tuple hx
   have hlen:=r.length
   exact truthy_tuple pl (by simp only[List.size_toArray];lia) ⟨H,I.tok _,by rw[qh3 r];exact q⟩
  ·subst e'
   obtain⟨hz,hS,vs,r,m⟩:kvs.length<=sizeLine/\(p==sysModules)=false/\∃vs,KV kvs vs/\s.heap.DictOf (qbi X.prog X.w) p vs:=I.hok p _ hx
   have hlen:kvs.length=vs.length:=Paired.length r
   exact wpAny_truthy_dict hS m (by lia) ⟨H,I.tok _,by rw[qon r];exact q⟩
|_=>exact(show False from e).elim
theorem op_add_str:OpR X (binaryOp .Add) (λx y H Q=>∃i j,x=.str i/\y=.str j/\i.length+j.length<=sizeLine/\Q (.str (i++j)) H):=by
 intro pins s σ H x y v u Q I rx ry h
 obtain⟨i,j,rfl,rfl,hz,q⟩:=h
 obtain⟨t,rfl⟩:=rx
 obtain⟨t',rfl⟩:=ry
 exact add_str (λt' tk=>⟨.str (i++j),H,I.tok _,⟨_,rfl⟩,q⟩) hz
theorem vals1{x:V}{us:List Value}(r:Vals [x] us):∃u,us=[u]/\RelV x u:=by
 cases r with
|cons r1 r2=>cases r2;exact⟨_,rfl,r1⟩
theorem vals2{x y:V}{us:List Value}(r:Vals [x,y] us):∃u w',us=[u,w']/\RelV x u/\RelV y w':=by
 cases r with
|cons r1 r2 =>
  cases r2 with
 |cons r3 r4=>cases r4;exact⟨_,_,rfl,r1,r3⟩
theorem qkg:CallR X (.type "str") (λxs H Q=>∃i,xs=[.int i]/\i.natAbs.log2<1920/\Q (.str (toString i)) H):=by
 intro pins s σ H xs us Q I r h
 obtain⟨i,rfl,hz,q⟩:=h
 obtain⟨u,rfl,t,rfl⟩:=vals1 r
 exact PySem.P.str_of_int hz ⟨.str _,H,I.tok _,⟨_,rfl⟩,q⟩
def LenV(K:PySem.W.Frag)(x:V)(H:Hp)(n:Nat):Prop :=
 match x with
|.str y=>y.length<=sizeLine/\n=y.length
|.byt y=>y.size<=sizeLine/\n=y.size
|.ref p=>(∃xs,SqL K H p xs/\n=xs.length)\/∃xs,SqT K H p xs/\n=xs.length
|_=>False
theorem qm1:CallR X (.builtin "len") (λxs H Q=>∃x n,xs=[x]/\LenV X.K x H n/\Q (.int n) H):=by
 intro pins s σ H xs us Q I r h
 obtain⟨x,n,rfl,e,q⟩:=h
 obtain⟨u,rfl,rx⟩:=vals1 r
 have hl:=qgz
 have hs:sizeLine=16777216:=sizeLine_eq
 cases x with
|str y =>
  obtain⟨t,rfl⟩:=rx
  obtain⟨hy,e'⟩:y.length<=sizeLine/\n=y.length:=e
  subst e'
  exact len_str (by lia) ⟨.int _,H,I.tok _,⟨_,rfl⟩,q⟩
|byt y =>
  obtain⟨t,rfl⟩:=rx
  obtain⟨hy,e'⟩:y.size<=sizeLine/\n=y.size:=e
  subst e'
  exact PySem.W.len_bytes (by lia) ⟨.int _,H,I.tok _,⟨_,rfl⟩,q⟩
|ref p =>
  cases rx
  have e':(∃xs,SqL X.K H p xs/\n=xs.length)\/∃xs,SqT X.K H p xs/\n=xs.length:=e
  rcases e' with ⟨xs,hx,e'⟩|⟨xs,hx,e'⟩
  ·subst e'
   obtain⟨its,r',pl,hz⟩:=I.list hx
   have hlen:=r'.length
   exact Calls.call_len_list pl.isList (by simp only[List.size_toArray];lia) ⟨.int xs.length,H,I.tok _,⟨_,by simp only[List.size_toArray];rw[hlen]⟩,q⟩
  ·subst e'
   obtain⟨its,r',pl,hz⟩:=I.tuple hx
   have hlen:=r'.length
   exact len_tuple pl (by simp only[List.size_toArray];lia) ⟨.int xs.length,H,I.tok _,⟨_,by simp only[List.size_toArray];rw[hlen]⟩,q⟩
|_=>exact(show False from e).elim
end
end L2
namespace L2
open PySem PySem.Spec PyProof.Rows
structure ObjM(h:Heap)(x dx C:Addr)(mA:Str->Option Value):Prop where
 obj:h.get? x=some (PySem.W.instObj C dx)
 ns:h.Ns1 dx mA
 ne:dx≠x
theorem qq5{h:Heap}{dx:Addr}{mA:Str->Option Value}(n:h.Ns1 dx mA):∃od,h.get? dx=some od/\∀name,PySem.W.lookIn name od=some (mA name):=by
 obtain⟨o,es,ep,ho,hd,hk,_,hm⟩:=n
 refine⟨o,ho,λname=>?_⟩
 have e:=hm name
 unfold nsFind findBy at e
 rw[←Array.find?_toList] at e
 unfold PySem.W.lookIn
 rw[hd]
 dsimp only
 split
 ·rename_i y q
  rw[q] at e
  exact congrArg some e
 ·rename_i q
  rw[q] at e
  have a:es.toList.any (·.refKey)=false:=by
   rw[List.any_eq_false]
   intro y hy
   obtain⟨z,t,hkey⟩:=hk y (Array.mem_toList_iff.mp hy)
   simp[DictEntry.refKey,hkey]
  have a':¬ es.toList.any (·.refKey)=true:=by rw[a];exact Bool.false_ne_true
  rw[if_neg a']
  exact congrArg some e
theorem ObjM.look{h:Heap}{x dx C:Addr}{mA:Str->Option Value}(I:ObjM h x dx C mA):∃od,PySem.W.InstAt h x (PySem.W.instObj C dx) C (some od)/\∀name,PySem.W.lookIn name od=some (mA name) :=
 let ⟨od,ho,hl⟩:=qq5 I.ns
 ⟨od,⟨I.obj,rfl,rfl,ho⟩,hl⟩
section
variable {prog:Program} {w:World} {A:Around} {E:Value->Shared->Prop} {s:Shared} {K:PySem.W.Frag} {x dx C f:Addr} {mA:Str->Option Value} {name:Str} {v:Value}
theorem qw5{expr:Bool}{Q:Value->Shared->Prop}(X:K.In s.heap)(I:ObjM s.heap x dx C mA)(hg:PySem.W.plainGet K C name=true)(hh:PySem.W.hasDictIn K C=true)
  (ha:PySem.W.findIn K (.ref C) name=some none) (hv:mA name=some v) (hv':PySem.W.handedIn v=true) (h:Q v { s with toks:=s.toks+1 }) :
  wpAny (model prog w) A (getAttr (.ref x) name expr) Q E s:=by
 obtain⟨od,J,hl⟩:=I.look
 exact PySem.W.get_value X J (PySem.W.plainGet_of hg).1 (PySem.W.findObj_own hh ha rfl (by rw[hl,hv])) hv' h
theorem qs1{pl:Sem Bool}{Q:Value×List Value->Shared->Prop}(X:K.In s.heap)(I:ObjM s.heap x dx C mA)(hg:PySem.W.plainGet K C name=true)
  (hf:PySem.W.findIn K (.ref C) name=some (some (.ref f))) (ht:PySem.W.isFn K (.ref f)=true) (hv:mA name=none) (h:Q (.ref f,[.ref x]) s) :
  wpAny (model prog w) A (getMethod (.ref x) name pl) Q E s:=by
 obtain⟨od,J,hl⟩:=I.look
 exact PySem.W.method_fn X J (PySem.W.plainGet_of hg).1 (PySem.W.plainGet_of hg).2 hf (beq_iff_eq.mp ht) (by show (PySem.W.lookIn name od).map (·.isSome)=some false;rw[hl,hv];rfl) h
theorem qyx{ns:List Str}{Q:Unit->Shared->Prop}(X:K.In s.heap)(I:ObjM s.heap x dx C mA)
  (hs:PySem.W.findIn K (.ref C) "__setattr__" = some (some (.builtin "object.__setattr__"))) (hp:PySem.W.plainOver K C=true) (ht:PySem.W.takerIn K C name=some none) (hh:PySem.W.hasDictIn K C=true)
  (hw:PySem.Within mA ns) (hsz:ns.length<=sizeLine)
  (h:∀h',ObjM h' x dx C (λy=>if y=name then some v else mA y)->Heap.SameBut dx s.heap h'->Q () { s with heap:=h',toks:=s.toks+2 }) :
  wpAny (model prog w) A (setAttr (.ref x) name v) Q E s:=by
 obtain⟨od,J,hl⟩:=I.look
 refine PySem.W.set_plain X J hs (PySem.W.osa_open (s:={ s with toks:=s.toks+1 }) (r:=none) X J hp ht λb=>?_)
 obtain⟨cd,hc,hd'⟩:=PySem.W.any_some hh
 have hx:s.heap.get? x=some ⟨.ref C,some dx,.plain,#[]⟩:=I.obj
 refine wpAny_bind (wpAny_pure (wpAny_bind (wpAny_bind (wpAny_loadPart hx (wpAny_bind (PySem.W.Looks.here (s:={ s with toks:=s.toks+1 }) (PySem.W.looks_clsIn X hc) ?_))))))
 rw[hd']
 refine wpAny_pure (a:=some dx) (wpAny_bind (wpAny_pure (wpAny_bind ?_)))
 refine wpAny_nsSet1 (s:={ s with toks:=s.toks+1 }) I.ns λh' hn2 hs2=>?_
 obtain⟨oD,esD,epD,hoD,hdD,hcD⟩:=hn2.count (PySem.Within.cons name v hw)
 refine wpAny_bind (wpAny_lookBehind hoD (by rw[hdD];exact pastItsLine_dict (Nat.le_trans hcD (by rw[List.length_cons];lia))) ?_)
 exact wpAny_pure (h _ ⟨(hs2.2 _ (Ne.symm I.ne)).trans I.obj,hn2,I.ne⟩ hs2)
theorem qtd{R:Result->Shared->Prop}{vs:List Value}{kw:List (Str×Value)}(X:K.In s.heap)(hm:PySem.W.makesIn K C=true)
  (hi:PySem.W.findIn K (.ref C) "__init__" = some (some (.ref f))) (hf:PySem.W.typeIn K (.ref f)=some (.type "function"))
  (h:codeAny (model prog w) (A.under (.builtin "type.__call__" ⟨.ref C::vs,kw⟩)) (.call (.ref f) ⟨.ref (s.heap.objs.size+1)::vs,kw⟩) (PySem.W.InitBack (s.heap.objs.size+1) R)
   { s with heap:=(s.heap.push PySem.W.emptyDict).push (PySem.W.instObj C s.heap.objs.size) }) :
  codeAny (model prog w) A (.call (.ref C) ⟨vs,kw⟩) R s:=by
 obtain⟨hh,g,d,t,os⟩:=s
 exact PySem.W.make_core (PySem.W.makes_of X hm) (PySem.W.looks_findIn X hi) (λself=>PySem.W.bind_fn X self hf) (.inl rfl) h
end
def putF(f:Str)(v:V):List (Str×V)->List (Str×V)
|[]=>[(f,v)]
|(g,x)::r=>if g=f then (g,v)::r else (g,x)::putF f v r
theorem qg0(f g:Str)(v:V):∀fs:List (Str×V),(putF f v fs).lookup g=if g=f then some v else fs.lookup g
|[]=>by
  show List.lookup g [(f,v)]=_
  by_cases h:g=f
  ·have hb:(g==f)=true:=beq_iff_eq.mpr h
   simp only[List.lookup,hb,if_pos h]
  ·have hb:(g==f)=false:=beq_eq_false_iff_ne.mpr h
   simp only[List.lookup,hb,if_neg h]
|(k,x)::r=>by
  have ih:=qg0 f g v r
  rw[show putF f v ((k,x)::r)=(if k=f then (k,v)::r else (k,x)::putF f v r) from rfl]
  by_cases hk:k=f
  ·rw[if_pos hk]
   by_cases h:g=k
   ·have hb:(g==k)=true:=beq_iff_eq.mpr h
    simp only[List.lookup,hb,if_pos (h.trans hk)]
   ·have hb:(g==k)=false:=beq_eq_false_iff_ne.mpr h
    simp only[List.lookup,hb,if_neg (λe:g=f=>h (e.trans hk.symm))]
  ·rw[if_neg hk]
   by_cases h:g=k
   ·have hb:(g==k)=true:=beq_iff_eq.mpr h
    simp only[List.lookup,hb,if_neg (λe:g=f=>hk (h.symm.trans e))]
   ·have hb:(g==k)=false:=beq_eq_false_iff_ne.mpr h
    simp only[List.lookup,hb]
    exact ih
theorem qgs(f:Str)(v:V):∀fs:List (Str×V),f∈(putF f v fs).map (·.1)/\∀g,g∈fs.map (·.1)->g∈(putF f v fs).map (·.1)
|[]=>⟨by simp[putF],λg h=>by simp at h⟩
|(k,x)::r=>by
  obtain⟨i1,i2⟩:=qgs f v r
  rw[show putF f v ((k,x)::r)=(if k=f then (k,v)::r else (k,x)::putF f v r) from rfl]
  by_cases hk:k=f
  ·rw[if_pos hk]
   subst hk
   exact⟨by simp,λg h=>by simpa using h⟩
  ·rw[if_neg hk]
   refine⟨?_,λg h=>?_⟩
   ·rw[List.map_cons]
    exact List.mem_cons_of_mem _ i1
   ·rw[List.map_cons] at h ⊢
    rcases List.mem_cons.mp h with e|e
    ·exact List.mem_cons.mpr (.inl e)
    ·exact List.mem_cons_of_mem _ (i2 g e)
theorem qgx(f:Str)(v:V):∀fs:List (Str×V),(putF f v fs).length<=fs.length+1
|[]=>by simp[putF]
|(k,x)::r=>by
  have ih:=qgx f v r
  rw[show putF f v ((k,x)::r)=(if k=f then (k,v)::r else (k,x)::putF f v r) from rfl]
  by_cases hk:k=f
  ·rw[if_pos hk,List.length_cons,List.length_cons];lia
  ·rw[if_neg hk,List.length_cons,List.length_cons];lia
theorem RelO.some_of{v:V}{o:Option Value}(r:RelO (some v) o):∃u,o=some u/\RelV v u:=by
 cases o with
|none=>exact(show False from r).elim
|some u=>exact⟨u,rfl,r⟩
theorem RelO.none_of{o:Option Value}(r:RelO none o):o=none:=by
 cases o with
|none=>rfl
|some u=>exact(show False from r).elim
theorem qqj{v:V}{u:Value}(r:RelV v u):PySem.W.handedIn u=true:=by
 cases v with
|non=>cases (show u=Value.none from r);rfl
|bl b=>cases (show u=Value.bool b from r);rfl
|int i=>obtain⟨t,e⟩:=(show ∃t,u=Value.int i t from r);cases e;rfl
|str x=>obtain⟨t,e⟩:=(show ∃t,u=Value.str x t from r);cases e;rfl
|byt b=>obtain⟨t,e⟩:=(show ∃t,u=Value.bytes b t from r);cases e;rfl
|flt b=>obtain⟨t,e⟩:=(show ∃t,u=Value.float b t from r);cases e;rfl
|ref a=>cases (show u=Value.ref a from r);rfl
|ty n=>cases (show u=Value.type n from r);rfl
section
variable {P:Program} {w:World} {H H':Hp} {h h':Heap} {a C dx:Addr} {fs fs':List (Str×V)}
theorem qir(hok:HOk P w H h)(e:H a=some (.ins C dx fs)):∃mA,ObjM h a dx C mA/\(∀f,RelO (fs.lookup f) (mA f))/\PySem.Within mA (fs.map (·.1))/\fs.length<=1000/\H dx=some (.own a):=by
 obtain⟨d,z,ne,ob,mA,n,r,q⟩:=(show ObjOk P w H h a (.ins C dx fs) from hok a _ e)
 exact⟨mA,⟨ob,n,ne⟩,r,q,z,d⟩
end
structure Cls(K:PySem.W.Frag)(C:Addr):Prop where
 pg:PySem.W.plainGet K C Str.empty=true
 hd:PySem.W.hasDictIn K C=true
 po:PySem.W.plainOver K C=true
 sa:PySem.W.findIn K (.ref C) "__setattr__" = some (some (.builtin "object.__setattr__"))
theorem Cls.get{K:PySem.W.Frag}{C:Addr}(c:Cls K C)(f:Str):PySem.W.plainGet K C f=true:=c.pg
def NoAttr(K:PySem.W.Frag)(C:Addr)(f:Str):Prop:=PySem.W.findIn K (.ref C) f=some none
theorem NoAttr.taker{K:PySem.W.Frag}{C:Addr}{f:Str}(n:NoAttr K C f):PySem.W.takerIn K C f=some none:=by
 unfold PySem.W.takerIn
 rw[show PySem.W.findIn K (.ref C) f=some none from n]
 rfl
structure Con(K:PySem.W.Frag)(C:Addr)(f:Str)(v:V)(u:Value):Prop where
 at_:PySem.W.findIn K (.ref C) f=some (some u)
 rel:RelV v u
 get:PySem.W.specialIn K u "__get__" = some none
 cp:PySem.W.copiedNames.contains f=false
structure Meth(K:PySem.W.Frag)(C:Addr)(m:Str)(f:Addr):Prop where
 at_:PySem.W.findIn K (.ref C) m=some (some (.ref f))
 fn:PySem.W.isFn K (.ref f)=true
 kp:PySem.W.keepIn K (.ref f)=true
section
variable {X:Cx} {pins:List (Addr×Obj)} {σ:St} {H:Hp} {s:Shared} {a C dx:Addr} {fs:List (Str×V)} {f:Str} {v:V} {A:Around} {E:Value->Shared->Prop}
theorem qol{b:Bool}{Q:Value->Shared->Prop}(I:Inv X pins σ H s)(e:H a=some (.ins C dx fs))(c:Cls X.K C)(n:NoAttr X.K C f)(l:fs.lookup f=some v)
  (h:∀u s',Inv X pins σ H s'->RelV v u->Q u s'):wpAny (model X.prog X.w) A (getAttr (.ref a) f b) Q E s:=by
 obtain⟨mA,O,r,_,_,_⟩:=qir I.hok e
 obtain⟨u,hu,ru⟩:=RelO.some_of (v:=v) (o:=mA f) (by rw[←l];exact r f)
 exact qw5 I.kIn O (c.get f) c.hd n hu (qqj ru) (h u _ (I.tok _) ru)
theorem qfm{m:Str}{g:Addr}{pl:Sem Bool}{Q:Value×List Value->Shared->Prop}(I:Inv X pins σ H s)(e:H a=some (.ins C dx fs))(c:Cls X.K C)(k:Meth X.K C m g)(l:fs.lookup m=none)
  (h:Q (.ref g,[.ref a]) s):wpAny (model X.prog X.w) A (getMethod (.ref a) m pl) Q E s:=by
 obtain⟨mA,O,r,_,_,_⟩:=qir I.hok e
 have hn:mA m=none:=RelO.none_of (by rw[←l];exact r m)
 exact qs1 I.kIn O (c.get m) k.at_ k.fn hn h
theorem qo7{y:V}{u:Value}{Q:Unit->Shared->Prop}(I:Inv X pins σ H s)(e:H a=some (.ins C dx fs))(c:Cls X.K C)(n:NoAttr X.K C f)(hl:fs.length<1000)(ry:RelV y u)
  (h:∀s',Inv X pins σ (upd H a (.ins C dx (putF f y fs))) s'->Q () s'):wpAny (model X.prog X.w) A (setAttr (.ref a) f u) Q E s:=by
 obtain⟨mA,O,r,wi,_,ho⟩:=qir I.hok e
 have hz:(fs.map (·.1)).length<=sizeLine:=by rw[List.length_map,sizeLine_eq];lia
 refine qyx I.kIn O c.sa c.po n.taker c.hd wi hz λh' O' sb=>h _ ?_
 have hd:∃o,h'.get? dx=some o:=let ⟨o,_,_,e',_⟩:=O'.ns;⟨o,e'⟩
 refine I.write (x:=a) (e:=dx) (by rw[e];exact True.intro) (.inr ho) (λb q hb z=>(sb.2 b hb).trans z) hd ?_
 refine⟨by rw[qal O.ne];exact ho,?_,O.ne,O'.obj,_,O'.ns,λg=>?_,λg hg=>?_⟩
 ·have:=qgx f y fs;lia
 ·show RelO ((putF f y fs).lookup g) (if g=f then some u else mA g)
  rw[qg0]
  by_cases q:g=f
  ·rw[if_pos q,if_pos q];exact ry
  ·rw[if_neg q,if_neg q];exact r g
 ·by_cases q:g=f
  ·rw[q];exact(qgs f y fs).1
  ·refine(qgs f y fs).2 g (wi g λz=>hg ?_)
   show (if g=f then some u else mA g)=none
   rw[if_neg q];exact z
theorem Inv.made(I:Inv X pins σ H s):Inv X pins σ (upd (upd H s.heap.objs.size (.own (s.heap.objs.size+1))) (s.heap.objs.size+1) (.ins C s.heap.objs.size []))
  { s with heap:=(s.heap.push PySem.W.emptyDict).push (PySem.W.instObj C s.heap.objs.size) }:=by
 have e1:(s.heap.push PySem.W.emptyDict).get? s.heap.objs.size=some PySem.W.emptyDict:=Heap.get?_push_size s.heap rfl
 have e2:((s.heap.push PySem.W.emptyDict).push (PySem.W.instObj C s.heap.objs.size)).get? (s.heap.objs.size+1)=some (PySem.W.instObj C s.heap.objs.size):=by
  have:=Heap.get?_push_size (s.heap.push PySem.W.emptyDict) (o:=PySem.W.instObj C s.heap.objs.size) rfl
  rwa [Heap.size_push] at this
 have e3:(s.heap.push PySem.W.emptyDict).Ns s.heap.objs.size (λ_=>none):=⟨PySem.W.emptyDict,#[],_,e1,rfl,(λe he=>absurd he (by simp)),λ_=>rfl⟩
 have I1:=I.laid (a:=s.heap.objs.size) (o:=.own (s.heap.objs.size+1)) (h':=s.heap.push PySem.W.emptyDict) (t':=s.toks) (λb u q=>Heap.get?_push_of_some _ q) (Nat.le_refl _) ⟨_,e1⟩
 refine I1.laid (a:=s.heap.objs.size+1) (o:=.ins C s.heap.objs.size []) (t':=s.toks) (λb u q=>Heap.get?_push_of_some _ q) (Nat.le_of_eq (Heap.size_push _ _)) ?_
 have ne:s.heap.objs.size≠s.heap.objs.size+1:=Nat.ne_of_lt (Nat.lt_succ_self _)
 refine⟨by rw[qal ne,qag],Nat.zero_le _,ne,e2,λ_=>none,(Heap.Ns1.of_empty e3).at λo q=>Heap.get?_push_of_some _ q,λ_=>True.intro,λy hy=>absurd rfl hy⟩
theorem qws{prog:Program}{w:World}{env:Env}{e:Expr}{f:Str}{pos:Pos}{s:Shared}{Q:Value->Shared->Prop}(hb:attributeBase e f env (eval e env)=eval e env)
  (h:wpAny (model prog w) A (eval e env) (λo s₁=>wpAny (model prog w) A (getAttr o f true) Q E s₁) E s):wpAny (model prog w) A (eval (.Attribute e f pos) env) Q E s :=
 Attribute_any_ h (by rw[arm_eval_Attribute,hb])
end
def tFld(K:PySem.W.Frag)(ta:TE)(f:Str):TE:=λσ H Q=>ta σ H λx H1=>∃a C dx fs v,x=.ref a/\H1 a=some (.ins C dx fs)/\Cls K C/\NoAttr K C f/\fs.lookup f=some v/\Q v H1
def sFld(K:PySem.W.Frag)(ta tv:TE)(f:Str):TS:=λD σ H=>tv σ H λy H1=>ta σ H1 λx H2=>∃a C dx fs,x=.ref a/\H2 a=some (.ins C dx fs)/\Cls K C/\NoAttr K C f/\fs.length<1000 /\
 D.nx σ (upd H2 a (.ins C dx (putF f y fs)))
section
variable {X:Cx} {o e value:Expr} {f:Str} {pos pos' tpos:Pos} {ta tv:TE}
theorem q01(he:PE X e ta)(hb:attributeBase e f X.env (eval e X.env)=eval e X.env):PE X (.Attribute e f pos) (tFld X.K ta f):=by
 intro pins s σ H Q I h
 refine qws hb (thn (he pins s σ H _ I h) λu s1 ⟨x,H1,I1,rx,a,C,dx,fs,v,ex,ea,c,n,l,q⟩=>?_)
 subst ex
 obtain rfl:u=Value.ref a:=rx
 exact qol I1 ea c n l λu' s2 I2 ru=>⟨v,H1,I2,ru,q⟩
theorem q1d(ha:PE X o ta)(hv:PE X value tv)(hs:swapsWith value (some (.Attribute o f pos')) pos.line X.env=pure false):PS X (.Assign [.Attribute o f pos'] value pos) (sFld X.K ta tv f):=by
 intro pins s σ H D I h
 refine plainObj_wpAny_Assign_Attribute (thn (hv pins s σ H _ I h) λu s1 ⟨y,H1,I1,ry,q⟩=>thn (ha pins s1 σ H1 _ I1 q) λov s2 ⟨x,H2,I2,rx,a,C,dx,fs,ex,ea,c,n,l,q2⟩=>?_) hs
 subst ex
 obtain rfl:ov=Value.ref a:=rx
 exact qo7 I2 ea c n l ry λs3 I3=>⟨σ,_,I3,q2⟩
theorem qxj{pl:Sem Bool}{m:Str}{apos:Pos}{args:List Expr}{pins:List (Addr×Obj)}{s:Shared}{σ:St}{H:Hp}{Q:Value->Shared->Prop}{te:TE}(he:PE X e te)(I:Inv X pins σ H s)
  (h:te σ H λx H1=>∃a C dx fs g,x=.ref a/\H1 a=some (.ins C dx fs)/\Cls X.K C/\Meth X.K C m g/\fs.lookup m=none /\
   ∀s1,Inv X pins σ H1 s1->wpAny (model X.prog X.w) X.A (callWith pos (.ref g) [.ref a] (backTo pos (starEach args X.env)) (backToKw pos (keywordEach [] X.env))) Q X.xe s1)
  (ht:eval (.Call (.Attribute e m apos) args [] pos) X.env=(do
   let ov ←eval e X.env
   standAt apos.atName
   let (f,first) ←holding [ov] (getMethod ov m pl)
   callWith pos f first (backTo pos (starEach args X.env)) (backToKw pos (keywordEach [] X.env)))) :
  wpAny (model X.prog X.w) X.A (eval (.Call (.Attribute e m apos) args [] pos) X.env) Q X.xe s:=by
 refine PySem.W.methodCall_KW (pl:=pl) (thn (he pins s σ H _ I h) λu s1 ⟨x,H1,I1,rx,a,C,dx,fs,g,ex,ea,c,k,l,q⟩=>?_) ht
 subst ex
 obtain rfl:u=Value.ref a:=rx
 exact qfm I1 ea c k l (q s1 I1)
end
section
variable {X:Cx} {pins:List (Addr×Obj)} {σ:St} {H:Hp} {s:Shared} {A:Around} {E:Value->Shared->Prop} {Q:Value->Shared->Prop} {c:Value} {b:Bool}
inductive TyOf(K:PySem.W.Frag)(H:Hp):V->Value->Prop where
|non:TyOf K H .non (.type "NoneType")
|bl (x:Bool):TyOf K H (.bl x) (.type "bool")
|int (i:Int):TyOf K H (.int i) (.type "int")
|str (x:Str):TyOf K H (.str x) (.type "str")
|flt (x:UInt64):TyOf K H (.flt x) (.type "float")
|lst {a:Addr} {xs:List V} (e:H a=some (.lst xs)):TyOf K H (.ref a) (.type "list")
|frz {a:Addr} {o:Obj} {xs:List V} (e:H a=some (.frz o (.lst xs))):TyOf K H (.ref a) (.type "list")
|tup {a:Addr} {xs:List V} (e:H a=some (.tup xs)):TyOf K H (.ref a) (.type "tuple")
|dK {a:Addr} {kvs:List (Key×V)} (e:H a=some (.dK kvs)):TyOf K H (.ref a) (.type "dict")
|dT {a:Addr} {kvs:List (List Key×V)} (e:H a=some (.dT kvs)):TyOf K H (.ref a) (.type "dict")
|ins {a C dx:Addr} {fs:List (Str×V)} (e:H a=some (.ins C dx fs)) (cl:Cls K C) (ha:PySem.W.findIn K (.ref C) "__class__" = some (some (.builtin "object.__class__")))
   (hn:PySem.W.specialIn K (.builtin "object.__class__") "__get__" = some (some (.builtin "getset_descriptor.__get__"))) (htk:PySem.W.takesIn K (.builtin "object.__class__")=some true)
   (hm:PySem.W.mroIn K C (.type "object")=some true):TyOf K H (.ref a) (.ref C)
theorem qdz{x:V}{u t:Value}(I:Inv X pins σ H s)(rx:RelV x u)(ty:TyOf X.K H x t)(e:PySem.W.kitOne X.K t c=some b)(h:∀tk,Q (.bool b) { s with toks:=tk }) :
  wpAny (model X.prog X.w) A (call (.builtin "isinstance") [u,c]) Q E s:=by
 cases ty with
|non=>cases (show u=Value.none from rx);exact PySem.W.kia_one PySem.W.kitx_none I.kIn True.intro e (λz=>nomatch z) h
|bl y=>cases (show u=Value.bool y from rx);exact PySem.W.kia_one PySem.W.kitx_bool I.kIn True.intro e (λz=>nomatch z) h
|int i=>obtain⟨t,q⟩:=(show ∃t,u=Value.int i t from rx);cases q;exact PySem.W.kia_one PySem.W.kitx_int I.kIn True.intro e (λz=>nomatch z) h
|str y=>obtain⟨t,q⟩:=(show ∃t,u=Value.str y t from rx);cases q;exact PySem.W.kia_one PySem.W.kitx_str I.kIn True.intro e (λz=>nomatch z) h
|flt y=>obtain⟨t,q⟩:=(show ∃t,u=Value.float y t from rx);cases q;exact PySem.W.kia_one PySem.W.kitx_float I.kIn True.intro e (λz=>nomatch z) h
|@lst a xs ea =>
  cases (show u=Value.ref a from rx)
  obtain⟨_,_,n,_,h1⟩:=(show ObjOk X.prog X.w H s.heap a (.lst xs) from I.hok a _ ea)
  exact PySem.W.kia_one PySem.W.kitx_list I.kIn ⟨_,h1,rfl⟩ e (λz=>nomatch z) h
|@frz a ob xs ea =>
  cases (show u=Value.ref a from rx)
  obtain⟨_,_,_,n,_,h1⟩:=(show ObjOk X.prog X.w H s.heap a (.frz ob (.lst xs)) from I.hok a _ ea)
  exact PySem.W.kia_one PySem.W.kitx_list I.kIn ⟨_,h1,rfl⟩ e (λz=>nomatch z) h
|@tup a xs ea =>
  cases (show u=Value.ref a from rx)
  obtain⟨_,_,_,p⟩:=(show ObjOk X.prog X.w H s.heap a (.tup xs) from I.hok a _ ea)
  obtain⟨o,h1,h2,_⟩:=p
  exact PySem.W.kia_one PySem.W.kitx_tuple I.kIn ⟨o,h1,h2⟩ e (λz=>nomatch z) h
|@dK a kvs ea =>
  cases (show u=Value.ref a from rx)
  obtain⟨_,_,vs,_,p⟩:=(show ObjOk X.prog X.w H s.heap a (.dK kvs) from I.hok a _ ea)
  obtain⟨o,es,ep,h1,h2,_⟩:=p
  exact PySem.W.kia_one PySem.W.kitx_dict I.kIn ⟨o,h1,h2.1⟩ e (λz=>nomatch z) h
|@dT a kvs ea =>
  cases (show u=Value.ref a from rx)
  obtain⟨_,_,xs,_,o,es,ep,h1,h2,_⟩:=(show ObjOk X.prog X.w H s.heap a (.dT kvs) from I.hok a _ ea)
  exact PySem.W.kia_one PySem.W.kitx_dict I.kIn ⟨o,h1,h2.1⟩ e (λz=>nomatch z) h
|@ins a C dx fs ea cl ha hn htk hm =>
  cases (show u=Value.ref a from rx)
  obtain⟨mA,O,_⟩:=qir I.hok ea
  obtain⟨od,J,_⟩:=O.look
  exact PySem.W.kia_one (PySem.W.kitx_own (cl.get _) cl.hd ha hn htk hm) I.kIn J e (λz=>nomatch z) h
end
end L2
namespace L2
open PySem PySem.Spec PyProof.Rows
structure Room(k:Nat)(A:Around):Prop where
 hd:A.handled=none
 dp:A.depth+3*k+5<recursionLimit
 un:A.units+16*k+200<cLine
theorem Room.mono{j k:Nat}{A:Around}(r:Room k A)(h:j<=k):Room j A:=⟨r.hd,by have:=r.dp;lia,by have:=r.un;lia⟩
theorem Room.deeper{k:Nat}{A:Around}(r:Room (k+1) A)(env:Env):Room k (A.deeper env) :=
 ⟨r.hd,by have:=r.dp;show A.depth+1+3*k+5<_;lia,by have:=r.un;show A.units+3+16*k+200<_;lia⟩
theorem qos{A:Around}{C:Addr}{us:List Value}{kw:List (Str×Value)}:(A.under (.builtin "type.__call__" ⟨.ref C::us,kw⟩)).depth=A.depth+1:=by
 first|rfl|simp[Around.under,Code.weight,Code.isCreation,Code.isGuard,Code.isCaller,Code.frames,Code.isFrame,guardIds]
theorem qot{A:Around}{C:Addr}{us:List Value}{kw:List (Str×Value)}:(A.under (.builtin "type.__call__" ⟨.ref C::us,kw⟩)).units=A.units+1:=by
 first|rfl|simp[Around.under,Code.cUnits,Code.frames,Code.isFrame]
theorem Room.make{k:Nat}{A:Around}(r:Room (k+1) A)(C:Addr)(us:List Value)(kw:List (Str×Value)):Room k (A.under (.builtin "type.__call__" ⟨.ref C::us,kw⟩)) :=
 ⟨r.hd,by have:=r.dp;rw[qos];lia,by have:=r.un;rw[qot];lia⟩
theorem Room.depth{k:Nat}{A:Around}(r:Room k A):A.depth<recursionLimit:=by have:=r.dp;lia
theorem Room.units{k:Nat}{A:Around}(r:Room k A):A.units+64<cLine:=by have:=r.un;lia
def tNil:TA:=λ_ H Q=>Q [] H
def qcm(ta:TE)(tr:TA):TA:=λσ H Q=>ta σ H λx H1=>tr σ H1 λxs H2=>Q (x::xs) H2
section
variable {X:Cx} {e:Expr} {es:List Expr} {te:TE} {t:TA} {pos:Pos}
theorem q0v:PA X [] tNil:=λ_ _ _ _ H Q I h=>Calls.spliced_nil ⟨[],H,I,.nil,h⟩
theorem qxu(ha:PE X e te)(hr:PA X es t)(hs:starEach (e::es) X.env=(false,eval e X.env)::starEach es X.env:=by rfl):PA X (e::es) (qcm te t):=by
 intro pos pins s σ H Q I h
 rw[hs]
 show wpAny _ _ (spliced ((false,eval e X.env)::backTo pos (starEach es X.env))) _ _ s
 refine Calls.spliced_cons (thn (ha pins s σ H _ I h) λu s1 ⟨x,H1,I1,r1,q1⟩=>?_)
 exact thn (hr pos pins s1 σ H1 _ I1 q1) λus s2 ⟨xs,H2,I2,r2,q2⟩=>⟨x::xs,H2,I2,.cons r1 r2,q2⟩
def tTup(t:TA):TE:=λσ H Q=>t σ H λxs H1=>xs.length<=sizeLine/\∀p,H1 p=none->Q (.ref p) (upd H1 p (.tup xs))
def tLst(t:TA):TE:=λσ H Q=>t σ H λxs H1=>xs.length<=sizeLine/\∀p,H1 p=none->Q (.ref p) (upd H1 p (.lst xs))
theorem q08{x1}(h:PA X es t):PE X (.Tuple es x1 pos) (tTup t):=by
 intro pins s σ H Q I hq
 refine wpAny_Tuple_spliced (thn (h pos pins s σ H _ I hq) λus s1 ⟨xs,H1,I1,r,z,q⟩=>⟨by rw[←r.length];exact z,?_⟩)
 have hf:H1 s1.heap.objs.size=none:=I1.hok.fresh (Nat.le_refl _)
 refine⟨.ref s1.heap.objs.size,upd H1 s1.heap.objs.size (.tup xs),I1.laid (t':=s1.toks) (λb u e=>Heap.get?_push_of_some _ e) (Nat.le_refl _) ?_,rfl,q _ hf⟩
 exact⟨z,us,r,⟨_,Heap.get?_push_size _ rfl,rfl,_,rfl⟩⟩
theorem q03(h:PA X es t):PE X (.List es pos) (tLst t):=by
 intro pins s σ H Q I hq
 refine wpAny_List_spliced (thn (h pos pins s σ H _ I hq) λus s1 ⟨xs,H1,I1,r,z,q⟩=>⟨by rw[←r.length];exact z,?_⟩)
 have hf:H1 s1.heap.objs.size=none:=I1.hok.fresh (Nat.le_refl _)
 refine⟨.ref s1.heap.objs.size,upd H1 s1.heap.objs.size (.lst xs),I1.laid (t':=s1.toks) (λb u e=>Heap.get?_push_of_some _ e) (Nat.le_refl _) ?_,rfl,q _ hf⟩
 exact⟨z,us,0,r,Heap.get?_push_size _ rfl⟩
end
abbrev Sp:=List V->Hp->VK->XK->Prop
abbrev CXT:=List Env->Hp->Shared->XK->Value->Shared->Prop
structure Env0(P:Program)(w:World)(K:PySem.W.Frag)(mg:Str->Option Value)(base:Heap)(A:Around)(outer:List Env)(s:Shared)(H:Hp):Prop where
 frames:A.frames=some outer
 mod:Mod K mg base
 bs:∀b o,base.get? b=some o->s.heap.get? b=some o/\H b=none
 bsz:base.objs.size<=s.heap.objs.size
 funs:s.heap.FunFrames base outer
 frf:∀b∈frs outer,H b=none
 hok:HOk P w H s.heap
 bare:AllBare s.gens
def CE(outer:List Env)(P:Program)(w:World)(H:Hp)(s:Shared)(Q:VK)(u:Value)(s':Shared):Prop :=
 ∃v H',s'.os=s.os/\AllBare s'.gens/\Un (frs outer) [] H H' s.heap s'.heap/\HOk P w H' s'.heap/\RelV v u/\Q v H'
def CR(CX:CXT)(outer:List Env)(P:Program)(w:World)(H:Hp)(s:Shared)(Q:VK)(E:XK)(r:Result)(s':Shared):Prop :=
 match r with
|.ok (.ret u)=>CE outer P w H s Q u s'
|.ok _=>False
|.error e=>CX outer H s E e s'
structure FnOk(P:Program)(w:World)(K:PySem.W.Frag)(mg:Str->Option Value)(base:Heap)(CX:CXT)(k:Nat)(f:Addr)(fd:FuncData)(ps:List Str)(sp:Sp):Prop where
 len:∀vs H Q E,sp vs H Q E->vs.length=ps.length
 run:∀(A:Around) (outer:List Env) (s:Shared) (H:Hp) (args:Args) (us:List Value) (vs:List V) (Q:VK) (E:XK),Room k A->Env0 P w K mg base A outer s H->BindsTo s fd args (ps.zip us)->Vals vs us->sp vs H Q E ->
  codeAny (model P w) A (.call (.ref f) args) (CR CX outer P w H s Q E) s
theorem Env0.make{P:Program}{w:World}{K:PySem.W.Frag}{mg:Str->Option Value}{base:Heap}{A:Around}{outer:List Env}{s:Shared}{H:Hp}(e:Env0 P w K mg base A outer s H)(C:Addr)(us:List Value)(kw:List (Str×Value)) :
  Env0 P w K mg base (A.under (.builtin "type.__call__" ⟨.ref C::us,kw⟩)) outer s H:=⟨by first|exact e.frames|(simpa [Around.under,Code.envs,Code.isFrame,pushEnvs] using e.frames),e.mod,e.bs,e.bsz,e.funs,e.frf,e.hok,e.bare⟩
section
variable {X:Cx} {pins:List (Addr×Obj)} {σ:St} {H:Hp} {s s':Shared}
theorem Inv.env0(I:Inv X pins σ H s):Env0 X.prog X.w X.K X.mg X.base X.A X.stack s H :=
 ⟨I.ok.frames,I.ok.mod,I.bs,Nat.le_trans I.ok.bsz I.sz,I.stack,I.stkFree,I.hok,I.bare⟩
theorem Inv.after{Q:VK}{u:Value}(I:Inv X pins σ H s)(h:CE X.stack X.prog X.w H s Q u s'):EP X pins σ Q u s':=by
 obtain⟨v,H',os,bare,un,hok,r,q⟩:=h
 obtain⟨hh,g,d,t,os'⟩:=s'
 obtain rfl:os'=s.os:=os
 exact⟨v,H',I.call (h':=hh) (g':=g) (d':=d) (t':=t) (ch:=[]) un hok bare (λb z=>absurd z (by simp)),r,q⟩
end
def qo9(sp:Sp)(dvs:List V)(E:XK)(t:TA):TE:=λσ H Q=>t σ H λvs H1=>sp (vs++dvs) H1 Q E
def q3x(C:Addr)(m:Str)(sp:Sp)(dvs:List V)(E:XK)(ta:TE)(t:TA):TE:=λσ H Q=>ta σ H λx H1=>∃a dx fs,x=.ref a/\H1 a=some (.ins C dx fs)/\fs.lookup m=none /\
 t σ H1 λvs H2=>sp (x::(vs++dvs)) H2 Q E
def qsb(C:Addr)(sp:Sp)(dvs:List V)(E:XK)(t:TA):TE:=λσ H Q=>t σ H λvs H1=>∀x dx,H1 x=none->H1 dx=none->dx≠x ->
 sp (.ref x::(vs++dvs)) (upd (upd H1 dx (.own x)) x (.ins C dx [])) (λv H2=>v=.non/\Q (.ref x) H2) E
def Binds(K:PySem.W.Frag)(fd:FuncData)(ps:List Str)(ds:List Value):Prop :=
 ∀(s:Shared) (us:List Value),K.In s.heap->(us++ds).length=ps.length->BindsTo s fd ⟨us,[]⟩ (ps.zip (us++ds))
theorem Binds.all{K:PySem.W.Frag}{fd:FuncData}{ps:List Str}(h:∀us:List Value,us.length=ps.length->bindArgs fd ⟨us,[]⟩=pure (ps.zip us)):Binds K fd ps []:=λs us _ hl=>by
 rw[List.append_nil] at hl ⊢
 exact .of_eq (h us hl)
def qhw(CX:CXT)(X:Cx)(E:XK):Prop:=∀(pins:List (Addr×Obj)) (σ:St) (H:Hp) (s:Shared) (e:Value) (s':Shared),Inv X pins σ H s->CX X.stack H s E e s'->X.xe e s'
section
variable {X:Cx} {CX:CXT} {k:Nat} {f C:Addr} {fd:FuncData} {ps:List Str} {sp:Sp} {dvs:List V} {ds:List Value} {E:XK} {x m:Str} {p pos apos:Pos} {e o:Expr} {es:List Expr} {ta:TE} {t:TA}
theorem qv5{pins:List (Addr×Obj)}{σ:St}{H:Hp}{s:Shared}{Q:VK}{us:List Value}{vs:List V}(F:FnOk X.prog X.w X.K X.mg X.base CX k f fd ps sp)(hr:Room k X.A)(hb:Binds X.K fd ps ds)(hd:Vals dvs ds)(hx:qhw CX X E)
  (I:Inv X pins σ H s) (r:Vals vs us) (h:sp (vs++dvs) H Q E):wpAny (model X.prog X.w) X.A (call (.ref f) us) (EP X pins σ Q) X.xe s:=by
 have r2:Vals (vs++dvs) (us++ds):=r.append hd
 have hl:(us++ds).length=ps.length:=by rw[←r2.length];exact F.len _ _ _ _ h
 refine wpAny_call (codeAny_mono (F.run X.A X.stack s H ⟨us,[]⟩ (us++ds) (vs++dvs) Q E hr I.env0 (hb s us I.kIn hl) r2 h) λr s' hq=>?_)
 cases r with
|error e=>exact hx pins σ H s e s' I hq
|ok fl =>
  cases fl with
 |ret u=>exact I.after hq
 |next=>exact False.elim hq
 |brk=>exact False.elim hq
 |cont=>exact False.elim hq
theorem qxy(F:FnOk X.prog X.w X.K X.mg X.base CX k f fd ps sp)(hr:Room k X.A)(hg:Gl X x)(hm:X.mg x=some (.ref f))(hk:PySem.W.keepIn X.K (.ref f)=true)(hb:Binds X.K fd ps ds)(hd:Vals dvs ds)(hx:qhw CX X E)
  (ha:PA X (e::es) t) (hdb:(x==("__debug__" : Str))=false:=by decide) (he:starEach (e::es) X.env=(false,eval e X.env)::starEach es X.env:=by rfl) (hpl:(backTo pos (starEach es X.env)).any (·.1)=false:=by rfl) :
  PE X (.Call (.Name x p) (e::es) [] pos) (qo9 sp dvs E t):=by
 intro pins s σ H Q I h
 refine wpAny_Call_Name_kw (qgu I hg hm ?_ hdb)
 refine PySem.W.callWith_K (h₀:=X.base) I.ok.mod.kin hk (thn (ha pos pins s σ H _ I h) λus s1 ⟨vs,H1,I1,r,q⟩=>⟨I1.kIn,?_⟩) he hpl
 exact qv5 F hr hb hd hx I1 r q
theorem qtt{pl:Sem Bool}(he:PE X o ta)(c:Cls X.K C)(hm:Meth X.K C m f)(F:FnOk X.prog X.w X.K X.mg X.base CX k f fd ps sp)(hr:Room k X.A)(hb:Binds X.K fd ps ds)(hd:Vals dvs ds)(hx:qhw CX X E)
  (ht:eval (.Call (.Attribute o m apos) [] [] pos) X.env=(do
   let ov ←eval o X.env
   standAt apos.atName
   let (f,first) ←holding [ov] (getMethod ov m pl)
   callWith pos f first (backTo pos (starEach [] X.env)) (backToKw pos (keywordEach [] X.env))):=by rfl) :
  PE X (.Call (.Attribute o m apos) [] [] pos) (q3x C m sp dvs E ta tNil):=by
 intro pins s σ H Q I h
 refine PySem.W.methodCall_KW (pl:=pl) (thn (he pins s σ H _ I h) λu s1 ⟨x,H1,I1,rx,a,dx,fs,ex,ea,l,q⟩=>?_) ht
 subst ex
 obtain rfl:u=Value.ref a:=rx
 refine qfm I1 ea c hm l ?_
 exact PySem.W.callWith_K0 (first:=[.ref a]) I1.kIn hm.kp (qv5 (us:=[.ref a]) (vs:=[.ref a]) F hr hb hd hx I1 (.cons rfl .nil) q)
structure Mk(K:PySem.W.Frag)(C f:Addr):Prop where
 makes:PySem.W.makesIn K C=true
 init:PySem.W.findIn K (.ref C) "__init__" = some (some (.ref f))
 fn:PySem.W.isFn K (.ref f)=true
 kp:PySem.W.keepIn K (.ref C)=true
theorem qud{pins:List (Addr×Obj)}{σ:St}{H:Hp}{s:Shared}{Q:VK}{us:List Value}{vs:List V}(M:Mk X.K C f)(F:FnOk X.prog X.w X.K X.mg X.base CX k f fd ps sp)(hr:Room (k+1) X.A)(hb:Binds X.K fd ps ds)(hd:Vals dvs ds)
  (hx:qhw CX X E) (I:Inv X pins σ H s) (r:Vals vs us)
  (h:∀x dx,H x=none->H dx=none->dx≠x->sp (.ref x::(vs++dvs)) (upd (upd H dx (.own x)) x (.ins C dx [])) (λv H2=>v=.non/\Q (.ref x) H2) E) :
  wpAny (model X.prog X.w) X.A (call (.ref C) us) (EP X pins σ Q) X.xe s:=by
 have hq:=h (s.heap.objs.size+1) s.heap.objs.size (I.hok.fresh (Nat.le_succ _)) (I.hok.fresh (Nat.le_refl _)) (Nat.ne_of_lt (Nat.lt_succ_self _))
 have I2:=Inv.made (C:=C) I
 have r2:Vals (V.ref (s.heap.objs.size+1)::(vs++dvs)) (Value.ref (s.heap.objs.size+1)::(us++ds)):=.cons rfl (r.append hd)
 have hl:(Value.ref (s.heap.objs.size+1)::us++ds).length=ps.length:=by
  have e:=r2.length
  rw[F.len _ _ _ _ hq] at e
  exact e.symm
 refine wpAny_call (qtd (f:=f) I.kIn M.makes M.init (beq_iff_eq.mp M.fn) (codeAny_mono (F.run _ X.stack _ _ ⟨Value.ref (s.heap.objs.size+1)::us,[]⟩ (Value.ref (s.heap.objs.size+1)::(us++ds)) _ _ E (hr.make C us [])
  (I2.env0.make C us []) (hb _ (Value.ref (s.heap.objs.size+1)::us) I2.kIn hl) r2 hq) λr s' hq'=>?_))
 cases r with
|error e=>exact hx pins σ _ _ e s' I2 hq'
|ok fl =>
  cases fl with
 |ret u =>
   obtain⟨v,H',I3,rv,ev,q3⟩:=I2.after hq'
   subst ev
   exact⟨rv,⟨V.ref (s.heap.objs.size+1),H',I3,rfl,q3⟩⟩
 |next=>exact False.elim hq'
 |brk=>exact False.elim hq'
 |cont=>exact False.elim hq'
theorem qx2(M:Mk X.K C f)(F:FnOk X.prog X.w X.K X.mg X.base CX k f fd ps sp)(hr:Room (k+1) X.A)(hg:Gl X x)(hm:X.mg x=some (.ref C))(hb:Binds X.K fd ps ds)(hd:Vals dvs ds)(hx:qhw CX X E)
  (ha:PA X (e::es) t) (hdb:(x==("__debug__" : Str))=false:=by decide) (he:starEach (e::es) X.env=(false,eval e X.env)::starEach es X.env:=by rfl) (hpl:(backTo pos (starEach es X.env)).any (·.1)=false:=by rfl) :
  PE X (.Call (.Name x p) (e::es) [] pos) (qsb C sp dvs E t):=by
 intro pins s σ H Q I h
 refine wpAny_Call_Name_kw (qgu I hg hm ?_ hdb)
 refine PySem.W.callWith_K (h₀:=X.base) I.ok.mod.kin M.kp (thn (ha pos pins s σ H _ I h) λus s1 ⟨vs,H1,I1,r,q⟩=>⟨I1.kIn,?_⟩) he hpl
 exact qud M F hr hb hd hx I1 r q
end
section
variable {X:Cx} {CX:CXT} {k:Nat} {f C:Addr} {fd:FuncData} {ps ks:List Str} {sp:Sp} {E:XK} {x m:Str} {p pos apos kpos:Pos} {e o:Expr} {es:List Expr} {kws:List Keyword} {te ta:TE} {t tk:TA} {nm:Option Str}
structure KBinds(K:PySem.W.Frag)(fd:FuncData)(ps ks:List Str)(g:List Value->List Value->List Value)(gV:List V->List V->List V):Prop where
 to:∀(s:Shared) (us ws:List Value),K.In s.heap->(g us ws).length=ps.length->BindsTo s fd ⟨us,ks.zip ws⟩ (ps.zip (g us ws))
 rel:∀ {vs:List V} {us:List Value} {zs:List V} {ws:List Value},Vals vs us->Vals zs ws->Vals (gV vs zs) (g us ws)
variable {g:List Value->List Value->List Value} {gV:List V->List V->List V}
end
structure FnScope(N P:List Str)(sc:Scope):Prop where
 kind:sc.kind=.function
 co:sc.isCoroutine=false
 gen:sc.isGenerator=false
 nd:N.Nodup
 pre:N.take P.length=P
 par:∀x∈P,sc.names.lookup x=some .local\/sc.names.lookup x=some .cell
 nofree:∀y∈sc.names,y.2≠.free
theorem qkc{kindOf:Str->Option NameKind}{x:Str}:∀ {binds:List (Str×Value)} {m:Str->Option Value},(∀v,(x,v)∉binds)->bindL kindOf binds m x=m x
|[],_,_=>rfl
|(n,v)::r,m,h=>by
  unfold bindL
  rw[qkc λw hw=>h w (List.mem_cons_of_mem _ hw)]
  split
  ·have:x≠n:=by rintro rfl;exact h v List.mem_cons_self
   simp[this]
  ·rfl
theorem qka{kindOf:Str->Option NameKind}{x:Str}:∀ {binds:List (Str×Value)} {m:Str->Option Value},(∀v,(x,v)∉binds)->bindC kindOf binds m x=m x
|[],_,_=>rfl
|(n,v)::r,m,h=>by
  unfold bindC
  rw[qka λw hw=>h w (List.mem_cons_of_mem _ hw)]
  split
  ·rfl
  ·have:x≠n:=by rintro rfl;exact h v List.mem_cons_self
   simp[this]
theorem qkb{kindOf:Str->Option NameKind}{x:Str}{v:Value}:∀ {P:List Str} {vs:List Value} {i:Nat} {m:Str->Option Value},P.Nodup->P[i]?=some x->vs[i]?=some v->kindOf x=some .local ->
  bindL kindOf (P.zip vs) m x=some v
|[],_,_,_,_,h,_,_=>by simp at h
|_::_,[],_,_,_,_,h,_=>by simp at h
|p::P,w::vs,0,m,nd,h1,h2,hk=>by
  simp at h1 h2;subst h1;subst h2
  show bindL kindOf ((p,w)::P.zip vs) m p=_
  unfold bindL
  rw[qkc λv hv=>(List.nodup_cons.mp nd).1 (List.of_mem_zip hv).1,if_pos hk]
  simp
|p::P,w::vs,i+1,m,nd,h1,h2,hk=>by
  show bindL kindOf ((p,w)::P.zip vs) m x=_
  unfold bindL
  exact qkb (i:=i) (List.nodup_cons.mp nd).2 (by simpa using h1) (by simpa using h2) hk
theorem qj9{kindOf:Str->Option NameKind}{x:Str}{v:Value}:∀ {P:List Str} {vs:List Value} {i:Nat} {m:Str->Option Value},P.Nodup->P[i]?=some x->vs[i]?=some v->kindOf x≠some .local ->
  bindC kindOf (P.zip vs) m x=some v
|[],_,_,_,_,h,_,_=>by simp at h
|_::_,[],_,_,_,_,h,_=>by simp at h
|p::P,w::vs,0,m,nd,h1,h2,hk=>by
  simp at h1 h2;subst h1;subst h2
  show bindC kindOf ((p,w)::P.zip vs) m p=_
  unfold bindC
  rw[qka λv hv=>(List.nodup_cons.mp nd).1 (List.of_mem_zip hv).1,if_neg hk]
  simp
|p::P,w::vs,i+1,m,nd,h1,h2,hk=>by
  show bindC kindOf ((p,w)::P.zip vs) m x=_
  unfold bindC
  exact qj9 (i:=i) (List.nodup_cons.mp nd).2 (by simpa using h1) (by simpa using h2) hk
def start(N:List Str)(vs:List V):St:=vs.map some++List.replicate (N.length-vs.length) none
def cxOf(CX:CXT)(P:Program)(w:World)(K:PySem.W.Frag)(mg:Str->Option Value)(base:Heap)(N:List Str)(qual:Str)(scope:Scope)(f:Addr)(cd:Value)(A:Around)(outer:List Env)(s:Shared)(H:Hp)(E:XK):Cx where
 prog:=P
 w:=w
 K:=K
 mg:=mg
 base:=base
 A:=A.deeper (envOfC qual scope s.heap.objs.size f cd)
 N:=N
 s₀:=s
 H₀:=H
 env:=envOfC qual scope s.heap.objs.size f cd
 outer:=outer
 stack:=envOfC qual scope s.heap.objs.size f cd::outer
 ex:=[]
 calm:=true
 fn:=λ_=>true
 pn:=[]
 xe:=λe s'=>wpAny (model P w) (A.deeper (envOfC qual scope s.heap.objs.size f cd)) (leaving (envOfC qual scope s.heap.objs.size f cd) e) (λ_ s''=>CX outer H s E e s'') (λe' s''=>CX outer H s E e' s'') s'
theorem qm2{sc:Scope}{n:Nat}{x:Str}(h:sc.names.lookup x=some .cell):∃c,(cellsFrom n sc.names []).lookup x=some c:=by
 have q:=PySem.W.cellsFrom_some sc.names n [] (.inl h)
 exact Option.isSome_iff_exists.mp q
theorem qqo{CX:CXT}{P:Program}{w:World}{K:PySem.W.Frag}{mg:Str->Option Value}{base:Heap}{N ps:List Str}{qual:Str}{scope:Scope}{f:Addr}{cd:Value}{A:Around}{outer:List Env}{s s1:Shared}{H:Hp}{E:XK}{us:List Value}{vs:List V}
  (S:FnScope N ps scope) (hd:A.handled=none) (e0:Env0 P w K mg base A outer s H) (hl:vs.length=ps.length) (r:Vals vs us)
  (x:InCallC s s.heap.objs.size (bindL (envOfC qual scope s.heap.objs.size f cd).kindOf (ps.zip us) λ_=>none) (cellsFrom (s.heap.objs.size+1) scope.names []) (bindC (envOfC qual scope s.heap.objs.size f cd).kindOf (ps.zip us) λ_=>none) s1) :
  Inv (cxOf CX P w K mg base N qual scope f cd A outer s H E) [] (start N vs) H s1:=by
 have hpl:ps.length<=N.length:=by have:=congrArg List.length S.pre;rw[List.length_take] at this;lia
 obtain⟨h1,tk,rfl,hk⟩:=x.done
 have noA:∀b:Addr,b∉(cxOf CX P w K mg base N qual scope f cd A outer s H E).ex:=λb z=>absurd (show b∈([]:List Addr) from z) (by simp)
 refine⟨⟨e0.mod,S.kind,rfl,rfl,Nat.le_refl _,λy z c h1 h2=>?_,λy hy=>?_,λy c _ h=>?_,λ_=>hd,Around.frames_deeper e0.frames,.inr ⟨rfl,rfl⟩,λb z=>absurd z (noA b),e0.bs,e0.bsz,λb _ _=>noA b,λb z=>absurd z (noA b),e0.funs,e0.frf⟩,
  rfl,e0.bare,Un.kept hk,⟨_,x.toInCall.ns,λi y v h1 h2 h3=>?_⟩,λy c h=>⟨_,x.cell y c h⟩,e0.hok.fresh (Nat.le_refl _),λy c h=>?_,λp hp=>absurd (show p∈([]:List (Addr×Obj)) from hp) (by simp),e0.hok.kept hk,?_⟩
 ·exact name_of_addr x.apart (PySem.mem_of_lookup h1) (PySem.mem_of_lookup h2)
 ·have hy:scope.names.lookup y=some .cell\/scope.names.lookup y=some .free:=hy
  rcases hy with hy|hy
  ·exact qm2 hy
  ·exact absurd rfl (S.nofree _ (PySem.mem_of_lookup hy))
 ·exact Nat.le_of_lt (x.above y c (PySem.mem_of_lookup h))
 ·have hi:i<vs.length:=by
   unfold start at h2
   by_cases hi:i<vs.length
   ·exact hi
   ·rw[List.getElem?_append_right (by simpa using hi)] at h2
    rw[List.getElem?_replicate] at h2
    split at h2<;>cases h2
  have ha:vs[i]?=some v:=by
   unfold start at h2
   rw[List.getElem?_append_left (by simpa using hi),List.getElem?_map] at h2
   cases e:vs[i]? with
  |none=>rw[e] at h2;cases h2
  |some a=>rw[e] at h2;cases h2;rfl
  obtain⟨u,hu,rv⟩:=r.get ha
  have hp:ps[i]?=some y:=by
   rw[←S.pre,List.getElem?_take_of_lt (by lia)];exact h1
  have ndP:ps.Nodup:=by rw[←S.pre];exact S.nd.sublist (List.take_sublist _ _)
  refine⟨u,rv,?_⟩
  rcases S.par y (List.mem_of_getElem? hp) with k|k
  ·exact .inl ⟨k,qkb ndP hp hu k⟩
  ·obtain⟨c,e⟩:=qm2 (n:=s.heap.objs.size+1) k
   refine .inr ⟨.inl k,c,e,?_⟩
   have q:=x.cell y c e
   rw[qj9 ndP hp hu (by show scope.names.lookup y≠_;rw[k];decide)] at q
   exact q
 ·exact e0.hok.fresh (Nat.le_of_lt (x.above y c (PySem.mem_of_lookup h)))
 ·unfold start
  show _=N.length
  rw[List.length_append,List.length_map,List.length_replicate]
  lia
theorem qz2{CX:CXT}{P:Program}{w:World}{K:PySem.W.Frag}{mg:Str->Option Value}{base:Heap}{k:Nat}{f:Addr}{name qual:Str}{params:Arguments}{body:List Stmt}{scope:Scope}{dV kV doc pm cdv ct oc:Value}{an od:Option Addr}
  {osl:Array (Option Value)} {N ps:List Str} {sp:Sp} (lk:K.lookup f=some ⟨oc,od,.func (PySem.W.fnOf name qual params body scope dV kV doc pm an cdv ct),osl⟩) (hcd:PySem.W.codeIn K cdv qual=true) (S:FnScope N ps scope)
  (len:∀vs H Q E,sp vs H Q E->vs.length=ps.length)
  (hbody:∀(A:Around) (outer:List Env) (s:Shared) (H:Hp) (vs:List V) (Q:VK) (E:XK),Room k (A.deeper (envOfC qual scope s.heap.objs.size f cdv))->sp vs H Q E ->
   ∃t,PSs (cxOf CX P w K mg base N qual scope f cdv A outer s H E) body t/\t { nx:=λ_ H'=>Q .non H',rt:=Q } (start N vs) H) :
  FnOk P w K mg base CX (k+1) f (PySem.W.fnOf name qual params body scope dV kV doc pm an cdv ct) ps sp:=by
 refine⟨len,λA outer s H args us vs Q E hr e0 hb r hsp=>?_⟩
 have hl:=len _ _ _ _ hsp
 have KX:K.In s.heap:=e0.mod.kin.keeps λb o e=>(e0.bs b o e).1
 have lim:s.heap.NoLimit:=e0.mod.nolimit.keeps λb o e=>(e0.bs b o e).1
 have hkind:∀y∈ps.zip us,scope.names.lookup y.1=some .local\/(scope.names.lookup y.1=some .cell/\((cellsFrom (s.heap.objs.size+1) scope.names []).lookup y.1).isSome=true):=λ⟨n,v⟩ hy=>by
  rcases S.par n (List.of_mem_zip hy).1 with q|q
  ·exact .inl q
  ·exact .inr ⟨q,PySem.W.cellsFrom_some _ _ _ (.inl q)⟩
 refine codeAny_call_function hr.depth (KX _ _ lk) rfl S.co S.gen rfl (PySem.W.codeRec_of KX hcd) (hb _ _ _ _ ?_)
 refine wpAny_newFunctionEnv_cells S.kind hkind λenv he s1 x=>?_
 subst he
 refine⟨lim.keeps x.toInCall.keep,codeAny_func ?_⟩
 obtain⟨t,ht,hq⟩:=hbody A outer s H vs Q E (hr.deeper _) hsp
 have I:Inv (cxOf CX P w K mg base N qual scope f cdv A outer s H E) [] (start N vs) H s1:=qqo S hr.hd e0 hl r x
 refine wpAny_mono (ht [] s1 (start N vs) H _ I hq) (λfl s' hs=>?_) λe s' hs=>hs
 have fin:∀ {σ':St} {H':Hp} {v:V} {u:Value},Inv (cxOf CX P w K mg base N qual scope f cdv A outer s H E) [] σ' H' s'->RelV v u->Q v H'->CE outer P w H s Q u s' :=
  λ{σ' H' v u} J rv q=>⟨v,H',J.os,J.bare,J.base,J.hok,rv,q⟩
 cases fl with
|ret u =>
  obtain⟨v,σ',H',J,rv,q⟩:=hs
  exact fin J rv q
|next =>
  obtain⟨σ',H',J,q⟩:=hs
  exact fin (v:=V.non) (u:=Value.none) J rfl q
|brk =>
  obtain⟨_,_,_,q⟩:=hs
  exact False.elim q
|cont =>
  obtain⟨_,_,_,q⟩:=hs
  exact False.elim q
end L2
namespace L2
open PySem PySem.Spec PyProof.Rows
section
variable {X:Cx} {x:Str} {p pos:Pos} {e:Expr} {es:List Expr} {t:TA} {id T:String} {r:List V->Hp->VK->Prop}
def tCB(r:List V->Hp->VK->Prop)(t:TA):TE:=λσ H Q=>t σ H λvs H1=>r vs H1 Q
theorem qto(hc:CallR X (.builtin id) r)(hg:Gl X x)(hm:X.mg x=none)(hv:bootBuiltins x=some (.builtin id))(ha:PA X (e::es) t)(hn:x≠"__name__" := by decide)(hdb:(x==("__debug__" : Str))=false:=by decide)
  (he:starEach (e::es) X.env=(false,eval e X.env)::starEach es X.env:=by rfl) (hpl:(backTo pos (starEach es X.env)).any (·.1)=false:=by rfl):PE X (.Call (.Name x p) (e::es) [] pos) (tCB r t):=by
 intro pins s σ H Q I h
 refine wpAny_Call_Name_kw (qno I hg hm hv ?_ hn hdb)
 exact PyProof.Rows.callWith_builtin1 (thn (ha pos pins s σ H _ I h) λus s1 ⟨vs,H1,I1,r1,q1⟩=>hc pins s1 σ H1 vs us Q I1 r1 q1) he hpl
theorem qrl(hc:CallR X (.type T) r)(hg:Gl X x)(hm:X.mg x=none)(hv:bootBuiltins x=some (.type T))(ha:PA X (e::es) t)(hn:x≠"__name__" := by decide)(hdb:(x==("__debug__" : Str))=false:=by decide)
  (he:starEach (e::es) X.env=(false,eval e X.env)::starEach es X.env:=by rfl) (hpl:(backTo pos (starEach es X.env)).any (·.1)=false:=by rfl):PE X (.Call (.Name x p) (e::es) [] pos) (tCB r t):=by
 intro pins s σ H Q I h
 refine wpAny_Call_Name_kw (qno I hg hm hv ?_ hn hdb)
 exact PyProof.Rows.callWith_type1 (thn (ha pos pins s σ H _ I h) λus s1 ⟨vs,H1,I1,r1,q1⟩=>hc pins s1 σ H1 vs us Q I1 r1 q1) he hpl
end
end L2
namespace HT
open PySem PyProof.Rows
section
open PySem.SeqAt
open PySem.AutoSeq1 (wpAny_loadPart')
open PySem.MeetsSeq PySem.MeetsSeq2 PySem.MeetsSeq3
end
section
variable {prog:Program} {w:World} {A:Around} {E:Value->Shared->Prop} {s:Shared}
theorem cat_tup{t b:Addr}{vs ws:List Value}{Q:Value->Shared->Prop}(ht:IsTup s.heap t vs.toArray)(hb:IsTup s.heap b ws.toArray)(hv:vs≠[])
  (h1:ws=[]->Q (.ref t) s) (h2:ws≠[]->Q (.ref s.heap.objs.size) { s with heap:=s.heap.push { cls:=.type "tuple",data:=.seq (vs++ws).toArray } })
  (hsz:vs.length+ws.length<=sizeLine):wpAny (model prog w) A (binaryOp .Add (.ref t) (.ref b)) Q E s:=by
 obtain⟨⟨cls,dd,data,sl⟩,ho,hc,n,hd⟩:=id ht
 obtain⟨⟨cls2,dd2,data2,sl2⟩,ho2,hc2,n2,hd2⟩:=id hb
 simp only at hc hd hc2 hd2
 subst hc hd hc2 hd2
 have e:vs.toArray++ws.toArray=(vs++ws).toArray:=by simp
 by_cases hw:ws=[]
 ·exact concat_meets ⟨_,ho,rfl⟩ ⟨_,ho2,rfl⟩ noFill_tuple_add seq_tuple_add PySem.F.slot_tuple_add PySem.F.entry_tuple_add (PySem.F.args_tuple_add_2 _ _)
   (tuple_addW1 t b vs.toArray ws.toArray n n2 dd dd2 sl sl2 (by simpa using hv) (by simp[hw])) ⟨ho,ho2,h1 hw⟩
 ·refine concat_meets ⟨_,ho,rfl⟩ ⟨_,ho2,rfl⟩ noFill_tuple_add seq_tuple_add PySem.F.slot_tuple_add PySem.F.entry_tuple_add (PySem.F.args_tuple_add_2 _ _)
   (tuple_addW2 t b vs.toArray ws.toArray n n2 dd dd2 sl sl2 (by simpa using hv) (by simpa using hw) (by rw[List.size_toArray,List.size_toArray];exact hsz)) ⟨ho,ho2,?_⟩
  rw[e]
  exact h2 hw
def sIx(n d:Nat):Option Int->Nat
|none=>d
|some v=>if v<0 then (v+(n:Int)).toNat else min v.toNat n
theorem sIx_none(n d:Nat):sIx n d none=d:=rfl
theorem sIx_nat(n d k:Nat):sIx n d (some (k:Int))=min k n:=by
 show (if (k:Int)<0 then ((k:Int)+(n:Int)).toNat else min (k:Int).toNat n)=min k n
 rw[if_neg (by lia),Int.toNat_natCast]
theorem sIx_le(n d:Nat)(hd:d<=n)(o:Option Int):sIx n d o<=n:=by
 cases o with
|none=>exact hd
|some v =>
  show (if v<0 then (v+(n:Int)).toNat else min v.toNat n)<=n
  by_cases hv:v<0
  ·rw[if_pos hv];lia
  ·rw[if_neg hv];exact Nat.min_le_right _ _
theorem qpt(v:Int)(n d:Nat):(if v<0 then max (v+(n:Int)) 0 else min v (n:Int))=((sIx n d (some v):Nat):Int):=by
 show (if v<0 then max (v+(n:Int)) 0 else min v (n:Int))=(((if v<0 then (v+(n:Int)).toNat else min v.toNat n):Nat):Int)
 by_cases hv:v<0
 ·simp only[if_pos hv];lia
 ·simp only[if_neg hv];lia
theorem qoe(lo hi:Option Int)(n:Nat):Builtin.Slice.sliceAdjust lo hi 1 (n:Int)=(((sIx n 0 lo:Nat):Int),((sIx n n hi:Nat):Int)):=by
 have h1:¬ ((1:Int)<0):=by lia
 unfold Builtin.Slice.sliceAdjust
 simp only[h1,if_false]
 refine Prod.ext ?_ ?_
 ·cases lo with
 |none=>rfl
 |some v=>exact qpt v n 0
 ·cases hi with
 |none=>rfl
 |some v=>exact qpt v n n
theorem qo4(i j:Nat):Builtin.Slice.slicePlaces (i:Int) (j:Int) 1=j-i:=by
 unfold Builtin.Slice.slicePlaces
 have h1:(1:Int)>0:=by lia
 simp only[h1,if_true,Int.ediv_one]
 split<;>lia
theorem qh9{v:Value}{o:Option Int}{Q:Option Int->Shared->Prop}(p:IsPart v o)(h:Q o s):wpAny (model prog w) A (Builtin.Slice.slicePartIndex v) Q E s:=by
 cases p with
|none=>exact slicePart_none h
|int i t=>exact slicePart_int h
theorem qdn{sl:Addr}{vl vu:Value}{lo hi:Option Int}{n:Nat}{Q:Int×Int×Nat->Shared->Prop}(hs:s.heap.IsSliceOf sl vl vu .none)(pl:IsPart vl lo)(pu:IsPart vu hi)
  (h:Q (((sIx n 0 lo:Nat):Int),1,sIx n n hi-sIx n 0 lo) s):wpAny (model prog w) A (Builtin.Slice.sliceApplied (.ref sl) (pure (n:Int))) Q E s:=by
 obtain⟨os,hos,hcs,hds⟩:=id hs
 unfold Builtin.Slice.sliceApplied Builtin.Slice.sliceFields
 refine wpAny_bind (wpAny_bind (wpAny_field hos hds (x:=vl) rfl (wpAny_bind (wpAny_field hos hds (x:=vu) rfl (wpAny_bind (wpAny_field hos hds (x:=.none) rfl (wpAny_pure ?_)))))))
 refine wpAny_bind (slicePart_none ?_)
 show wpAny _ _ (if ((1:Int)==0)=true then _ else _) _ _ s
 rw[if_neg (by decide)]
 refine wpAny_bind (qh9 pl (wpAny_bind (qh9 pu (wpAny_bind (wpAny_pure ?_)))))
 show wpAny _ _ (match Builtin.Slice.sliceAdjust lo hi 1 (n:Int) with|(lo,hi)=>pure (lo,(1:Int),Builtin.Slice.slicePlaces lo hi 1)) _ _ s
 rw[qoe lo hi n]
 show wpAny _ _ (pure (((sIx n 0 lo:Nat):Int),(1:Int),Builtin.Slice.slicePlaces ((sIx n 0 lo:Nat):Int) ((sIx n n hi:Nat):Int) 1)) _ _ s
 rw[qo4]
 exact wpAny_pure h
theorem qtw(xs:Array Value)(i k:Nat):((List.range k).filterMap λ(m:Nat)=>xs[((i:Int)+(m:Int)*1).toNat]?).toArray=((xs.toList.drop i).take k).toArray:=by
 have e:(λ(m:Nat)=>xs[((i:Int)+(m:Int)*1).toNat]?)=λm=>xs[i+m]?:=by
  funext m
  have:((i:Int)+(m:Int)*1).toNat=i+m:=by lia
  rw[this]
 rw[e]
 have:=pick_run xs i k
 rw[List.filterMap_map] at this
 have e2:((λx=>xs[x]?) ∘ λx=>i+x)=λm=>xs[i+m]?:=rfl
 rw[e2] at this
 rw[this]
theorem getItem_tuple_cut{t sl:Addr}{items:Array Value}{vl vu:Value}{lo hi:Option Int}{Q:Value->Shared->Prop}(ht:IsTup s.heap t items)(hs:s.heap.IsSliceOf sl vl vu .none)(pl:IsPart vl lo)(pu:IsPart vu hi)
  (hw:¬ (sIx items.size 0 lo=0/\sIx items.size items.size hi=items.size))
  (h:Q (.ref s.heap.objs.size) { s with heap:=s.heap.push { cls:=.type "tuple",data:=.seq ((items.toList.drop (sIx items.size 0 lo)).take (sIx items.size items.size hi-sIx items.size 0 lo)).toArray } })
  (hsz:items.size<=sizeLine):wpAny (model prog w) A (getItem (.ref t) (.ref sl)) Q E s:=by
 have htake:sizeOk (.seq ((items.toList.drop (sIx items.size 0 lo)).take (sIx items.size items.size hi-sIx items.size 0 lo)).toArray):=by
  show ((items.toList.drop (sIx items.size 0 lo)).take (sIx items.size items.size hi-sIx items.size 0 lo)).toArray.size<=sizeLine
  rw[List.size_toArray,List.length_take,List.length_drop,Array.length_toList]
  lia
 have hj:sIx items.size items.size hi<=items.size:=sIx_le _ _ (Nat.le_refl _) hi
 obtain⟨os,hos,hcs,hds⟩:=id hs
 have hTs:s.TypeIs (.ref sl) "slice" := ⟨os,hos,hcs⟩
 unfold getItem
 try with_reducible refine wpAny_holding ?_
 first|refine wpAny_bind (wpAny_pure ?_)|skip
 refine wpAny_bind (wpAny_sequenceKey ht.typeIs (by decide) ?_)
 refine wpAny_bind (wpAny_callSpecial?_slot (name:=Str.ofString "__getitem__") ht.typeIs PyProof.Rows.slot_tuple_getitem
  (wpAny_call_entry PyProof.Rows.slot_tuple_getitem ht.typeIs entry_tuple_getitem ?_ (args_tuple_getitem _ _)))
 show wpAny _ _ (Builtin.Tuple.tupleItemsOf (.ref t) >>= _) _ _ s
 refine wpAny_bind (tupleItemsOf_ ht ?_)
 refine wpAny_bind (wpAny_typeOf hTs ?_)
 rw[if_pos (by decide)]
 refine wpAny_bind (qdn hs pl pu ?_)
 have hno:¬ ((((sIx items.size 0 lo:Nat):Int)==0&&(1:Int)==1&&(sIx items.size items.size hi-sIx items.size 0 lo)==items.size)=true):=by
  intro q
  rw[Bool.and_eq_true,Bool.and_eq_true] at q
  have q1:((sIx items.size 0 lo:Nat):Int)=0:=eq_of_beq q.1.1
  have q2:sIx items.size items.size hi-sIx items.size 0 lo=items.size:=eq_of_beq q.2
  exact hw ⟨by lia,by lia⟩
 show wpAny _ _ (if (((sIx items.size 0 lo:Nat):Int)==0&&(1:Int)==1&&(sIx items.size items.size hi-sIx items.size 0 lo)==items.size)=true then _ else _) _ _ s
 rw[if_neg hno,qtw]
 first
 |exact wpAny_bind (m:=Builtin.Tuple.tupleExact _) (wpAny_newObj_type (wpAny_pure ⟨_,rfl,wpAny_pure h⟩) htake)
 |exact wpAny_bind (m:=Builtin.Tuple.tupleExact _) (wpAny_newObj_type (wpAny_bind (wpAny_pure (wpAny_pure ⟨_,rfl,wpAny_pure h⟩))) htake)
 |exact wpAny_bind (wpAny_bind (m:=Builtin.Tuple.tupleExact _) (wpAny_newObj_type (wpAny_pure (wpAny_pure ⟨_,rfl,wpAny_pure h⟩)) htake))
 |exact wpAny_bind (wpAny_bind (m:=Builtin.Tuple.tupleExact _) (wpAny_newObj_type (wpAny_pure ⟨_,rfl,wpAny_pure h⟩) htake))
end
end HT
namespace L2
open PySem PySem.Spec PyProof.Rows
abbrev TO:=St->Hp->(Option Int->Hp->Prop)->Prop
def PO(X:Cx)(e:Option Expr)(t:TO):Prop :=
 ∀(pins:List (Addr×Obj)) (s:Shared) (σ:St) (H:Hp) (Q:Option Int->Hp->Prop),Inv X pins σ H s->t σ H Q ->
  wpAny (model X.prog X.w) X.A (evalPart e X.env) (λu s'=>∃o H',Inv X pins σ H' s'/\IsPart u o/\Q o H') X.xe s
def qjr:TO:=λ_ H Q=>Q none H
def qup(t:TE):TO:=λσ H Q=>t σ H λx H1=>∃i,x=.int i/\Q (some i) H1
section
variable {X:Cx} {e:Expr} {te:TE} {lo hi:Option Expr} {tl th:TO} {pos p2:Pos}
theorem qx8:PO X none qjr:=by
 intro pins s σ H Q I h
 rw[evalPart_none]
 exact wpAny_pure ⟨none,H,I,.none,h⟩
theorem qx9(h:PE X e te):PO X (some e) (qup te):=by
 intro pins s σ H Q I hw
 rw[evalPart_some]
 refine thn (h pins s σ H _ I hw) λu s1 ⟨x,H1,I1,r1,q1⟩=>?_
 obtain⟨i,rfl,q⟩:=q1
 obtain⟨t,rfl⟩:=r1
 exact⟨some i,H1,I1,.int i t,q⟩
def SlR(X:Cx)(r:V->Option Int->Option Int->Hp->VK->Prop):Prop :=
 ∀(pins:List (Addr×Obj)) (s:Shared) (σ:St) (H:Hp) (x:V) (v vl vu:Value) (lo hi:Option Int) (sl:Addr) (Q:VK),Inv X pins σ H s->RelV x v->s.heap.IsSliceOf sl vl vu .none->IsPart vl lo->IsPart vu hi->r x lo hi H Q ->
  ∃T id,typeLookup (.type T) "__getitem__" = pure (some (.builtin id))/\s.TypeIs v T/\wpAny (model X.prog X.w) X.A (getItem v (.ref sl)) (EP X pins σ Q) X.xe s
theorem SlR.or{r r':V->Option Int->Option Int->Hp->VK->Prop}(h:SlR X r)(h':SlR X r'):SlR X (λx lo hi H Q=>r x lo hi H Q\/r' x lo hi H Q):=by
 intro pins s σ H x v vl vu lo hi sl Q I rx hs pl pu q
 rcases q with q|q
 ·exact h pins s σ H x v vl vu lo hi sl Q I rx hs pl pu q
 ·exact h' pins s σ H x v vl vu lo hi sl Q I rx hs pl pu q
def tSl(r:V->Option Int->Option Int->Hp->VK->Prop)(te:TE)(tl th:TO):TE:=λσ H Q=>te σ H λx H1=>tl σ H1 λl H2=>th σ H2 λu H3=>r x l u H3 Q
theorem qtu{r:V->Option Int->Option Int->Hp->VK->Prop}(hr:SlR X r)(he:PE X e te)(hl:PO X lo tl)(hu:PO X hi th):PE X (.Subscript e (.Slice lo hi none p2) pos) (tSl r te tl th):=by
 intro pins s σ H Q I h
 refine Subscript_ (thn (he pins s σ H _ I h) λv s1 ⟨x,H1,I1,r1,q1⟩=>?_)
 refine wpAny_Slice (thn (hl pins s1 σ H1 _ I1 q1) λvl s2 ⟨l,H2,I2,pl,q2⟩=>thn (hu pins s2 σ H2 _ I2 q2) λvu s3 ⟨u,H3,I3,pu,q3⟩=>?_)
 rw[evalPart_none]
 refine wpAny_pure ?_
 have I4:Inv X pins σ H3 { s3 with heap:=s3.heap.push { cls:=.type "slice",data:=.fields #[vl,vu,.none] } }:=I3.kept (t':=s3.toks) λb ob q=>Heap.get?_push_of_some _ q
 obtain⟨T,id,hT,ht,hg⟩:=hr pins { s3 with heap:=s3.heap.push { cls:=.type "slice",data:=.fields #[vl,vu,.none] } } σ H3 x v vl vu l u s3.heap.objs.size Q I4 r1 (Heap.IsSliceOf.new ..) pl pu q3
 show wpAny (model X.prog X.w) X.A (subscriptTail e (.Slice lo hi none p2) v (.ref s3.heap.objs.size)) (EP X pins σ Q) X.xe { s3 with heap:=s3.heap.push { cls:=.type "slice",data:=.fields #[vl,vu,.none] } }
 exact tail_any (ops:=[.ref s3.heap.objs.size,v]) ht hT hg (by with_unfolding_all rfl)
def cutV(xs:List V)(lo hi:Option Int):List V:=(xs.drop (HT.sIx xs.length 0 lo)).take (HT.sIx xs.length xs.length hi-HT.sIx xs.length 0 lo)
theorem qgl(xs:List V)(lo hi:Option Int):(cutV xs lo hi).length<=xs.length:=by
 unfold cutV
 rw[List.length_take,List.length_drop]
 lia
def rSlT(K:PySem.W.Frag):V->Option Int->Option Int->Hp->VK->Prop:=λx lo hi H Q=>∃a xs,x=.ref a/\SqT K H a xs /\
 ¬ (HT.sIx xs.length 0 lo=0/\HT.sIx xs.length xs.length hi=xs.length)/\∀p,H p=none->Q (.ref p) (upd H p (.tup (cutV xs lo hi)))
theorem q2a:SlR X (rSlT X.K):=by
 intro pins s σ H x v vl vu lo hi sl Q I rx hs pl pu h
 obtain⟨a,xs,rfl,hx,hw,q⟩:=h
 cases rx
 obtain⟨its,r,ht,hz⟩:=I.tuple hx
 have hlen:its.toArray.size=xs.length:=by rw[List.size_toArray];exact r.length.symm
 refine⟨"tuple",_,PyProof.Rows.slot_tuple_getitem.lookup,ht.typeIs,?_⟩
 refine HT.getItem_tuple_cut ht hs pl pu (by rw[hlen];exact hw) ?_ (by rw[hlen];exact hz)
 rw[hlen]
 refine⟨.ref s.heap.objs.size,_,I.laid (t':=s.toks) (o:=.tup (cutV xs lo hi)) (λb ob q=>Heap.get?_push_of_some _ q) (Nat.le_refl _) ?_,rfl,q _ (I.hok.fresh (Nat.le_refl _))⟩
 exact⟨Nat.le_trans (qgl xs lo hi) hz,_,(r.drop (HT.sIx xs.length 0 lo)).take (HT.sIx xs.length xs.length hi-HT.sIx xs.length 0 lo),IsTup.new _ _⟩
def q3r(K:PySem.W.Frag):R2:=λx y H Q=>∃a b xs ys,x=.ref a/\y=.ref b/\SqT K H a xs/\SqT K H b ys/\xs≠[]/\xs.length+ys.length<=sizeLine /\
 (ys=[]->Q (.ref a) H)/\(ys≠[]->∀p,H p=none->Q (.ref p) (upd H p (.tup (xs++ys))))
theorem Vals.nil_iff{xs:List V}{us:List Value}(r:Vals xs us):us=[]↔xs=[]:=by
 cases r with
|nil=>simp
|cons _ _=>simp
theorem qxp:OpR X (binaryOp .Add) (q3r X.K):=by
 intro pins s σ H x y v u Q I rx ry h
 obtain⟨a,b,xs,ys,rfl,rfl,ha,hb,hx,hz,q1,q2⟩:=h
 cases rx
 cases ry
 obtain⟨its,r1,p1,_⟩:=I.tuple ha
 obtain⟨its2,r2,p2,_⟩:=I.tuple hb
 refine HT.cat_tup p1 p2 (λz=>hx (r1.nil_iff.mp z)) (λz=>⟨.ref a,H,I,rfl,q1 (r2.nil_iff.mp z)⟩) (λz=>?_) (by rw[←r1.length,←r2.length];exact hz)
 refine⟨.ref s.heap.objs.size,_,I.laid (t':=s.toks) (o:=.tup (xs++ys)) (λb ob q=>Heap.get?_push_of_some _ q) (Nat.le_refl _) ?_,rfl,q2 (λw=>z (r2.nil_iff.mpr w)) _ (I.hok.fresh (Nat.le_refl _))⟩
 exact⟨by rw[List.length_append];exact hz,_,r1.append r2,IsTup.new _ _⟩
end
end L2
namespace L2
open PySem PySem.Spec PyProof.Rows
def ixN(n:Nat)(i:Int):Option Nat:=if 0<=i then (if i<n then some i.toNat else none) else if -(n:Int)<=i then some (i+n).toNat else none
def atI{α:Type}(xs:List α)(i:Int):Option α:=(ixN xs.length i).bind λj=>xs[j]?
theorem qxa{n:Nat}{i:Int}{j:Nat}(h:ixN n i=some j):seqIndex? i n=some j/\j<n/\-(n:Int)<=i/\i<n:=by
 unfold ixN at h
 by_cases h0:0<=i
 ·rw[if_pos h0] at h
  by_cases h1:i<n
  ·rw[if_pos h1] at h
   have e:i.toNat=j:=Option.some.inj h
   exact⟨by rw[seqIndex_of h0 h1,e],by lia,by lia,h1⟩
  ·rw[if_neg h1] at h;cases h
 ·rw[if_neg h0] at h
  by_cases h1:-(n:Int)<=i
  ·rw[if_pos h1] at h
   have e:(i+n).toNat=j:=Option.some.inj h
   exact⟨by rw[seqIndex_neg (by lia) h1,e],by lia,h1,by lia⟩
  ·rw[if_neg h1] at h;cases h
theorem qlj{α:Type}{xs:List α}{i:Int}{v:α}(h:atI xs i=some v):∃j,seqIndex? i xs.length=some j/\xs[j]?=some v/\j<xs.length/\-(xs.length:Int)<=i/\i<xs.length:=by
 unfold atI at h
 cases e:ixN xs.length i with
|none=>rw[e] at h;cases h
|some j =>
  rw[e] at h
  obtain⟨h1,h2,h3,h4⟩:=qxa e
  exact⟨j,h1,h,h2,h3,h4⟩
theorem qwr{α:Type}{xs:List α}{j:Nat}{v:α}(h:xs[j]?=some v):atI xs (j:Int)=some v:=by
 have hj:j<xs.length:=(List.getElem?_eq_some_iff.mp h).1
 have e:ixN xs.length (j:Int)=some j:=by
  unfold ixN
  rw[if_pos (by lia),if_pos (by lia)];simp
 unfold atI;rw[e];exact h
def qlg(b:Expr):Prop:=∀o i,subscripted b false o i=operate [o,i] (getItem o i)
def IxR(X:Cx)(r:R2):Prop :=
 ∀(value slice:Expr) (pins:List (Addr×Obj)) (s:Shared) (σ:St) (H:Hp) (x y:V) (v u:Value) (Q:VK),Inv X pins σ H s->RelV x v->RelV y u->r x y H Q ->
  subscripted slice false v u=operate [v,u] (getItem v u)->wpAny (model X.prog X.w) X.A (subscriptTail value slice v u) (EP X pins σ Q) X.xe s
def MtR(X:Cx)(id:String)(r:V->List V->Hp->VK->Prop):Prop :=
 ∀(pins:List (Addr×Obj)) (s:Shared) (σ:St) (H:Hp) (x:V) (xs:List V) (v:Value) (us:List Value) (Q:VK),Inv X pins σ H s->RelV x v->Vals xs us->r x xs H Q ->
  wpAny (model X.prog X.w) X.A (call (.builtin id) (v::us)) (EP X pins σ Q) X.xe s
section
variable {X:Cx} {a b:Expr} {ta tb:TE} {pos:Pos}
theorem IxR.or{r r':R2}(h:IxR X r)(h':IxR X r'):IxR X (λx y H Q=>r x y H Q\/r' x y H Q):=by
 intro value slice pins s σ H x y v u Q I rx ry q hs
 rcases q with q|q
 ·exact h value slice pins s σ H x y v u Q I rx ry q hs
 ·exact h' value slice pins s σ H x y v u Q I rx ry q hs
theorem q3f{r:R2}(hr:IxR X r)(ha:PE X a ta)(hb:PE X b tb)(hs:qlg b):PE X (.Subscript a b pos) (tOp r ta tb):=by
 intro pins s σ H Q I h
 exact Subscript_ (binT ha hb I h λv u s2 x y H2 I2 rx ry q=>hr a b pins s2 σ H2 x y v u Q I2 rx ry q (hs _ _))
def rIxL(K:PySem.W.Frag):R2:=λx y H Q=>∃p xs i v,x=.ref p/\y=.int i/\SqL K H p xs/\atI xs i=some v/\Q v H
def rIxT(K:PySem.W.Frag):R2:=λx y H Q=>∃p xs i v,x=.ref p/\y=.int i/\SqT K H p xs/\atI xs i=some v/\Q v H
def rIxS:R2:=λx y H Q=>∃z i c,x=.str z/\y=.int i/\z.length<=sizeLine/\atI z.cps.toList i=some c/\Q (.str ⟨#[c]⟩) H
theorem qqq:IxR X (rIxL X.K):=by
 intro value slice pins s σ H x y v u Q I rx ry h hs
 obtain⟨p,xs,i,z,rfl,rfl,hq,he,q⟩:=h
 cases rx
 obtain⟨t,rfl⟩:=ry
 obtain⟨its,r,pl,hz⟩:=I.list hq
 obtain⟨j,h1,h2,h3,h4,h5⟩:=qlj he
 obtain⟨w,ew,rw'⟩:=r.get h2
 have hl:=r.length
 have hn:=qgz
 have fin:EP X pins σ Q w s:=⟨z,H,I,rw',q⟩
 by_cases h0:0<=i
 ·have hj:i.toNat=j:=by
   rw[seqIndex_of h0 h5] at h1
   exact Option.some.inj h1
  exact item_listR pl.isList h0 (by lia) (by rw[hj];simpa using ew) fin hs
 ·have hj:(i+(its.toArray.size:Int)).toNat=j:=by
   rw[seqIndex_neg (by lia) h4] at h1
   rw[List.size_toArray,←hl]
   exact Option.some.inj h1
  exact subscriptTail_builtinR (x:=w) pl.isList.typeIs slot_list_getitem.lookup
   (wpAny_getItem_list_neg (Q:=λr s'=>r=w/\EP X pins σ Q r s') pl.isList (by lia) (by rw[List.size_toArray]<;>lia) (by lia) (by rw[hj];simpa using ew) ⟨rfl,fin⟩) hs
theorem ix_tup:IxR X (rIxT X.K):=by
 intro value slice pins s σ H x y v u Q I rx ry h hs
 obtain⟨p,xs,i,z,rfl,rfl,hq,he,q⟩:=h
 cases rx
 obtain⟨t,rfl⟩:=ry
 obtain⟨its,r,pl,hz⟩:=I.tuple hq
 obtain⟨j,h1,h2,h3,h4,h5⟩:=qlj he
 obtain⟨w,ew,rw'⟩:=r.get h2
 have hl:=r.length
 have hn:=qgz
 have fin:EP X pins σ Q w s:=⟨z,H,I,rw',q⟩
 exact subscriptTail_builtinR (x:=w) pl.typeIs slot_tuple_getitem.lookup
  (getItem_tuple (j:=j) (Q:=λr s'=>r=w/\EP X pins σ Q r s') pl (by lia) (by lia) (by rw[List.size_toArray,←hl];exact h1) (by simpa using ew) ⟨rfl,fin⟩) hs
theorem ix_str:IxR X rIxS:=by
 intro value slice pins s σ H x y v u Q I rx ry h hs
 obtain⟨z,i,c,rfl,rfl,hz,he,q⟩:=h
 obtain⟨t,rfl⟩:=rx
 obtain⟨t',rfl⟩:=ry
 obtain⟨j,h1,h2,h3,h4,h5⟩:=qlj he
 have hl:z.cps.toList.length=z.length:=by simp[Str.length]
 rw[hl] at h1 h4 h5
 have hn:=qgz
 exact tail_any (typeIs_str s z t) slot_str_getitem.lookup (getItem_str (c:=c) (by
  have e1:decide (i < -(2 ^ 63:Int))=false:=decide_eq_false (by lia)
  have e2:decide (i≥2 ^ 63)=false:=decide_eq_false (by lia)
  rw[e1,e2,Bool.or_false]) (by rw[h1];simpa using h2) ⟨.str ⟨#[c]⟩,H,I.tok _,⟨_,rfl⟩,q⟩) hs
theorem qk0(lo hi:Option Int)(n:Nat):(sliceBounds lo hi none n).1=((HT.sIx n 0 lo:Nat):Int)/\(sliceBounds lo hi none n).2.1=((HT.sIx n n hi:Nat):Int)/\(sliceBounds lo hi none n).2.2=1:=by
 refine⟨?_,?_,rfl⟩
 ·cases lo with
 |none=>simp[sliceBounds,HT.sIx]
 |some i =>
   simp only[sliceBounds,HT.sIx,Option.getD_none,show (1:Int)>0 by decide,if_true]
   by_cases h:i<0
   ·simp only[h,if_true]<;>lia
   ·simp only[h,if_false]<;>lia
 ·cases hi with
 |none=>simp[sliceBounds,HT.sIx]
 |some i =>
   simp only[sliceBounds,HT.sIx,Option.getD_none,show (1:Int)>0 by decide,if_true]
   by_cases h:i<0
   ·simp only[h,if_true]<;>lia
   ·simp only[h,if_false]<;>lia
theorem qjk(its:List Value)(lo hi:Option Int):slicePick its.toArray lo hi none=((its.drop (HT.sIx its.length 0 lo)).take (HT.sIx its.length its.length hi-HT.sIx its.length 0 lo)).toArray:=by
 obtain⟨h1,h2,h3⟩:=qk0 lo hi its.toArray.size
 unfold slicePick
 rw[h1,h2,h3]
 simp only[sliceRange_one,pick_run,List.size_toArray]<;>rfl
def rSlL(K:PySem.W.Frag):V->Option Int->Option Int->Hp->VK->Prop:=λx lo hi H Q=>∃a xs,x=.ref a/\SqL K H a xs/\∀p,H p=none->Q (.ref p) (upd H p (.lst (cutV xs lo hi)))
theorem qjj:SlR X (rSlL X.K):=by
 intro pins s σ H x v vl vu lo hi sl Q I rx hs pl pu h
 obtain⟨a,xs,rfl,hx,q⟩:=h
 cases rx
 obtain⟨its,r,ht,hz⟩:=I.list hx
 have hlen:=r.length
 refine⟨"list",_,slot_list_getitem.lookup,ht.isList.typeIs,?_⟩
 refine wpAny_getItem_list_slice ht.isList hs pl pu .none (by simp) ?_ (by rw[List.size_toArray]<;>lia)
 rw[qjk,←hlen]
 refine⟨.ref s.heap.objs.size,_,I.laid (t':=s.toks) (o:=.lst (cutV xs lo hi)) (λb ob q=>Heap.get?_push_of_some _ q) (Nat.le_refl _) ?_,rfl,q _ (I.hok.fresh (Nat.le_refl _))⟩
 exact⟨Nat.le_trans (qgl xs lo hi) hz,_,0,(r.drop (HT.sIx xs.length 0 lo)).take (HT.sIx xs.length xs.length hi-HT.sIx xs.length 0 lo),Heap.get?_push_size _ rfl⟩
def qf4:V->Bool
|.non=>true
|.bl _=>true
|.int _=>true
|.str _=>true
|_=>false
def eqV:V->V->Bool
|.non,.non=>true
|.bl a,.bl b=>a==b
|.bl a,.int b=>(if a then 1 else 0)==b
|.int a,.bl b=>a==(if b then 1 else 0)
|.int a,.int b=>a==b
|.str a,.str b=>a==b
|_,_=>false
theorem qu9{A:Around}{s:Shared}{y x:V}{u v:Value}(ry:RelV y u)(rx:RelV x v)(fy:qf4 y=true)(fx:qf4 x=true):SeqAt.EqAt A s u v (eqV y x):=by
 cases y with
|non =>
  cases ry
  cases x with
 |non=>cases rx;exact SeqAt.EqAt.same _
 |bl b=>cases rx;exact SeqAt.EqAt.none_bool b
 |int b=>obtain⟨t,rfl⟩:=rx;exact SeqAt.EqAt.none_int b t
 |str b=>obtain⟨t,rfl⟩:=rx;exact SeqAt.EqAt.none_str b t
 |_=>exact absurd (show false=true from fx) Bool.false_ne_true
|bl a =>
  cases ry
  cases x with
 |non=>cases rx;exact SeqAt.EqAt.bool_none a
 |bl b=>cases rx;exact SeqAt.EqAt.bool_bool a b
 |int b=>obtain⟨t,rfl⟩:=rx;exact SeqAt.EqAt.bool_int a b t
 |str b=>obtain⟨t,rfl⟩:=rx;exact SeqAt.EqAt.bool_str a b t
 |_=>exact absurd (show false=true from fx) Bool.false_ne_true
|int a =>
  obtain⟨t',rfl⟩:=ry
  cases x with
 |non=>cases rx;exact SeqAt.EqAt.int_none a t'
 |bl b=>cases rx;exact SeqAt.EqAt.int_bool a t' b
 |int b=>obtain⟨t,rfl⟩:=rx;exact SeqAt.EqAt.int_int a t' b t
 |str b=>obtain⟨t,rfl⟩:=rx;exact SeqAt.EqAt.int_str a t' b t
 |_=>exact absurd (show false=true from fx) Bool.false_ne_true
|str a =>
  obtain⟨t',rfl⟩:=ry
  cases x with
 |non=>cases rx;exact SeqAt.EqAt.str_none a t'
 |bl b=>cases rx;exact SeqAt.EqAt.str_bool a t' b
 |int b=>obtain⟨t,rfl⟩:=rx;exact SeqAt.EqAt.str_int a t' b t
 |str b=>obtain⟨t,rfl⟩:=rx;exact SeqAt.EqAt.str_str a t' b t
 |_=>exact absurd (show false=true from fx) Bool.false_ne_true
|_=>exact absurd (show false=true from fy) Bool.false_ne_true
def eqU(x:V)(u:Value):Bool:=match u with
|.none=>eqV .non x
|.bool b=>eqV (.bl b) x
|.int i _=>eqV (.int i) x
|.str z _=>eqV (.str z) x
|_=>false
theorem qva{x y:V}{u:Value}(r:RelV y u)(f:qf4 y=true):eqU x u=eqV y x:=by
 cases y with
|non=>cases r;rfl
|bl b=>cases r;rfl
|int i=>obtain⟨t,rfl⟩:=r;rfl
|str z=>obtain⟨t,rfl⟩:=r;rfl
|_=>exact absurd (show false=true from f) Bool.false_ne_true
theorem qli{x:V}:∀ {xs:List V} {us:List Value},Vals xs us->xs.all qf4=true->us.any (eqU x)=xs.any λy=>eqV y x
|_,_,.nil,_=>rfl
|y::xs,u::us,.cons r t,f=>by
  rw[List.all_cons,Bool.and_eq_true] at f
  rw[List.any_cons,List.any_cons,qva r f.1,qli t f.2]
theorem qiv{A:Around}{s:Shared}{x:V}{v:Value}(rx:RelV x v)(fx:qf4 x=true):∀ {xs:List V} {us:List Value},Vals xs us->xs.all qf4=true->∀u∈us,SeqAt.EqAt A s u v (eqU x u)
|_,_,.nil,_=>λu hu=>by cases hu
|y::xs,u::us,.cons r t,f=>λu' hu=>by
  rw[List.all_cons,Bool.and_eq_true] at f
  rcases List.mem_cons.mp hu with rfl|hu
  ·rw[qva r f.1];exact qu9 r rx f.1 fx
  ·exact qiv rx fx t f.2 u' hu
def inV(x:V)(xs:List V):Bool:=xs.any λy=>eqV y x
def rIn(K:PySem.W.Frag)(neg:Bool):R2:=λx y H Q=>∃p xs,y=.ref p/\(SqL K H p xs\/SqT K H p xs)/\qf4 x=true/\xs.all qf4=true/\Q (.bl (if neg then !inV x xs else inV x xs)) H
theorem qrh:OpR X (compareOp .In) (rIn X.K false):=by
 intro pins s σ H x y v u Q I rx ry h
 obtain⟨p,xs,rfl,hq,fx,fs,q⟩:=h
 cases ry
 rcases hq with hq|hq
 ·obtain⟨its,r,pl,hz⟩:=I.list hq
  refine SeqAt.in_listAt (eqU x) pl.isList (λw hw=>qiv rx fx r fs w (by simpa using hw)) ⟨.bl _,H,I,rfl,?_⟩
  rw[show its.toArray.any (eqU x)=its.any (eqU x) by simp,qli r fs]
  exact q
 ·obtain⟨its,r,pl,hz⟩:=I.tuple hq
  refine SeqAt.in_tupleAt (eqU x) pl (λw hw=>qiv rx fx r fs w (by simpa using hw)) ⟨.bl _,H,I,rfl,?_⟩
  rw[show its.toArray.any (eqU x)=its.any (eqU x) by simp,qli r fs]
  exact q
theorem qke:CallR X (.builtin "len") (λxs H Q=>∃p ys,xs=[.ref p]/\(SqL X.K H p ys\/SqT X.K H p ys)/\Q (.int ys.length) H):=by
 intro pins s σ H xs us Q I r h
 obtain⟨p,ys,rfl,hq,q⟩:=h
 obtain⟨u,rfl,rx⟩:=vals1 r
 cases rx
 have hn:=qgz
 rcases hq with hq|hq
 ·obtain⟨its,r',pl,hz⟩:=I.list hq
  have hlen:=r'.length
  exact Calls.call_len_list pl.isList (by simp only[List.size_toArray]<;>lia) ⟨.int ys.length,H,I.tok _,⟨s.toks+1,by rw[List.size_toArray,hlen]⟩,q⟩
 ·obtain⟨its,r',pl,hz⟩:=I.tuple hq
  have hlen:=r'.length
  exact len_tuple pl (by simp only[List.size_toArray]<;>lia) ⟨.int ys.length,H,I.tok _,⟨s.toks+1,by rw[List.size_toArray,hlen]⟩,q⟩
theorem call_len_str:CallR X (.builtin "len") (λxs H Q=>∃z,xs=[.str z]/\z.length<=sizeLine/\Q (.int z.length) H):=by
 intro pins s σ H xs us Q I r h
 obtain⟨z,rfl,hz,q⟩:=h
 obtain⟨u,rfl,t,rfl⟩:=vals1 r
 have hn:=qgz
 exact len_str (by lia) ⟨.int z.length,H,I.tok _,⟨_,rfl⟩,q⟩
theorem CallR.or{f:Value}{r r':List V->Hp->VK->Prop}(h:CallR X f r)(h':CallR X f r'):CallR X f (λxs H Q=>r xs H Q\/r' xs H Q):=by
 intro pins s σ H xs us Q I rs q
 rcases q with q|q
 ·exact h pins s σ H xs us Q I rs q
 ·exact h' pins s σ H xs us Q I rs q
theorem qdw:CallR X (.type "list") (λxs H Q=>∃p ys,xs=[.ref p]/\(SqL X.K H p ys\/SqT X.K H p ys)/\∀l,H l=none->Q (.ref l) (upd H l (.lst ys))):=by
 intro pins s σ H xs us Q I r h
 obtain⟨p,ys,rfl,hq,q⟩:=h
 obtain⟨u,rfl,rx⟩:=vals1 r
 cases rx
 have fin:∀(its:List Value),Vals ys its->ys.length<=sizeLine->∀(h':Heap) (c':Nat),(∀b o',s.heap.get? b=some o'->h'.get? b=some o') ->
   h'.get? s.heap.objs.size=some { cls:=.type "list",dict:=none,data:=.seq its.toArray c',slots:=#[] }->EP X pins σ Q (.ref s.heap.objs.size) { s with heap:=h' }:=λits r' hz h' c' kp e =>
  ⟨.ref s.heap.objs.size,_,I.laid (t':=s.toks) kp (Nat.le_refl _) (show ObjOk X.prog X.w _ h' _ (.lst ys) from ⟨hz,its,c',r',e⟩),rfl,q _ (I.hok.fresh (Nat.le_refl _))⟩
 rcases hq with hq|hq
 ·obtain⟨its,r',pl,hz⟩:=I.list hq
  have hlen:=r'.length
  obtain⟨o,ho,hc,n,hd⟩:=pl.isList
  exact call_list_seq p (.inl rfl) ho hc hd (λh' c' kp e=>fin its r' hz h' c' kp e) (by simp only[List.size_toArray]<;>lia)
 ·obtain⟨its,r',pl,hz⟩:=I.tuple hq
  have hlen:=r'.length
  obtain⟨o,ho,hc,n,hd⟩:=pl
  exact call_list_seq p (.inr rfl) ho hc hd (λh' c' kp e=>fin its r' hz h' c' kp e) (by simp only[List.size_toArray]<;>lia)
def tyV(K:PySem.W.Frag)(T:String)(x:V)(H:Hp):Prop:=match x with
|.str _=>T="str"
|.int _=>T="int"
|.ref p=>(T="list" /\ ∃xs,SqL K H p xs)\/(T="tuple" /\ ∃o,K.lookup p=some o/\o.cls=.type "tuple" /\ o.dict=none) \/
   (T="dict" /\ ((∃kvs,H p=some (.dK kvs))\/∃kvs,H p=some (.dT kvs)))\/(T="set" /\ ∃S n,H p=some (.set S n))
|_=>False
theorem qwe{pins:List (Addr×Obj)}{σ:St}{H:Hp}{s:Shared}{T:String}{x:V}{v:Value}(I:Inv X pins σ H s)(r:RelV x v)(ty:tyV X.K T x H) :
  s.TypeIs v T/\∀a,v=.ref a->∃ob,s.heap.get? a=some ob/\ob.dict=none:=by
 cases x with
|str z =>
  obtain⟨t,rfl⟩:=r
  cases (show T="str" from ty)
  exact⟨typeIs_str s z t,λ_ e=>nomatch e⟩
|int i =>
  obtain⟨t,rfl⟩:=r
  cases (show T="int" from ty)
  exact⟨typeIs_int s i t,λ_ e=>nomatch e⟩
|ref p =>
  cases r
  rcases ty with ⟨rfl,xs,hq⟩|⟨rfl,o,hk,hc,hd⟩|⟨rfl,hk⟩|⟨rfl,S,n,hk⟩
  ·obtain⟨its,_,pl,_⟩:=I.list hq
   refine⟨pl.isList.typeIs,λa e=>?_⟩
   cases e
   obtain⟨o,n,e,c,hd,_⟩:=pl
   exact⟨o,e,hd⟩
  ·refine⟨⟨o,I.kIn p o hk,hc⟩,λa e=>?_⟩
   cases e
   exact⟨o,I.kIn _ o hk,hd⟩
  ·have z:∃o,s.heap.get? p=some o/\o.ExactDict:=by
    rcases hk with ⟨kvs,hk⟩|⟨kvs,hk⟩
    ·obtain⟨_,_,_,_,o,_,_,e,ex,_⟩:=I.hok p _ hk
     exact⟨o,e,ex⟩
    ·obtain⟨_,_,_,_,o,_,_,e,ex,_⟩:=I.hok p _ hk
     exact⟨o,e,ex⟩
   obtain⟨o,e,ex⟩:=z
   refine⟨⟨o,e,ex.1⟩,λa e2=>?_⟩
   cases e2
   exact⟨o,e,ex.2.1⟩
  ·obtain⟨o,_,_,_,e,ex,_⟩:=I.hok p _ hk
   refine⟨⟨o,e,ex.1⟩,λa e2=>?_⟩
   cases e2
   exact⟨o,e,ex.2.1⟩
|_=>exact False.elim ty
def tBM0(K:PySem.W.Frag)(T:String)(r:V->List V->Hp->VK->Prop)(to:TE):TE:=λσ H Q=>to σ H λx H1=>tyV K T x H1/\r x [] H1 Q
def tBM(K:PySem.W.Frag)(T:String)(r:V->List V->Hp->VK->Prop)(to:TE)(t:TA):TE:=λσ H Q=>to σ H λx H1=>tyV K T x H1/\t σ H1 λxs H2=>r x xs H2 Q
variable {o e:Expr} {es:List Expr} {to:TE} {t:TA} {name:Str} {apos cpos:Pos} {T id:String} {r:V->List V->Hp->VK->Prop}
theorem q0y(pa:PlainAttrs T)(slot:Slot T name id)(hty:typeOf (.builtin id)=pure (.type "method_descriptor"))(hm:MtR X id r)(ho:PE X o to)
  (hbase:attributeBase o name X.env (eval o X.env)=eval o X.env:=by rfl) (hline:(apos.endLine==cpos.line)=true:=by rfl):PE X (.Call (.Attribute o name apos) [] [] cpos) (tBM0 X.K T r to):=by
 intro pins s σ H Q I h
 refine wpAny_Call_method0_late hbase hline (thn (ho pins s σ H _ I h) λv s1 ⟨x,H1,I1,r1,ty,q1⟩=>?_)
 obtain⟨h1,h2⟩:=qwe I1 r1 ty
 exact⟨T,id,pa,slot,hty,h1,h2,Calls.callWith_builtin rfl (PySem.evalArgs_none (hm pins s1 σ H1 x [] v [] Q I1 r1 .nil q1))⟩
theorem q3e(pa:PlainAttrs T)(slot:Slot T name id)(hty:typeOf (.builtin id)=pure (.type "method_descriptor"))(hm:MtR X id r)(ho:PE X o to)(ha:PA X (e::es) t)
  (hbase:attributeBase o name X.env (eval o X.env)=eval o X.env:=by rfl)
  (hfew:((backTo cpos (starEach (e::es) X.env)).all (λx=>!x.1)&&(backToKw cpos (keywordEach [] X.env)).all (λx=>x.1.isSome)
   && decide ((e::es).length+([]:List Keyword).length+(if ([]:List Keyword).isEmpty then 0 else 1)<30))=true:=by rfl)
  (hline:(apos.endLine==cpos.line)=true:=by rfl) (hs:starEach (e::es) X.env=(false,eval e X.env)::starEach es X.env:=by rfl) (hplain:(backTo cpos (starEach es X.env)).any (·.1)=false:=by rfl) :
  PE X (.Call (.Attribute o name apos) (e::es) [] cpos) (tBM X.K T r to t):=by
 intro pins s σ H Q I h
 refine wpAny_Call_method_late hbase hfew hline rfl (thn (ho pins s σ H _ I h) λv s1 ⟨x,H1,I1,r1,ty,q1⟩=>?_)
 obtain⟨h1,h2⟩:=qwe I1 r1 ty
 refine⟨T,id,pa,slot,hty,h1,h2,?_⟩
 have hA:=ha cpos pins s1 σ H1 _ I1 q1
 rw[hs] at hA ⊢
 refine Calls.callWith_builtin (by show (false||(backTo cpos (starEach es X.env)).any (·.1))=false;rw[hplain]<;>rfl) (Calls.evalArgs_plain ?_)
 exact thn hA λus s2 ⟨vs,H2,I2,r2,q2⟩=>hm pins s2 σ H2 x vs v us Q I2 r1 r2 q2
end
end L2
namespace L2
open PySem PySem.Spec PyProof.Rows
def MtM(X:Cx)(id:String)(r:V->List V->Hp->VK->Prop):Prop :=
 ∀(pins:List (Addr×Obj)) (s:Shared) (σ:St) (H:Hp) (x:V) (xs:List V) (v:Value) (us:List Value) (Q:VK),Inv X pins σ H s->RelV x v->Vals xs us->r x xs H Q ->
  wpAny (model X.prog X.w) X.A (call (.builtin id) (v::us)) (EP X pins σ Q) X.xe s
theorem Vals.one:∀ {x:V} {us:List Value},Vals [x] us->∃u,us=[u]/\RelV x u
|_,_,.cons r .nil=>⟨_,rfl,r⟩
theorem Vals.zero:∀ {us:List Value},Vals [] us->us=[]
|_,.nil=>rfl
theorem Vals.dropLast{xs:List V}{us:List Value}(h:Vals xs us):Vals xs.dropLast us.dropLast:=by
 induction h with
|nil=>exact .nil
|cons r t ih =>
  cases t with
 |nil=>exact .nil
 |cons q t'=>exact .cons r ih
theorem qoj{α:Type}(l:List α):l.eraseIdx (l.length-1)=l.dropLast:=by
 induction l with
|nil=>rfl
|cons a r ih =>
  cases r with
 |nil=>rfl
 |cons b r =>
   have e:(a::b::r).length-1=((b::r).length-1)+1:=by
    have h1:(a::b::r).length=r.length+2:=rfl
    have h2:(b::r).length=r.length+1:=rfl
    lia
   rw[e,List.eraseIdx_cons_succ,ih]
   all_goals rfl
section
variable {X:Cx} {pins:List (Addr×Obj)} {σ:St} {H:Hp} {s:Shared} {l b:Addr} {xs ys zs:List V}
theorem Inv.lset{its its':List Value}{n:Nat}{f:Array Value->Array Value}{t':Nat}(I:Inv X pins σ H s)(hH:H l=some (.lst xs))
  (e:s.heap.get? l=some { cls:=.type "list",data:=.seq its.toArray n }) (hf:f its.toArray=its'.toArray) (hv:Vals ys its') (hz:ys.length<=sizeLine) :
  Inv X pins σ (upd H l (.lst ys)) { s with heap:=s.heap.update l (Obj.mapSeq f),toks:=t' }:=by
 have q:=PySem.IsL.update e f
 rw[hf] at q
 refine I.write (x:=l) (e:=l) (by rw[hH];exact trivial) (.inl rfl) (λb' u hb hu=>(Heap.get?_update_other s.heap (Obj.mapSeq f) (Ne.symm hb)).trans hu) ⟨_,q⟩ ?_
 exact⟨hz,its',_,hv,q⟩
theorem Inv.lnew{its:List Value}{t':Nat}(I:Inv X pins σ H s)(hv:Vals ys its)(hz:ys.length<=sizeLine) :
  Inv X pins σ (upd H s.heap.objs.size (.lst ys)) { s with heap:=s.heap.push { cls:=.type "list",data:=.seq its.toArray },toks:=t' } :=
 I.laid (λ_ _ q=>Heap.get?_push_of_some _ q) (Nat.le_refl _) ⟨hz,its,0,hv,Heap.get?_push_size _ rfl⟩
theorem Inv.fresh(I:Inv X pins σ H s):H s.heap.objs.size=none:=I.hok.fresh (Nat.le_refl _)
theorem Inv.lstM(I:Inv X pins σ H s)(hH:H l=some (.lst xs)):xs.length<=sizeLine/\∃(its:List Value) (n:Nat),Vals xs its/\xs.length=its.length/\s.heap.get? l=some { cls:=.type "list",data:=.seq its.toArray n }:=by
 obtain⟨z,its,n,r,e⟩:=I.hok l _ hH
 exact⟨z,its,n,r,r.length,e⟩
theorem qte{n:Nat}(h:n<=sizeLine):Builtin.List.listTooLong n=false:=by
 unfold Builtin.List.listTooLong
 exact decide_eq_false (by lia)
end
section
variable {X:Cx}
def qep:V->List V->Hp->VK->Prop:=λx vs H Q=>∃l xs y,x=.ref l/\vs=[y]/\H l=some (.lst xs)/\xs.length<sizeLine/\Q .non (upd H l (.lst (xs++[y])))
theorem qb5:MtM X "list.append" qep:=by
 intro pins s σ H x vs v us Q I rx rv h
 obtain⟨l,xs,y,rfl,rfl,hH,hz,q⟩:=h
 cases rx
 obtain⟨u,rfl,ru⟩:=rv.one
 obtain⟨z,its,n,r,hl,e⟩:=I.lstM hH
 refine call_meets F.slot_list_append ⟨_,e,rfl⟩ F.entry_list_append (F.args_list_append_2 _ _) (PySem.list_append l its.toArray n u (by rw[List.size_toArray];lia)) ⟨e,?_⟩
 refine⟨.non,_,I.lset (its':=its++[u]) hH e (by simp) (r.append (.cons ru .nil)) ?_,rfl,q⟩
 rw[List.length_append,List.length_singleton]
 lia
def qyp:V->List V->Hp->VK->Prop:=λx vs H Q=>∃l b xs zs,x=.ref l/\vs=[.ref b]/\H l=some (.lst xs)/\H b=some (.lst zs)/\xs.length+zs.length<=sizeLine/\Q .non (upd H l (.lst (xs++zs)))
theorem q0l:MtM X "list.extend" qyp:=by
 intro pins s σ H x vs v us Q I rx rv h
 obtain⟨l,b,xs,zs,rfl,rfl,hH,hB,hz,q⟩:=h
 cases rx
 obtain⟨u,rfl,ru⟩:=rv.one
 cases ru
 obtain⟨z,its,n,r,hl,e⟩:=I.lstM hH
 obtain⟨z2,its2,n2,r2,hl2,e2⟩:=I.lstM hB
 have hsz:its.toArray.size+its2.toArray.size<=sizeLine:=by rw[List.size_toArray,List.size_toArray];lia
 have hlong:¬ (!its.toArray.isEmpty&&Builtin.List.listTooLong (its.toArray.size+its2.toArray.size))=true:=by
  rw[qte hsz,Bool.and_false]
  exact Bool.false_ne_true
 refine call_meets F.slot_list_extend ⟨_,e,rfl⟩ F.entry_list_extend (F.args_list_extend_2 _ _)
  (AutoSeq1.list_extend_list_list_0 l its.toArray n b its2.toArray n2 hlong (by rw[List.size_toArray];lia) (by lia)) ⟨e,e2,?_⟩
 refine⟨.non,_,I.lset (its':=its++its2) hH e (by simp) (r.append r2) ?_,rfl,q⟩
 rw[List.length_append]
 lia
def rPop:V->List V->Hp->VK->Prop:=λx vs H Q=>∃l xs y,x=.ref l/\vs=[]/\H l=some (.lst xs)/\xs[xs.length-1]?=some y/\Q y (upd H l (.lst xs.dropLast))
theorem qvp:MtM X "list.pop" rPop:=by
 intro pins s σ H x vs v us Q I rx rv h
 obtain⟨l,xs,y,rfl,rfl,hH,hy,q⟩:=h
 cases rx
 have hus:=rv.zero
 subst hus
 obtain⟨z,its,n,r,hl,e⟩:=I.lstM hH
 obtain⟨u,hu,ru⟩:=r.get hy
 have hy':its.toArray[its.toArray.size-1]?=some u:=by
  show its.toArray[its.length-1]?=some u
  rw[←Array.getElem?_toList,←hl]
  exact hu
 refine call_meets F.slot_list_pop ⟨_,e,rfl⟩ F.entry_list_pop (F.args_list_pop_1 _) (MeetsSeq.list_pop_last l its.toArray n u hy' (by rw[List.size_toArray];lia)) ⟨e,?_⟩
 refine⟨y,_,I.lset (its':=its.dropLast) hH e ?_ r.dropLast ?_,ru,q⟩
 ·show its.toArray.eraseIdxIfInBounds (its.toArray.size-1)=its.dropLast.toArray
  rw[List.size_toArray,List.eraseIdxIfInBounds_toArray,qoj]
 ·rw[List.length_dropLast]
  lia
def rCat:R2:=λx y H Q=>∃l b xs zs,x=.ref l/\y=.ref b/\H l=some (.lst xs)/\H b=some (.lst zs)/\xs.length+zs.length<=sizeLine/\∀p,H p=none->Q (.ref p) (upd H p (.lst (xs++zs)))
theorem q0p:OpR X (binaryOp .Add) rCat:=by
 intro pins s σ H x y v u Q I rx ry h
 obtain⟨l,b,xs,zs,rfl,rfl,hH,hB,hz,q⟩:=h
 cases rx
 cases ry
 obtain⟨z,its,n,r,hl,e⟩:=I.lstM hH
 obtain⟨z2,its2,n2,r2,hl2,e2⟩:=I.lstM hB
 refine PySem.P.add_list e e2 ?_ (by rw[List.size_toArray,List.size_toArray];lia)
 have ea:its.toArray++its2.toArray=(its++its2).toArray:=by simp
 rw[ea]
 exact⟨.ref _,_,I.lnew (t':=s.toks) (r.append r2) (by rw[List.length_append];lia),rfl,q _ I.fresh⟩
end
section
variable {prog:Program} {w:World} {A:Around} {E:Value->Shared->Prop} {s:Shared}
end
section
variable {X:Cx}
end
end L2
namespace L2
open PySem PySem.Spec PyProof.Rows
section
variable {κ:Type} [DecidableEq κ]
def valV(kvs:List (κ×V))(k:κ):Option V:=(kvs.find? λkv=>decide (kv.1=k)).map (·.2)
def putK(kvs:List (κ×V))(k:κ)(v:V):List (κ×V) :=
 if (kvs.any λkv=>decide (kv.1=k))=true then kvs.map (λkv=>if kv.1=k then (kv.1,v) else kv) else kvs++[(k,v)]
theorem qfc{p:κ×V}{r:List (κ×V)}{k:κ}(e:p.1=k):valV (p::r) k=some p.2:=by simp[valV,List.find?_cons,e]
theorem qfb{p:κ×V}{r:List (κ×V)}{k:κ}(e:¬ p.1=k):valV (p::r) k=valV r k:=by simp[valV,List.find?_cons,e]
theorem qn9(k:κ):∀kvs:List (κ×V),(kvs.any λkv=>decide (kv.1=k))=(valV kvs k).isSome
|[]=>rfl
|p::r=>by
  rw[List.any_cons]
  by_cases e:p.1=k
  ·simp only[qfc e,decide_eq_true e,Bool.true_or,Option.isSome_some]
  ·rw[qfb e,decide_eq_false e,Bool.false_or];exact qn9 k r
theorem qgy(kvs:List (κ×V))(k:κ)(v:V):(putK kvs k v).length<=kvs.length+1:=by
 unfold putK
 split
 ·rw[List.length_map];lia
 ·rw[List.length_append,List.length_cons,List.length_nil];lia
theorem RelO.isSome_eq{o:Option V}{u:Option Value}(r:RelO o u):o.isSome=u.isSome:=by
 cases o with
|none=>cases u with
 |none=>rfl
 |some _=>exact(show False from r).elim
|some _=>cases u with
 |none=>exact(show False from r).elim
 |some _=>rfl
theorem RelO.getD{o:Option V}{u:Option Value}{d:V}{d':Value}(r:RelO o u)(rd:RelV d d'):RelV (o.getD d) (u.getD d'):=by
 cases o with
|none=>cases u with
 |none=>exact rd
 |some _=>exact(show False from r).elim
|some _=>cases u with
 |none=>exact(show False from r).elim
 |some _=>exact r
theorem KV.val{kvs:List (κ×V)}{vs:List (κ×Value)}(r:KV kvs vs)(k:κ):RelO (valV kvs k) (valueAt vs k):=by
 unfold KV at r
 induction r with
|nil=>exact True.intro
|@cons p q ps qs h t ih =>
  obtain⟨h1,h2⟩:=h
  by_cases e:p.1=k
  ·have e':q.1=k:=h1.symm.trans e
   have b:valueAt (q::qs) k=some q.2:=by simp[valueAt,List.find?_cons,e']
   rw[qfc e,b];exact h2
  ·have e':¬ q.1=k:=λz=>e (h1.trans z)
   have b:valueAt (q::qs) k=valueAt qs k:=by simp[valueAt,List.find?_cons,e']
   rw[qfb e,b];exact ih
theorem KV.any{kvs:List (κ×V)}{vs:List (κ×Value)}(r:KV kvs vs)(k:κ):(kvs.any λkv=>decide (kv.1=k))=vs.any λkv=>decide (kv.1=k):=by
 unfold KV at r
 induction r with
|nil=>rfl
|cons h t ih=>rw[List.any_cons,List.any_cons,ih,h.1]
theorem KV.repl{kvs:List (κ×V)}{vs:List (κ×Value)}(r:KV kvs vs)(k:κ){y:V}{u:Value}(ry:RelV y u) :
  KV (kvs.map λkv=>if kv.1=k then (kv.1,y) else kv) (vs.map λkv=>if kv.1=k then (kv.1,u) else kv):=by
 unfold KV at r ⊢
 induction r with
|nil=>exact .nil
|@cons p q ps qs h t ih =>
  rw[List.map_cons,List.map_cons]
  refine .cons ?_ ih
  obtain⟨h1,h2⟩:=h
  by_cases e:p.1=k
  ·rw[if_pos e,if_pos (h1.symm.trans e)];exact⟨h1,ry⟩
  ·rw[if_neg e,if_neg (λz=>e (h1.trans z))];exact⟨h1,h2⟩
theorem KV.put{kvs:List (κ×V)}{vs:List (κ×Value)}(r:KV kvs vs)(k:κ){y:V}{u:Value}(ry:RelV y u):KV (putK kvs k y) (stored vs k u):=by
 unfold putK stored
 rw[r.any k]
 by_cases e:(vs.any λkv=>decide (kv.1=k))=true
 ·rw[if_pos e,if_pos e];exact r.repl k ry
 ·rw[if_neg e,if_neg e];exact Paired.snoc r ⟨rfl,ry⟩
theorem KV.length{kvs:List (κ×V)}{vs:List (κ×Value)}(r:KV kvs vs):kvs.length=vs.length:=Paired.length r
end
theorem qoo{P:Program}{w:World}{k:Key}{u:Value}(r:RelV (kV k) u):(qbi P w).is k u=true:=by
 cases k with
|inl i=>obtain⟨t,e⟩:=(show ∃t,u=Value.int i t from r);subst e;exact ql7 P w i t
|inr x=>obtain⟨t,e⟩:=(show ∃t,u=Value.str x t from r);subst e;exact ql8 P w x t
theorem qkn{P:Program}{w:World}:∀ {ks:List Key} {us:List Value},Vals (ks.map kV) us->ItemsAre (qbi P w) ks us
|[],_,r=>by rw[List.map_nil] at r;cases r;exact .nil
|k::ks,_,r=>by
  rw[List.map_cons] at r
  cases r with
 |cons h t=>exact .cons (qoo h) (qkn t)
abbrev KT(H:Hp):List (List Key×V)->List (List Key×Addr×Value)->Prop:=Paired λp q=>p.1=q.1/\H q.2.1=some (.tup (p.1.map kV))/\RelV p.2 q.2.2
theorem KT.val{H:Hp}{kvs:List (List Key×V)}{xs:List (List Key×Addr×Value)}(r:KT H kvs xs)(k:List Key):RelO (valV kvs k) ((atKey xs k).map (·.2)):=by
 induction r with
|nil=>exact True.intro
|@cons p q ps qs h t ih =>
  obtain⟨h1,_,h2⟩:=h
  by_cases e:p.1=k
  ·have e':q.1=k:=h1.symm.trans e
   have b:atKey (q::qs) k=some q.2:=by simp[atKey,List.find?_cons,e']
   rw[qfc e,b];exact h2
  ·have e':¬ q.1=k:=λz=>e (h1.trans z)
   have b:atKey (q::qs) k=atKey qs k:=by simp[atKey,List.find?_cons,e']
   rw[qfb e,b];exact ih
theorem KT.repl{H:Hp}{kvs:List (List Key×V)}{xs:List (List Key×Addr×Value)}(r:KT H kvs xs)(k:List Key){y:V}{u:Value}(ry:RelV y u) :
  KT H (kvs.map λkv=>if kv.1=k then (kv.1,y) else kv) (xs.map (putAt k u)):=by
 induction r with
|nil=>exact .nil
|@cons p q ps qs h t ih =>
  rw[List.map_cons,List.map_cons]
  refine .cons ?_ ih
  obtain⟨h1,h2,h3⟩:=h
  unfold putAt
  by_cases e:p.1=k
  ·rw[if_pos e,if_pos (h1.symm.trans e)];exact⟨h1,h2,ry⟩
  ·rw[if_neg e,if_neg (λz=>e (h1.trans z))];exact⟨h1,h2,h3⟩
theorem KT.put{H:Hp}{kvs:List (List Key×V)}{xs:List (List Key×Addr×Value)}(r:KT H kvs xs)(k:List Key){b:Addr}{y:V}{u:Value}(hb:H b=some (.tup (k.map kV)))(ry:RelV y u) :
  KT H (putK kvs k y) (storedH xs k b u):=by
 have e:(kvs.any λkv=>decide (kv.1=k))=(atKey xs k).isSome:=by
  rw[qn9,(r.val k).isSome_eq,Option.isSome_map]
 unfold putK storedH
 rw[e]
 by_cases q:(atKey xs k).isSome=true
 ·rw[if_pos q,if_pos q];exact r.repl k ry
 ·rw[if_neg q,if_neg q];exact Paired.snoc r ⟨rfl,hb,ry⟩
theorem KT.keeps{H H':Hp}{kvs:List (List Key×V)}{xs:List (List Key×Addr×Value)}(r:KT H kvs xs)(ht:∀b ys,H b=some (.tup ys)->H' b=some (.tup ys)):KT H' kvs xs :=
 Paired.mapP r λ_ _ z=>⟨z.1,ht _ _ z.2.1,z.2.2⟩
section
variable {P:Program} {w:World} {H:Hp} {h:Heap} {a:Addr}
theorem q1z{u:HO}(ok:HOk P w H h)(e:Rd H a u):ObjOk P w H h a u:=e.ok ok
theorem qlr{kvs:List (Key×V)}(ok:HOk P w H h)(e:Rd H a (.dK kvs)):kvs.length<=sizeLine/\(a==sysModules)=false/\∃vs,KV kvs vs/\h.DictOf (qbi P w) a vs :=
 show ObjOk P w H h a (.dK kvs) from q1z ok e
theorem q25{kvs:List (Key×V)}(ok:HOk P w H h)(e:H a=some (.dK kvs)):kvs.length<=sizeLine/\(a==sysModules)=false/\∃vs,KV kvs vs/\h.DictOf (qbi P w) a vs:=qlr ok (.inl e)
theorem qgr{ks:List Key}(ok:HOk P w H h)(e:H a=some (.tup (ks.map kV))):(tupleKind (qbi P w)).is h ks a:=by
 obtain⟨_,its,r,o,h1,h2,n,h3⟩:=(show ObjOk P w H h a (.tup (ks.map kV)) from ok a _ e)
 exact⟨o,its.toArray,n,h1,h2,h3,by simpa using qkn r⟩
theorem qkk{kvs:List (List Key×V)}(ok:HOk P w H h)(e:Rd H a (.dT kvs)):kvs.length<=sizeLine/\(a==sysModules)=false /\
  ∃xs,KT H kvs xs/\h.DictOfH (tupleKind (qbi P w)) a xs:=by
 obtain⟨z,y,xs,r,o,es,ep,h1,h2,h3,h4,h5⟩:=(show ObjOk P w H h a (.dT kvs) from q1z ok e)
 refine⟨z,y,xs,r,o,es,ep,h1,h2,h3,h4,λx hx=>?_,h5⟩
 have all:∀ {l:List (List Key×V)} {m:List (List Key×Addr×Value)},KT H l m->∀x∈m,(tupleKind (qbi P w)).is h x.1 x.2.1:=by
  intro l m q
  induction q with
 |nil=>intro x hx;exact nomatch hx
 |@cons p q ps qs hq t ih =>
   intro x hx
   rcases List.mem_cons.mp hx with e|hx
   ·subst e
    exact qgr ok (by rw[←hq.1];exact hq.2.1)
   ·exact ih x hx
 exact all r x hx
theorem qzy{kvs:List (List Key×V)}(ok:HOk P w H h)(e:H a=some (.dT kvs)):kvs.length<=sizeLine/\(a==sysModules)=false /\
  ∃xs,KT H kvs xs/\h.DictOfH (tupleKind (qbi P w)) a xs:=qkk ok (.inl e)
end
def DGet(H:Hp)(a:Addr)(y:V)(r:Option V):Prop :=
 (∃kvs k,Rd H a (.dK kvs)/\y=kV k/\r=valV kvs k)\/∃kvs k b,Rd H a (.dT kvs)/\y=.ref b/\H b=some (.tup (k.map kV))/\r=valV kvs k
def DPut(H:Hp)(a:Addr)(y v:V)(H':Hp):Prop :=
 (∃kvs k,H a=some (.dK kvs)/\y=kV k/\kvs.length<sizeLine/\H'=upd H a (.dK (putK kvs k v))) \/
 ∃kvs k b,H a=some (.dT kvs)/\y=.ref b/\H b=some (.tup (k.map kV))/\kvs.length<sizeLine/\H'=upd H a (.dT (putK kvs k v))
theorem DGet.k{H:Hp}{a:Addr}{kvs:List (Key×V)}{k:Key}(e:H a=some (.dK kvs)):DGet H a (kV k) (valV kvs k):=.inl ⟨kvs,k,.inl e,rfl,rfl⟩
theorem DPut.t{H:Hp}{a b:Addr}{kvs:List (List Key×V)}{k:List Key}{v:V}(e:H a=some (.dT kvs))(eb:H b=some (.tup (k.map kV)))(hl:kvs.length<sizeLine) :
  DPut H a (.ref b) v (upd H a (.dT (putK kvs k v))):=.inr ⟨kvs,k,b,e,rfl,eb,hl,rfl⟩
section
variable {X:Cx} {pins:List (Addr×Obj)} {σ:St} {H:Hp} {s:Shared} {a:Addr} {y v:V} {u r:Value} {o:Option V} {A:Around} {E:Value->Shared->Prop}
theorem Inv.big(I:Inv X pins σ H s):sysModules<s.heap.objs.size:=by
 have h:mainGlobals<s.heap.objs.size:=(I.mod.glob.keeps I.bk).lt
 exact Nat.lt_trans (by decide) h
theorem qpw{Q:Value->Shared->Prop}(hu:A.units+1<cLine)(I:Inv X pins σ H s)(g:DGet H a y (some v))(ry:RelV y u)(h:∀w' s',Inv X pins σ H s'->RelV v w'->Q w' s') :
  wpAny (model X.prog X.w) A (getItem (.ref a) u) Q E s:=by
 rcases g with ⟨kvs,k,e,ey,l⟩|⟨kvs,k,b,e,ey,eb,l⟩
 ·subst ey
  obtain⟨z,hd,vs,rel,dd⟩:=qlr I.hok e
  obtain⟨w',hw,rw'⟩:=RelO.some_of (v:=v) (o:=valueAt vs k) (by rw[l];exact rel.val k)
  exact wpAny_getItem_of (qoo ry) dd.mapOf hw (h w' _ (I.tok _) rw')
 ·subst ey
  cases (show u=Value.ref b from ry)
  obtain⟨z,hd,xs,rel,dd⟩:=qkk I.hok e
  obtain⟨w',hw,rw'⟩:=RelO.some_of (v:=v) (o:=(atKey xs k).map (·.2)) (by rw[l];exact rel.val k)
  obtain⟨p,hp,hp2⟩:=Option.map_eq_some_iff.mp hw
  refine wpAny_getItem_heap (tupleKind_room_in1 hu) (qgr I.hok eb) dd hp ?_
  rw[hp2]
  exact h w' _ (I.tok _) rw'
theorem d_in{Q:Value->Shared->Prop}(hu:A.units+1<cLine)(I:Inv X pins σ H s)(g:DGet H a y o)(ry:RelV y u)(h:∀s',Inv X pins σ H s'->Q (.bool o.isSome) s') :
  wpAny (model X.prog X.w) A (compareOp .In u (.ref a)) Q E s:=by
 rcases g with ⟨kvs,k,e,ey,l⟩|⟨kvs,k,b,e,ey,eb,l⟩
 ·subst ey
  obtain⟨z,hd,vs,rel,dd⟩:=qlr I.hok e
  refine wpAny_in_of (qoo ry) hd dd.mapOf ?_
  rw[←(rel.val k).isSome_eq,←l]
  exact h _ (I.tok _)
 ·subst ey
  cases (show u=Value.ref b from ry)
  obtain⟨z,hd,xs,rel,dd⟩:=qkk I.hok e
  refine wpAny_in_heap (tupleKind_room_in1 hu) (qgr I.hok eb) hd dd ?_
  have q:=(rel.val k).isSome_eq
  rw[Option.isSome_map] at q
  rw[←q,←l]
  exact h _ (I.tok _)
theorem qwy{Q:Value->Shared->Prop}(hu:A.units+1<cLine)(I:Inv X pins σ H s)(g:DGet H a y o)(ry:RelV y u)(h:∀s',Inv X pins σ H s'->Q (.bool (!o.isSome)) s') :
  wpAny (model X.prog X.w) A (compareOp .NotIn u (.ref a)) Q E s:=by
 rcases g with ⟨kvs,k,e,ey,l⟩|⟨kvs,k,b,e,ey,eb,l⟩
 ·subst ey
  obtain⟨z,hd,vs,rel,dd⟩:=qlr I.hok e
  refine wpAny_notIn_of (qoo ry) hd dd.mapOf ?_
  rw[←(rel.val k).isSome_eq,←l]
  exact h _ (I.tok _)
 ·subst ey
  cases (show u=Value.ref b from ry)
  obtain⟨z,hd,xs,rel,dd⟩:=qkk I.hok e
  refine wpAny_notIn_heap (tupleKind_room_in1 hu) (qgr I.hok eb) hd dd ?_
  have q:=(rel.val k).isSome_eq
  rw[Option.isSome_map] at q
  rw[←q,←l]
  exact h _ (I.tok _)
theorem qlp{h':Heap}{t':Nat}{ob:HO}(I:Inv X pins σ H s)(mu:Mut (H a))(hs:Heap.SameBut a s.heap h')(he:∃q,h'.get? a=some q)(new:ObjOk X.prog X.w (upd H a ob) h' a ob) :
  Inv X pins σ (upd H a ob) { s with heap:=h',toks:=t' } :=
 I.write (x:=a) (e:=a) mu (.inl rfl) (λb q hb z=>(hs.2 b hb).trans z) he new
theorem qzx{P:Program}{w:World}{H':Hp}{h':Heap}{kvs:List (Key×V)}{vs:List (Key×Value)}(z:kvs.length<=sizeLine)(hd:(a==sysModules)=false)(rel:KV kvs vs)(dd:h'.DictOf (qbi P w) a vs) :
  ObjOk P w H' h' a (.dK kvs):=⟨z,hd,vs,rel,dd⟩
theorem qpx{H':Hp}{Q:Unit->Shared->Prop}(hu:A.units+1<cLine)(I:Inv X pins σ H s)(g:DPut H a y v H')(ry:RelV y u)(rv:RelV v r)(h:∀s',Inv X pins σ H' s'->Q () s') :
  wpAny (model X.prog X.w) A (setItem (.ref a) u r) Q E s:=by
 rcases g with ⟨kvs,k,e,ey,l,eH⟩|⟨kvs,k,b,e,ey,eb,l,eH⟩
 ·subst ey eH
  obtain⟨z,hd,vs,rel,dd⟩:=q25 I.hok e
  have hz:vs.length<=sizeLine:=by rw[←rel.length];exact z
  have hl:(putK kvs k v).length<=sizeLine:=by have:=qgy kvs k v;lia
  refine wpAny_setItem_pairs (hsz:=hz) (qoo ry) dd λh' dd' hs=>h _ ?_
  have he:∃q,h'.get? a=some q:=let ⟨q,_,_,hq,_⟩:=dd';⟨q,hq⟩
  exact qlp I (by rw[e];exact True.intro) hs he (qzx hl hd (rel.put k rv) dd')
 ·subst ey eH
  cases (show u=Value.ref b from ry)
  obtain⟨z,hd,xs,rel,dd⟩:=qzy I.hok e
  have hz:xs.length<=sizeLine:=by rw[←Paired.length rel];exact z
  have hl:(putK kvs k v).length<=sizeLine:=by have:=qgy kvs k v;lia
  refine wpAny_setItem_heap (hsz:=hz) (tupleKind_room_in1 hu) (qgr I.hok eb) dd λh' dd' hs=>h _ ?_
  obtain⟨q,es,ep,hq,h2,h3,h4,_,h5⟩:=dd'
  refine qlp I (by rw[e];exact True.intro) hs ⟨q,hq⟩ ⟨hl,hd,_,(rel.put k eb rv).keeps λc ys ec=>?_,q,es,ep,hq,h2,h3,h4,h5⟩
  rw[qal (q0m ec e (λz=>nomatch z))]
  exact ec
end
section
variable {X:Cx} {pins:List (Addr×Obj)} {σ:St} {H:Hp} {s:Shared} {a:Addr} {kvs:List (Key×V)} {k:Key} {u:Value} {A:Around} {E:Value->Shared->Prop}
end
def NoSl(i:Expr):Prop:=∀ov iv,subscripted i false ov iv=operate [ov,iv] (getItem ov iv)
theorem qy1{prog:Program}{w:World}{A:Around}{E:Value->Shared->Prop}{s:Shared}{env:Env}{value slice:Expr}{pos:Pos}{T id:String}{Q:Value->Shared->Prop}
  (hl:typeLookup (.type T) "__getitem__" = pure (some (.builtin id))) (hs:NoSl slice)
  (h:wpAny (model prog w) A (eval value env) (λo s₁=>wpAny (model prog w) A (eval slice env) (λi s₂=>s₂.TypeIs o T/\wpAny (model prog w) A (getItem o i) Q E s₂) E s₁) E s) :
  wpAny (model prog w) A (eval (.Subscript value slice pos) env) Q E s:=by
 refine Subscript_ (wpAny_mono h (λo s₁ h₁=>wpAny_mono h₁ (λi s₂ h₂=>?_) λ_ _ x=>x) λ_ _ x=>x)
 obtain⟨hT,h₂⟩:=h₂
 unfold subscriptTail
 refine wpAny_bind ?_
 rw[getitemInPython_of_ne hT.not_modules]
 refine wpAny_bind (wpAny_specialOf hT hl ?_)
 have fin:wpAny (model prog w) A (subscripted slice false o i) (λr s₃=>wpAny (model prog w) A (letTemporaryGo value o r >>= λ_=>pure r) Q E s₃) E s₂:=by
  rw[hs o i]
  exact wpAny_operating (wpAny_mono h₂ (λr s₃ h₃=>wpAny_bind (wpAny_letTemporaryGo (wpAny_pure h₃))) λ_ _ x=>x)
 first
 |exact wpAny_pure (wpAny_bind fin)
 |exact wpAny_bind (wpAny_pure (wpAny_bind fin))
 |exact wpAny_bind fin
theorem qlq{X:Cx}{pins:List (Addr×Obj)}{σ:St}{H:Hp}{s:Shared}{a:Addr}{y:V}{o:Option V}(I:Inv X pins σ H s)(g:DGet H a y o):s.TypeIs (.ref a) "dict" := by
 rcases g with ⟨kvs,k,e,_,_⟩|⟨kvs,k,b,e,_,_,_⟩
 ·obtain⟨_,_,vs,_,dd⟩:=qlr I.hok e
  exact dd.typeIs
 ·obtain⟨_,_,xs,_,dd⟩:=qkk I.hok e
  exact dd.typeIs
def q2b(td ty:TE):TE:=λσ H Q=>td σ H λx H1=>ty σ H1 λy H2=>∃a v,x=.ref a/\DGet H2 a y (some v)/\Q v H2
def tDIn(ty td:TE):TE:=λσ H Q=>ty σ H λy H1=>td σ H1 λx H2=>∃a o,x=.ref a/\DGet H2 a y o/\Q (.bl o.isSome) H2
def qmp(ty td:TE):TE:=λσ H Q=>ty σ H λy H1=>td σ H1 λx H2=>∃a o,x=.ref a/\DGet H2 a y o/\Q (.bl (!o.isSome)) H2
def q18(td ty tv:TE):TS:=λD σ H=>tv σ H λv H1=>td σ H1 λx H2=>ty σ H2 λy H3=>∃a H4,x=.ref a/\DPut H3 a y v H4/\D.nx σ H4
section
variable {X:Cx} {o i e value:Expr} {pos pos' tpos:Pos} {td ty tv:TE}
theorem qx0(hu:X.A.units+1<cLine)(ho:PE X o td)(hi:PE X i ty)(hs:NoSl i):PE X (.Subscript o i pos) (q2b td ty):=by
 intro pins s σ H Q I h
 refine qy1 PySem.F.slot_dict_getitem.lookup hs (thn (ho pins s σ H _ I h) λu s1 ⟨x,H1,I1,rx,q1⟩=>thn (hi pins s1 σ H1 _ I1 q1) λiv s2 ⟨y,H2,I2,ry,a,v,ex,g,q2⟩=>?_)
 subst ex
 obtain rfl:u=Value.ref a:=rx
 exact⟨qlq I2 g,qpw hu I2 g ry λw' s3 I3 rw'=>⟨v,H2,I3,rw',q2⟩⟩
theorem q0w(hu:X.A.units+1<cLine)(hi:PE X i ty)(ho:PE X o td):PC X .In i o (tDIn ty td):=by
 intro pins s σ H Q I h
 refine thn (hi pins s σ H _ I h) λiv s1 ⟨y,H1,I1,ry,q1⟩=>thn (ho pins s1 σ H1 _ I1 q1) λu s2 ⟨x,H2,I2,rx,a,ov,ex,g,q2⟩=>?_
 subst ex
 obtain rfl:u=Value.ref a:=rx
 exact d_in hu I2 g ry λs3 I3=>⟨.bl ov.isSome,H2,I3,rfl,q2⟩
theorem qks(hu:X.A.units+1<cLine)(hi:PE X i ty)(ho:PE X o td):PC X .NotIn i o (qmp ty td):=by
 intro pins s σ H Q I h
 refine thn (hi pins s σ H _ I h) λiv s1 ⟨y,H1,I1,ry,q1⟩=>thn (ho pins s1 σ H1 _ I1 q1) λu s2 ⟨x,H2,I2,rx,a,ov,ex,g,q2⟩=>?_
 subst ex
 obtain rfl:u=Value.ref a:=rx
 exact qwy hu I2 g ry λs3 I3=>⟨.bl (!ov.isSome),H2,I3,rfl,q2⟩
theorem qyb(hu:X.A.units+1<cLine)(ho:PE X o td)(hi:PE X i ty)(hv:PE X value tv)(hs:swapsWith value (some (.Subscript o i pos')) pos.line X.env=pure false) :
  PS X (.Assign [.Subscript o i pos'] value pos) (q18 td ty tv):=by
 intro pins s σ H D I h
 refine wpAny_Assign_Subscript (thn (hv pins s σ H _ I h) λr s1 ⟨v,H1,I1,rv,q1⟩=>thn (ho pins s1 σ H1 _ I1 q1) λu s2 ⟨x,H2,I2,rx,q2⟩=>thn (hi pins s2 σ H2 _ I2 q2) λiv s3 ⟨y,H3,I3,ry,a,H4,ex,g,q3⟩=>?_) hs
 subst ex
 obtain rfl:u=Value.ref a:=rx
 exact qpx hu I3 g ry rv λs4 I4=>⟨σ,H4,I4,q3⟩
end
theorem qnb{P:Program}{w:World}{H:Hp}(h:Heap)(hb:sysModules<h.objs.size):ObjOk P w H (h.push { cls:=.type "dict",data:=.dict #[] }) h.objs.size (.dT []) :=
 ⟨Nat.zero_le _,beq_eq_false_iff_ne.mpr (Ne.symm (Nat.ne_of_lt hb)),[],.nil,_,#[],0,Heap.get?_push_size _ rfl,⟨rfl,rfl,rfl⟩,rfl,rfl,List.nodup_nil⟩
def qwa:TE:=λ_ H Q=>∀p,H p=none->Q (.ref p) (upd H p (.dT []))
section
variable {X:Cx} {pos:Pos}
theorem qtr:PE X (.Dict [] [] pos) qwa:=λpins s σ H Q I h =>
 wpAny_Dict_empty ⟨.ref s.heap.objs.size,_,I.laid (a:=s.heap.objs.size) (o:=.dT []) (t':=s.toks) (λ_ _ q=>Heap.get?_push_of_some _ q) (Nat.le_refl _) (qnb s.heap I.big),rfl,h _ (I.hok.fresh (Nat.le_refl _))⟩
end
def qwc:List (TE×TE)->St->Hp->(List (V×V)->Hp->Prop)->Prop
|[],_,H,Q=>Q [] H
|(tk,tv)::r,σ,H,Q=>tk σ H λx H1=>tv σ H1 λy H2=>qwc r σ H2 λps H3=>Q ((x,y)::ps) H3
abbrev VV:List (V×V)->List (Value×Value)->Prop:=Paired λp q=>RelV p.1 q.1/\RelV p.2 q.2
def PPs(X:Cx)(pos:Pos)(keys:List (Option Expr))(values:List Expr)(trs:List (TE×TE)):Prop :=
 ∀(pins:List (Addr×Obj)) (s:Shared) (σ:St) (H:Hp) (Q:List (V×V)->Hp->Prop),Inv X pins σ H s->qwc trs σ H Q ->
  wpAny (model X.prog X.w) X.A (evalPairs (pairTrees keys values X.env pos)) (λvs s'=>∃ps H',Inv X pins σ H' s'/\VV ps vs/\Q ps H') X.xe s
theorem qya{X:Cx}{pos:Pos}:PPs X pos [] [] []:=λpins s σ H Q I h=>pairTrees_nil_walk ⟨[],H,I,.nil,h⟩
theorem qtx{X:Cx}{pos:Pos}{k v:Expr}{ks:List (Option Expr)}{vs:List Expr}{tk tv:TE}{trs:List (TE×TE)}(hk:PE X k tk)(hv:PE X v tv)(hr:PPs X pos ks vs trs) :
  PPs X pos (some k::ks) (v::vs) ((tk,tv)::trs):=λpins s σ H Q I h =>
 pairTrees_cons_walk (thn (hk pins s σ H _ I h) λu s1 ⟨x,H1,I1,rx,q1⟩=>thn (hv pins s1 σ H1 _ I1 q1) λw2 s2 ⟨y,H2,I2,ry,q2⟩ =>
  thn (hr pins s2 σ H2 _ I2 q2) λws s3 ⟨ps,H3,I3,rel,q3⟩=>⟨(x,y)::ps,H3,I3,.cons ⟨rx,ry⟩ rel,q3⟩)
structure M1(X:Cx)(o:Expr)(m:Str)(apos:Pos)(e:Expr)(cpos:Pos):Prop where
 base:attributeBase o m X.env (eval o X.env)=eval o X.env
 few:((backTo cpos (starEach [e] X.env)).all (λx=>!x.1)&&(backToKw cpos (keywordEach [] X.env)).all (λx=>x.1.isSome)
  && decide (([e]:List Expr).length+([]:List Keyword).length+(if ([]:List Keyword).isEmpty then 0 else 1)<30))=true
 line:(apos.endLine==cpos.line)=true
 trees:backTo cpos (starEach [e] X.env)=[(false,eval e X.env)]
structure M2(X:Cx)(o:Expr)(m:Str)(apos:Pos)(e f:Expr)(cpos:Pos):Prop where
 base:attributeBase o m X.env (eval o X.env)=eval o X.env
 few:((backTo cpos (starEach [e,f] X.env)).all (λx=>!x.1)&&(backToKw cpos (keywordEach [] X.env)).all (λx=>x.1.isSome)
  && decide (([e,f]:List Expr).length+([]:List Keyword).length+(if ([]:List Keyword).isEmpty then 0 else 1)<30))=true
 line:(apos.endLine==cpos.line)=true
 trees:backTo cpos (starEach [e,f] X.env)=[(false,eval e X.env),(false,eval f X.env)]
def IsD(H:Hp)(a:Addr):Prop:=(∃kvs,Rd H a (.dK kvs))\/∃kvs,Rd H a (.dT kvs)
theorem qz6{X:Cx}{pins:List (Addr×Obj)}{σ:St}{H:Hp}{s:Shared}{a:Addr}(I:Inv X pins σ H s)(d:IsD H a) :
  s.TypeIs (.ref a) "dict" /\ (∀b,Value.ref a=.ref b->∃ob,s.heap.get? b=some ob/\ob.dict=none)/\(a==sysModules)=false:=by
 rcases d with ⟨kvs,e⟩|⟨kvs,e⟩
 ·obtain⟨_,hd,vs,_,dd⟩:=qlr I.hok e
  refine⟨dd.typeIs,λb q=>?_,hd⟩
  cases q
  obtain⟨ob,_,_,h1,h2,_⟩:=dd
  exact⟨ob,h1,h2.2.1⟩
 ·obtain⟨_,hd,xs,_,dd⟩:=qkk I.hok e
  refine⟨dd.typeIs,λb q=>?_,hd⟩
  cases q
  obtain⟨ob,_,_,h1,h2,_⟩:=dd
  exact⟨ob,h1,h2.2.1⟩
section
variable {X:Cx} {pins:List (Addr×Obj)} {σ:St} {H:Hp} {s:Shared} {a:Addr} {y d:V} {u r:Value} {o:Option V} {A:Around} {E:Value->Shared->Prop}
theorem qzu{Q:Value->Shared->Prop}(hu:A.units+1<cLine)(I:Inv X pins σ H s)(g:DGet H a y o)(ry:RelV y u)(h:∀w' s',Inv X pins σ H s'->RelV (o.getD .non) w'->Q w' s') :
  wpAny (model X.prog X.w) A (call (.builtin "dict.get") [.ref a,u]) Q E s:=by
 rcases g with ⟨kvs,k,e,ey,l⟩|⟨kvs,k,b,e,ey,eb,l⟩
 ·subst ey
  obtain⟨z,hd,vs,rel,dd⟩:=qlr I.hok e
  refine call_meetsIn PySem.F.slot_dict_get dd.typeIs PySem.F.entry_dict_get (PySem.F.args_dict_get_2 _ _) (meets_dict_get (qbi X.prog X.w) a (qoo ry) hd) ⟨_,dd.mapOf,h _ _ (I.tok _) ?_⟩
  rw[l]
  exact(rel.val k).getD rfl
 ·subst ey
  cases (show u=Value.ref b from ry)
  obtain⟨z,hd,xs,rel,dd⟩:=qkk I.hok e
  refine call_meetsIn PySem.F.slot_dict_get dd.typeIs PySem.F.entry_dict_get (PySem.F.args_dict_get_2 _ _) (meetsH_dict_get (tupleKind (qbi X.prog X.w)) a b hd) ⟨tupleKind_room_in1 hu,k,xs,qgr I.hok eb,dd,h _ _ (I.tok _) ?_⟩
  rw[l]
  exact(rel.val k).getD rfl
end
def qv9(td ty:TE):TE:=λσ H Q=>td σ H λx H1=>∃a,x=.ref a/\IsD H1 a/\ty σ H1 λy H2=>∃o,DGet H2 a y o/\Q (o.getD .non) H2
section
variable {X:Cx} {o e f:Expr} {apos cpos:Pos} {td ty tx:TE}
theorem qtp(hu:X.A.units+1<cLine)(ho:PE X o td)(he:PE X e ty)(m:M1 X o "get" apos e cpos):PE X (.Call (.Attribute o "get" apos) [e] [] cpos) (qv9 td ty):=by
 intro pins s σ H Q I h
 refine wpAny_Call_method m.base m.few m.line PySem.F.plainAttrs_dict PySem.F.slot_dict_get PySem.F.type_dict_get (thn (ho pins s σ H _ I h) λu s1 ⟨x,H1,I1,rx,a,ex,d,q1⟩=>?_)
 subst ex
 obtain rfl:u=Value.ref a:=rx
 obtain⟨t1,t2,_⟩:=qz6 I1 d
 refine⟨t1,t2,?_⟩
 rw[m.trees]
 refine Calls.callWith_builtin rfl (Calls.evalArgs_plain (Calls.spliced_cons (thn (he pins s1 σ H1 _ I1 q1) λiv s2 ⟨y,H2,I2,ry,ov,g,q2⟩=>Calls.spliced_nil ?_)))
 exact qzu hu I2 g ry λw' s3 I3 rw'=>⟨_,H2,I3,rw',q2⟩
end
section
variable {X:Cx} {pins:List (Addr×Obj)} {σ:St} {H:Hp} {s:Shared} {a:Addr} {kvs:List (Key×V)} {A:Around} {E:Value->Shared->Prop}
end
section
variable {X:Cx} {pins:List (Addr×Obj)} {σ:St} {H:Hp} {s:Shared} {a:Addr} {y:V} {u:Value} {A:Around} {E:Value->Shared->Prop}
end
end L2
namespace Att
open PySem PySem.W PySem.Calls PyProof.Rows
theorem qgp{P:Params}{h:Heap}:∀(ns:List Int) (vs:List Value),WellAll P h vs (ns.map WData.int)->IntsAre vs ns:=by
 intro ns
 induction ns with
|nil =>
  intro vs w
  rw[List.map_nil] at w
  cases w
  exact .nil
|cons n ns ih =>
  intro vs w
  rw[List.map_cons] at w
  cases w with
 |cons a b =>
   cases a
   exact .cons _ _ (ih _ b)
theorem qr4{l:OpenLaw}{n:Nat}(hn:l.most=some n){P:Params}{h:Heap}{args:List WData}{vals:List Value}
  (hpre:l.row.toRowW.claim.pre args=true) (hwl:WellAll P h vals args) :
  ∃a vs ns,vals=[Value.ref a]/\args=[WData.list (ns.map WData.int)]/\h.get? a=some { cls:=.type "list",data:=.seq vs.toArray }/\IntsAre vs ns/\ns.length<=n:=by
 have hsh:WShape.hasAll [] args [.list .int]=true:=(pre_splitW hpre).1
 have hc:l.pre.holds [] { args:=args }=true:=(pre_splitW hpre).2
 obtain⟨d,r,rfl,h1,h2⟩:=hasAllW_cons hsh
 obtain rfl:=hasAllW_nil h2
 obtain⟨xs,rfl,h3⟩:=hasW_list h1
 obtain⟨ns,rfl⟩:=items_int h3
 have hlen:ns.length<=n:=by
  unfold OpenLaw.pre at hc
  have h4:(WTm.not (.lt (.lit (.int (n:Int))) (.len (.arg 0)))).holds [] { args:=[.list (ns.map .int)] }=true:=by
   have h4:=(holds_andW hc).1
   rw[hn] at h4
   exact h4
  have h5:=condW_of h4 (w_not (w_lt w_lit (w_len_list (w_arg rfl))))
  rw[List.length_map] at h5
  refine Nat.le_of_not_lt λq=>?_
  have q':(n:Int)<((ns.length:Nat):Int):=by lia
  first
  |(rw[decide_eq_true q'] at h5;exact absurd h5 (by decide))
  |(simp at h5;lia)
 cases hwl with
|cons w1 w2 =>
  cases w2
  cases w1 with
 |list ho hall=>exact⟨_,_,ns,rfl,rfl,ho,qgp ns _ hall,hlen⟩
theorem qrn(l:OpenLaw)(args:List WData):l.row.toRowW.claim.post args (.bool true) args=true :=
 postW_of (r:=l.row.toRowW) (X:=(true==true))
  (show WShape.has [] (.bool true) .bool=true by first|rfl|decide|simp[WShape.has,WShape.arms,WShape.armsAll])
  (show (WTm.eq .res (.lit (.bool true))).value [] { args:=args,res:=some (.bool true),after:=args }=some (.bool (true==true)) from w_eq_bool (w_res rfl) w_lit) rfl
theorem attach_call{l:OpenLaw}{n:Nat}{q:Program}{loose:List Str}{XP:(Str->Option Value)->Heap->Prop}{YP:World->Heap->Prop}{d:DefRec}
  (hn:l.most=some n) (hdf:d.params.defaults=[])
  (call:∀(w:World) (s₀ s₁:Shared) (mg mb:Str->Option Value) (fa:Addr) (o:Obj) (pm cd doc:Value) (a:Addr) (vs:List Value) (ns:List Int),
   Ground q loose [] XP w s₀ mg mb s₁.heap->YP w s₁.heap ->
   s₁.heap.get? fa=some o->o.data=.func (docDef d.name d.params d.body d.scope pm cd doc)->s₁.heap.CodeRec cd d.name->mg d.name=some (.ref fa) ->
   s₁.heap.get? a=some { cls:=.type "list",data:=.seq vs.toArray }->IntsAre vs ns->ns.length<=n->s₁.gens=#[] ->
   codeAny (model l.prog w) callerA (.call (.ref fa) ⟨[.ref a],[]⟩) (λr s'=>r=.ok (.ret (.bool true))/\OldK s₁.heap s'.heap/\s'.os=s₁.os/\AllBare s'.gens) s₁) :
  WalkO q loose XP YP l.row.toRowW d [] (λf vs=>PySem.call f vs):=by
 intro w s₀ s₁ mg mb G Y fa o pm cd doc dV kV ho hd hcd hD hmg hg args vals as hpre hlay hrd hwl hlo
 obtain rfl:dV=.none:=Dflts.none hD hdf
 obtain rfl:kV=.none:=Dflts.noKw hD
 obtain⟨a,vs,ns,rfl,rfl,hobj,hints,hlen⟩:=qr4 hn hpre hwl
 refine enter_call (codeAny_mono (call w s₀ s₁ mg mb fa o pm cd doc a vs ns G Y ho (fd_plain hd) hcd hmg hobj hints hlen hg) λr s' hq=>?_)
 obtain⟨rfl,h2,h3,h4⟩:=hq
 exact⟨.inl ⟨.bool true,.bool true,[],rfl,λ_=>rfl,.bool true,qrn l _,λ_=>⟨List.Pairwise.nil,λ_ hm=>(nomatch hm)⟩⟩,h2,h3,h4⟩
section
variable {prog:Program} {w:World} {A:Around} {E:Value->Shared->Prop} {s:Shared} {K:Frag}
end
end Att
namespace L2
open PySem PySem.Spec PyProof.Rows
theorem qk8:∀ {vs:List Value} {ns:List Int},IntsAre vs ns->Vals (ns.map V.int) vs
|_,_,.nil=>.nil
|_,_,.cons n t h=>.cons ⟨t,rfl⟩ (qk8 h)
def Only(H:Hp):Prop:=∀b,H b=none\/∃o xs,H b=some (.frz o (.lst xs))
theorem qs9{P:Program}{w:World}{K:PySem.W.Frag}{mg mb:Str->Option Value}{CX:CXT}{k:Nat}{fa a:Addr}{fd:FuncData}{x:Str}{sp:Sp}{s₁:Shared}{vs:List Value}{ns:List Int}
  (KX:K.In s₁.heap) (hns:s₁.heap.Ns mainGlobals mg) (hb:s₁.heap.Ns builtinsNs mb) (hbb:∀x:Str,x≠"__name__" -> mb x=bootBuiltins x) (hlim:s₁.heap.NoLimit) (hg:s₁.gens=#[])
  (ha:s₁.heap.get? a=some { cls:=.type "list",data:=.seq vs.toArray }) (hi:IntsAre vs ns) (hl:ns.length<=sizeLine) (hr:Room k callerA)
  (F:∀base:Heap,K.In base->base.Ns mainGlobals mg->FnOk P w K mg base CX k fa fd [x] sp) (hbind:∀(s:Shared) (u:Value),BindsTo s fd ⟨[u],[]⟩ [(x,u)])
  (hsp:∀H:Hp,Only H->SqL K H a (ns.map V.int)->sp [.ref a] H (λv _=>v=.bl true) λ_ _ _=>False)
  (hCX:∀H e s',CX [] H s₁ (λ_ _ _=>False) e s'->False) :
  codeAny (model P w) callerA (.call (.ref fa) ⟨[.ref a],[]⟩) (λr s'=>r=.ok (.ret (.bool true))/\OldK s₁.heap s'.heap/\s'.os=s₁.os/\AllBare s'.gens) s₁:=by
 have rv:=qk8 hi
 have lenV:=hi.length
 have core:∀H:Hp,Only H->SqL K H a (ns.map V.int)->HOk P w H s₁.heap->(∀b,H b≠none->b=a)->(H a≠none->K.lookup a=none) ->
   codeAny (model P w) callerA (.call (.ref fa) ⟨[.ref a],[]⟩) (λr s'=>r=.ok (.ret (.bool true))/\OldK s₁.heap s'.heap/\s'.os=s₁.os/\AllBare s'.gens) s₁:=by
  intro H hO hS hok hA hK
  have base_of:∀ {b:Addr} {o:Obj},s₁.heap.get? b=some o->H b=none->(hidT s₁.heap H).get? b=some o:=λe n=>qs2 e n
  have noA:∀ {b:Addr} {o:Obj} {es:Array DictEntry} {ep:Nat},s₁.heap.get? b=some o->o.data=.dict es ep->H b=none:=λ{b o es ep} e d=>by
   cases q:H b with
  |none=>rfl
  |some u =>
    have e':b=a:=hA b (by rw[q];simp)
    subst e'
    rw[ha] at e;cases e
    have d':Data.seq vs.toArray _=Data.dict es ep:=d
    cases d'
  have nsK:∀ {b:Addr} {m:Str->Option Value},s₁.heap.Ns b m->(hidT s₁.heap H).Ns b m:=λ{b m} ⟨o,es,ep,e,d,r⟩=>⟨o,es,ep,base_of e (noA e d),d,r⟩
  have hKb:K.In (hidT s₁.heap H):=λb o e=>base_of (KX b o e) (by
   cases q:H b with
  |none=>rfl
  |some u =>
    have e':b=a:=hA b (by rw[q];simp)
    subst e'
    rw[hK (by rw[q];simp)] at e;cases e)
  have hM:Mod K mg (hidT s₁.heap H):=⟨hKb,nsK hns,⟨mb,nsK hb,hbb⟩,let ⟨mc,h1,h2⟩:=hlim;⟨mc,nsK h1,h2⟩⟩
  have e0:Env0 P w K mg (hidT s₁.heap H) callerA [] s₁ H:=⟨rfl,hM,λb o e=>qxm e,Nat.le_of_eq (qql _ _),trivial,λb hb=>absurd (show b∈([]:List Addr) from hb) (by simp),hok,.of_eq hg⟩
  refine codeAny_mono ((F _ hKb (nsK hns)).run callerA [] s₁ H ⟨[.ref a],[]⟩ [.ref a] [.ref a] _ _ hr e0 (hbind s₁ (.ref a)) (.cons rfl .nil) (hsp H hO hS)) λr s' h=>?_
  cases r with
 |error e=>exact(hCX H e s' h).elim
 |ok fl =>
   cases fl with
  |next=>exact False.elim h
  |brk=>exact False.elim h
  |cont=>exact False.elim h
  |ret u =>
    obtain⟨v,H',os,bare,un,hok',r',q⟩:=h
    have q':v=.bl true:=q
    subst q'
    obtain rfl:u=Value.bool true:=r'
    refine⟨rfl,OldK.of_keep λb o e=>?_,os,bare⟩
    cases q:H b with
   |none=>exact un.keep b o e q (by intro z;exact absurd (show b∈([]:List Addr) from z) (by simp)) (by simp)
   |some u =>
     rcases hO b with z|⟨ob,xs,z⟩
     ·rw[q] at z;cases z
     ·have z2:=un.frzs b ob _ z
      obtain⟨e1,_⟩:=hok b _ z
      obtain⟨e2,_⟩:=hok' b _ z2
      rw[e] at e1;cases e1
      exact e2
 cases hk:K.lookup a with
|some o =>
  have e:=KX a o hk
  rw[ha] at e
  cases e
  refine core (λ_=>none) (λ_=>.inl rfl) (.inr ⟨_,vs.toArray,_,hk,rfl,rfl,rfl,by rw[List.size_toArray,lenV];exact hl,by simpa using rv⟩) (λb u z=>by have z':(none:Option HO)=some u:=z;cases z') (λb z=>absurd rfl z) λz=>absurd rfl z
|none =>
  refine core (λb=>if b=a then some (.frz { cls:=.type "list",data:=.seq vs.toArray } (.lst (ns.map V.int))) else none) (λb=>?_) (.inl (.inr ⟨{ cls:=.type "list",data:=.seq vs.toArray },if_pos rfl⟩)) (λb u z=>?_) (λb z=>?_) λ_=>hk
  ·by_cases hb:b=a
   ·exact .inr ⟨_,_,if_pos hb⟩
   ·exact .inl (if_neg hb)
  ·by_cases hb:b=a
   ·have z':=(if_pos hb).symm.trans z
    cases z'
    subst hb
    exact⟨ha,by rw[List.length_map];exact hl,vs,_,rv,ha⟩
   ·have z':=(if_neg hb).symm.trans z
    cases z'
  ·by_cases hb:b=a
   ·exact hb
   ·exact absurd (if_neg hb) z
end L2
namespace L2
open PySem PySem.Spec PyProof.Rows
theorem q31{l:PySem.W.OpenLaw}{n k:Nat}{q:Program}{loose:List Str}{XP:(Str->Option Value)->Heap->Prop}{YP:World->Heap->Prop}{d:DefRec}{K:Params->PySem.W.Frag}{CX:World->CXT}{sp:World->Sp}{x:Str}
  (hn:l.most=some n) (hn2:n<=sizeLine) (hdf:d.params.defaults=[]) (hr:Room k callerA)
  (hY:∀(w:World) (h:Heap),YP w h->(K w.params).In h)
  (F:∀(w:World) (mg:Str->Option Value) (fa:Addr) (h:Heap),(K w.params).In h->h.Ns mainGlobals mg->mg d.name=some (.ref fa) ->
   ∃fd:FuncData,(∀(s:Shared) (u:Value),BindsTo s fd ⟨[u],[]⟩ [(x,u)]) /\
    ∀base:Heap,(K w.params).In base->base.Ns mainGlobals mg->FnOk l.prog w (K w.params) mg base (CX w) k fa fd [x] (sp w))
  (hsp:∀(w:World) (H:Hp) (a:Addr) (ns:List Int),ns.length<=n->Only H->SqL (K w.params) H a (ns.map V.int)->sp w [.ref a] H (λv _=>v=.bl true) λ_ _ _=>False)
  (hCX:∀(w:World) (H:Hp) (s:Shared) (e:Value) (s':Shared),CX w [] H s (λ_ _ _=>False) e s'->False) :
  PySem.W.WalkO q loose XP YP l.row.toRowW d [] (λf vs=>PySem.call f vs):=by
 refine Att.attach_call hn hdf λw s₀ s₁ mg mb fa o pm cd doc a vs ns G Y ho hd hcd hmg hobj hints hlen hg=>?_
 have KX:=hY w _ Y
 obtain⟨fd,hb,hF⟩:=F w mg fa _ KX G.T.g hmg
 exact qs9 KX G.T.g G.T.b G.T.builtins G.T.nolimit hg hobj hints (Nat.le_trans hlen hn2) hr hF hb (λH hO hS=>hsp w H a ns hlen hO hS) λH e s'=>hCX w H s₁ e s'
end L2
namespace L2
open PySem PySem.Spec PyProof.Rows
def inClass(s:Stmt)(j:Nat):Stmt:=match s with
|.ClassDef _ _ _ body _ _ _ _ _ _ _=>body.getD j (.Pass ⟨0,0,0,0⟩)
|_=>.Pass ⟨0,0,0,0⟩
def qb8(s:Stmt):Arguments:=match s with
|.FunctionDef _ a _ _ _ _ _ _ _ _=>a
|_=>{ posonlyargs:=[],args:=[],vararg:=none,kwonlyargs:=[],kw_defaults:=[],kwarg:=none,defaults:=[] }
def qbl(s:Stmt):List Stmt:=match s with
|.FunctionDef _ _ b _ _ _ _ _ _ _=>b
|_=>[]
def qad(s:Stmt):Scope:=match s with
|.FunctionDef _ _ _ _ _ _ sc _ _ _=>sc
|_=>{ kind:=.function,names:=[],isGenerator:=false,isCoroutine:=false }
abbrev CX0:CXT:=λ_ _ _ _ _ _=>False
abbrev E0:XK:=λ_ _ _=>False
theorem qxv{X:Cx}:qhw CX0 X E0:=λ_ _ _ _ _ _ _ h=>h.elim
structure Fun(K:PySem.W.Frag)(x qual:Str)(st:Stmt)(f:Addr)(fd:FuncData):Prop where
 ex:∃(oc:Value) (od:Option Addr) (kV doc pm:Value) (an:Option Addr) (cdv ct:Value) (osl:Array (Option Value)),
  fd=PySem.W.fnOf x qual (qb8 st) (qbl st) (qad st) .none kV doc pm an cdv ct/\K.lookup f=some ⟨oc,od,.func fd,osl⟩/\PySem.W.codeIn K cdv qual=true
 kp:PySem.W.keepIn K (.ref f)=true
section
variable {P:Program} {w:World} {K:PySem.W.Frag} {mg:Str->Option Value} {base:Heap}
theorem Fun.ok{x qual:Str}{st:Stmt}{f:Addr}{fd:FuncData}{N ps:List Str}{k:Nat}{sp:Sp}(F:Fun K x qual st f fd)(S:FnScope N ps (qad st))(len:∀vs H Q E,sp vs H Q E->vs.length=ps.length)
  (hbody:∀(cdv:Value) (A:Around) (outer:List Env) (s:Shared) (H:Hp) (vs:List V) (Q:VK) (E:XK),Room k (A.deeper (envOfC qual (qad st) s.heap.objs.size f cdv))->sp vs H Q E ->
   ∃t,PSs (cxOf CX0 P w K mg base N qual (qad st) f cdv A outer s H E).nox (qbl st) t/\t { nx:=λ_ H'=>Q .non H',rt:=Q } (start N vs) H):FnOk P w K mg base CX0 (k+1) f fd ps sp:=by
 obtain⟨oc,od,kV,doc,pm,an,cdv,ct,osl,rfl,lk,hcd⟩:=F.ex
 refine qz2 lk hcd S len λA outer s H vs Q E hr hsp=>?_
 obtain⟨t,h,q⟩:=hbody cdv A outer s H vs Q E hr hsp
 exact⟨t,h.nox,q⟩
theorem Fun.binds{x qual:Str}{st:Stmt}{f:Addr}{fd:FuncData}{ps:List Str}(F:Fun K x qual st f fd)
  (h:∀(kV doc pm:Value) (an:Option Addr) (cdv ct:Value) (us:List Value),us.length=ps.length->bindArgs (PySem.W.fnOf x qual (qb8 st) (qbl st) (qad st) .none kV doc pm an cdv ct) ⟨us,[]⟩=pure (ps.zip us)):Binds K fd ps []:=by
 obtain⟨oc,od,kV,doc,pm,an,cdv,ct,osl,rfl,lk,hcd⟩:=F.ex
 exact .all (h kV doc pm an cdv ct)
theorem qni{x qual:Str}{st:Stmt}{f:Addr}{oc:Value}{od an:Option Addr}{osl:Array (Option Value)}{kV doc pm cdv ct:Value}(l:K.lookup f=some ⟨oc,od,.func (PySem.W.fnOf x qual (qb8 st) (qbl st) (qad st) .none kV doc pm an cdv ct),osl⟩)
  (c:PySem.W.codeIn K cdv qual=true) (k:PySem.W.keepIn K (.ref f)=true):Fun K x qual st f (PySem.W.fnOf x qual (qb8 st) (qbl st) (qad st) .none kV doc pm an cdv ct):=⟨⟨oc,od,kV,doc,pm,an,cdv,ct,osl,rfl,l,c⟩,k⟩
end
section
variable {X:Cx}
end
theorem iteF{A B:Prop}(h:B):if false=true then A else B:=by
 rw[if_neg Bool.false_ne_true]
 exact h
theorem iteT{A B:Prop}(h:A):if true=true then A else B:=by
 rw[if_pos rfl]
 exact h
def Same(H H':Hp):Prop:=∀b o,H b=some o->H' b=some o
theorem Same.refl(H:Hp):Same H H:=λ_ _ h=>h
theorem Same.trans{H H1 H2:Hp}(a:Same H H1)(b:Same H1 H2):Same H H2:=λc o h=>b c o (a c o h)
theorem Same.free{H H':Hp}(e:Same H H'){l:Addr}(h:H' l=Option.none):H l=Option.none:=by
 cases q:H l with
|none=>rfl
|some o =>
  rw[e l o q] at h
  cases h
theorem Same.seq{K:PySem.W.Frag}{H H':Hp}{a:Addr}{xs:List V}(e:Same H H')(h:SqL K H a xs):SqL K H' a xs:=by
 rcases h with (h|⟨o,h⟩)|h
 ·exact .inl (.inl (e _ _ h))
 ·exact .inl (.inr ⟨o,e _ _ h⟩)
 ·exact .inr h
end L2
namespace L2
open PySem PySem.Spec PyProof.Rows
theorem qax:1000<=sizeLine:=by decide
theorem qae{H:Hp}{l:Addr}(h:H l=none)(o:HO):Same H (upd H l o):=λb u e=>by
 rw[qal (qce e h)]
 exact e
theorem Same.put{H H':Hp}{p:Addr}{o:HO}(e:Same H H')(h:H p=none):Same H (upd H' p o):=λb u q=>by
 rw[qal (qce q h)]
 exact e b u q
theorem qew{α:Type}{xs:List α}{k:Int}(h0:0<=k)(h1:k<(xs.length:Int)):∃v,atI xs k=some v/\xs[k.toNat]?=some v:=by
 have hk:k.toNat<xs.length:=by lia
 have e:xs[k.toNat]?=some xs[k.toNat]:=List.getElem?_eq_getElem hk
 refine⟨xs[k.toNat],?_,e⟩
 have:=qwr e
 rw[Int.toNat_of_nonneg h0] at this
 exact this
theorem qhx{α β:Type}{f:α->β}{xs:List α}{k:Int}{v:α}(h:atI xs k=some v):atI (xs.map f) k=some (f v):=by
 unfold atI at h ⊢
 rw[List.length_map]
 cases e:ixN xs.length k with
|none =>
  rw[e] at h
  cases h
|some j =>
  rw[e] at h
  have h':xs[j]?=some v:=h
  show (xs.map f)[j]?=some (f v)
  rw[List.getElem?_map,h']
  rfl
def cutL{α:Type}(xs:List α)(lo hi:Option Int):List α:=(xs.drop (HT.sIx xs.length 0 lo)).take (HT.sIx xs.length xs.length hi-HT.sIx xs.length 0 lo)
theorem qim{α:Type}(f:α->V)(xs:List α)(lo hi:Option Int):cutV (xs.map f) lo hi=(cutL xs lo hi).map f:=by
 unfold cutV cutL
 rw[List.length_map,List.map_take,List.map_drop]
theorem qey{α:Type}(xs:List α):cutL xs none (some (-1))=xs.dropLast:=by
 unfold cutL
 rw[HT.sIx_none]
 show (xs.drop 0).take ((if (-1:Int)<0 then ((-1:Int)+(xs.length:Int)).toNat else min (-1:Int).toNat xs.length)-0)=xs.dropLast
 rw[if_pos (by decide),List.drop_zero,List.dropLast_eq_take]
 congr 1
 lia
theorem qez{α:Type}(xs:List α)(k:Nat):cutL xs none (some (k:Int))=xs.take k:=by
 unfold cutL
 rw[HT.sIx_none,HT.sIx_nat,List.drop_zero,Nat.sub_zero]
 by_cases h:k<=xs.length
 ·rw[Nat.min_eq_left h]
 ·rw[Nat.min_eq_right (by lia),List.take_length,List.take_of_length_le (by lia)]
def Its(z:Str):It:=⟨λi _=>i<z.cps.size,λi H x H'=>H'=H/\∃c,z.cps[i]?=some c/\x=.str ⟨#[c]⟩,λi _=>z.cps.size<=i⟩
theorem qpa{P:Program}{w:World}{K:PySem.W.Frag}{tg:Expr}(it:Addr)(z:Str)(t:Tok):Turn P w K tg (Its z) [it] it (λi h=>h.IsStrIter it "str_ascii_iterator" z t i) where
 mem:=by simp
 obj:=λi h st b hb=>by
  have e:b=it:=by simpa using hb
  subst e
  obtain⟨o,e,c,d⟩:=st
  exact⟨o,e,λv z=>by rw[d] at z;cases z⟩
 keep:=λi h h' st k=>by
  obtain⟨o,e,r⟩:=st
  exact⟨o,k it (by simp) o e,r⟩
 item:=by
  intro X hP hw hK hc i pins s σ H E I hf st hg
  subst hP hw hK
  obtain⟨f0,f1,f2,f3,f4,f5⟩:=hf it (by simp)
  have hx:z.cps[i]?=some z.cps[i]:=Array.getElem?_eq_getElem hg
  refine wpAny_pyNext_ascii_item st hx λh' st' sb=>?_
  have I1:Inv X pins σ H { s with heap:=h',toks:=s.toks+1 }:=I.turned (λb o hb e=>(sb.2 b hb).trans e) f0 f1 f3 f4 f5
  obtain⟨o,e,c,d⟩:=id st'
  exact⟨_,rfl,qqi (s:={ s with heap:=h',toks:=s.toks+1 }) e c d (by decide) ⟨.str ⟨#[z.cps[i]]⟩,H,I1,⟨_,rfl⟩,⟨rfl,_,hx,rfl⟩,st',λb hb=>(hf b hb).1⟩⟩
 done:=by
  intro X hP hw hK hc i pins s σ H E I hf st hg
  subst hP hw hK
  obtain⟨f0,f1,f2,f3,f4,f5⟩:=hf it (by simp)
  exact wpAny_pyNext_ascii_end (I.ok.hd hc) st (Array.getElem?_eq_none hg) λh' eb=>⟨rfl,I.turned (t':=s.toks) (λb o hb e=>eb b o hb e) f0 f1 f3 f4 f5⟩
 self:=λ_ _ _ _ _ st h=>wpAny_pyIter_striter_ascii st h
theorem qsc{P:Program}{w:World}{K:PySem.W.Frag}{tg:Expr}(it:Addr)(z:Str)(t:Tok):Turn P w K tg (Its z) [it] it (λi h=>h.IsStrIter it "str_iterator" z t i) where
 mem:=by simp
 obj:=λi h st b hb=>by
  have e:b=it:=by simpa using hb
  subst e
  obtain⟨o,e,c,d⟩:=st
  exact⟨o,e,λv z=>by rw[d] at z;cases z⟩
 keep:=λi h h' st k=>by
  obtain⟨o,e,r⟩:=st
  exact⟨o,k it (by simp) o e,r⟩
 item:=by
  intro X hP hw hK hc i pins s σ H E I hf st hg
  subst hP hw hK
  obtain⟨f0,f1,f2,f3,f4,f5⟩:=hf it (by simp)
  have hx:z.cps[i]?=some z.cps[i]:=Array.getElem?_eq_getElem hg
  refine wpAny_pyNext_wide_item st hx λh' st' sb=>?_
  have I1:Inv X pins σ H { s with heap:=h',toks:=s.toks+1 }:=I.turned (λb o hb e=>(sb.2 b hb).trans e) f0 f1 f3 f4 f5
  obtain⟨o,e,c,d⟩:=id st'
  exact⟨_,rfl,qqi (s:={ s with heap:=h',toks:=s.toks+1 }) e c d (by decide) ⟨.str ⟨#[z.cps[i]]⟩,H,I1,⟨_,rfl⟩,⟨rfl,_,hx,rfl⟩,st',λb hb=>(hf b hb).1⟩⟩
 done:=by
  intro X hP hw hK hc i pins s σ H E I hf st hg
  subst hP hw hK
  obtain⟨f0,f1,f2,f3,f4,f5⟩:=hf it (by simp)
  exact wpAny_pyNext_wide_end (I.ok.hd hc) st (Array.getElem?_eq_none hg) λh' eb=>⟨rfl,I.turned (t':=s.toks) (λb o hb e=>eb b o hb e) f0 f1 f3 f4 f5⟩
 self:=λ_ _ _ _ _ st h=>wpAny_pyIter_striter_wide st h
section
variable {X:Cx} {tg:Expr}
end
def qa2:Expr->Bool
|.Starred ..=>false
|_=>true
theorem qcl{e:Expr}{es:List Expr}{env:Env}(h:qa2 e=true):starEach (e::es) env=(false,eval e env)::starEach es env:=by
 cases e<;>first|rfl|(exact absurd h Bool.false_ne_true)
theorem qer{env:Env}:∀ {es:List Expr},es.all qa2=true->starEach es env=es.map λe=>(false,eval e env)
|[],_=>rfl
|e::es,h=>by
  rw[List.all_cons,Bool.and_eq_true] at h
  rw[qcl h.1,qer h.2,List.map_cons]
theorem qd4{es:List Expr}{env:Env}{pos:Pos}(h:es.all qa2=true):(backTo pos (starEach es env)).any (·.1)=false:=by
 rw[qer h]
 unfold backTo
 rw[List.map_map,List.any_eq_false]
 intro p hp
 obtain⟨e,_,rfl⟩:=List.mem_map.mp hp
 exact Bool.false_ne_true
theorem quo{es:List Expr}{env:Env}{pos:Pos}(h:es.all qa2=true):(backTo pos (starEach es env)).all (λx=>!x.1)=true:=by
 rw[qer h]
 unfold backTo
 rw[List.map_map,List.all_eq_true]
 intro p hp
 obtain⟨e,_,rfl⟩:=List.mem_map.mp hp
 rfl
section
variable {X:Cx} {x:Str} {p pos:Pos} {e:Expr} {es:List Expr} {te:TE} {t:TA} {id T:String} {r:List V->Hp->VK->Prop}
theorem pac(ha:PE X e te)(hr:PA X es t)(hs:qa2 e=true:=by rfl):PA X (e::es) (qcm te t):=qxu ha hr (qcl hs)
theorem all2{e:Expr}{es:List Expr}(h:(e::es).all qa2=true):qa2 e=true/\es.all qa2=true:=by
 rw[List.all_cons,Bool.and_eq_true] at h
 exact h
theorem pcb(hc:CallR X (.builtin id) r)(hg:Gl X x)(hm:X.mg x=none)(hv:bootBuiltins x=some (.builtin id))(ha:PA X (e::es) t)(hp:(e::es).all qa2=true:=by rfl)(hn:x≠"__name__" := by decide)(hdb:(x==("__debug__" : Str))=false:=by decide) :
  PE X (.Call (.Name x p) (e::es) [] pos) (tCB r t):=qto hc hg hm hv ha hn hdb (qcl (all2 hp).1) (qd4 (all2 hp).2)
theorem pct(hc:CallR X (.type T) r)(hg:Gl X x)(hm:X.mg x=none)(hv:bootBuiltins x=some (.type T))(ha:PA X (e::es) t)(hp:(e::es).all qa2=true:=by rfl)(hn:x≠"__name__" := by decide)(hdb:(x==("__debug__" : Str))=false:=by decide) :
  PE X (.Call (.Name x p) (e::es) [] pos) (tCB r t):=qrl hc hg hm hv ha hn hdb (qcl (all2 hp).1) (qd4 (all2 hp).2)
theorem pbm{o:Expr}{to:TE}{name:Str}{apos cpos:Pos}{r:V->List V->Hp->VK->Prop}(pa:PlainAttrs T)(slot:Slot T name id)(hty:typeOf (.builtin id)=pure (.type "method_descriptor"))(hm:MtR X id r)(ho:PE X o to)(ha:PA X (e::es) t)
  (hp:(e::es).all qa2=true:=by rfl) (hfew:decide ((e::es).length<30)=true:=by rfl) (hbase:attributeBase o name X.env (eval o X.env)=eval o X.env:=by rfl) (hline:(apos.endLine==cpos.line)=true:=by rfl) :
  PE X (.Call (.Attribute o name apos) (e::es) [] cpos) (tBM X.K T r to t):=by
 refine q3e pa slot hty hm ho ha hbase ?_ hline (qcl (all2 hp).1) (qd4 (all2 hp).2)
 rw[quo hp]
 exact hfew
theorem q3j{tg a:Expr}{ta:TA}(hg:Gl X "range")(hm:X.mg "range" = none)(ha:PA X [a] ta)(hp:qa2 a=true:=by rfl):PI X tg (.Call (.Name "range" p) [a] [] pos) (qom ta):=qrm hg hm ha (qcl hp)
end
inductive Cal(P:Program)(w:World)(K:PySem.W.Frag)(mg:Str->Option Value)(base:Heap)(k:Nat)(x:Str)(ps:List Str)(sp:Sp):Prop where
|mk {f:Addr} {fd:FuncData} (F:FnOk P w K mg base CX0 k f fd ps sp) (hm:mg x=some (.ref f)) (hk:PySem.W.keepIn K (.ref f)=true) (hb:Binds K fd ps [])
section
variable {X:Cx} {k:Nat} {ps:List Str} {sp:Sp} {x:Str} {p pos:Pos} {e:Expr} {es:List Expr} {t:TA}
theorem q0z(C:Cal X.prog X.w X.K X.mg X.base k x ps sp)(hr:Room k X.A)(hg:Gl X x)(ha:PA X (e::es) t)(hp:(e::es).all qa2=true:=by rfl)(hdb:(x==("__debug__" : Str))=false:=by decide):PE X (.Call (.Name x p) (e::es) [] pos) (qo9 sp [] E0 t):=by
 cases C with
|mk F hm hk hb=>exact qxy F hr hg hm hk hb .nil qxv ha hdb (qcl (all2 hp).1) (qd4 (all2 hp).2)
end
section
variable {X:Cx}
end
theorem qs8{K:PySem.W.Frag}{T:String}:PySem.W.kitOne K (.type T) (.type T)=some true:=by
 unfold PySem.W.kitOne
 rw[if_pos (by simp)]
section
variable {X:Cx}
abbrev glue(sep:Str)(ys:List Str):Str:=Txt.join sep ys
theorem part_of{v:Value}{o:Option Int}(p:IsPart v o):∃l:Option (Int×Tok),v=partValue l/\l.map (·.1)=o:=by
 cases p with
|none=>exact⟨none,rfl,rfl⟩
|int i t=>exact⟨some (i,t),rfl,rfl⟩
theorem sl_str:SlR X (λx lo hi H Q=>∃z,x=.str z/\z.length<=sizeLine/\Q (.str (Txt.slice z lo hi)) H):=by
 intro pins s σ H x v vl vu lo hi sl Q I rx hs pl pu h
 obtain⟨z,rfl,hz,q⟩:=h
 obtain⟨t,rfl⟩:=rx
 obtain⟨l,e1,e2⟩:=part_of pl
 obtain⟨u,e3,e4⟩:=part_of pu
 subst e1 e2 e3 e4
 refine⟨"str",_,F.slot_str_getitem.lookup,typeIs_str _ _ _,?_⟩
 refine wpAny_getItem_str_slice (l:=l) (u:=u) (st:=none) hs rfl ?_
 exact post_val_or_str ⟨Nat.le_trans (Txt.slice_le z _ _) hz,λt' k=>⟨.str (Txt.slice z (l.map (·.1)) (u.map (·.1))),H,I.tok k,⟨t',rfl⟩,q⟩⟩
end
end L2
namespace HT
open PySem PyProof.Rows
section
variable {prog:Program} {w:World} {A:Around} {E:Value->Shared->Prop} {s:Shared}
theorem getItem_tuple_whole{t sl:Addr}{items:Array Value}{vl vu:Value}{lo hi:Option Int}{Q:Value->Shared->Prop}(ht:IsTup s.heap t items)(hs:s.heap.IsSliceOf sl vl vu .none)(pl:IsPart vl lo)(pu:IsPart vu hi)
  (hw:sIx items.size 0 lo=0/\sIx items.size items.size hi=items.size) (h:Q (.ref t) s):wpAny (model prog w) A (getItem (.ref t) (.ref sl)) Q E s:=by
 obtain⟨os,hos,hcs,hds⟩:=id hs
 have hTs:s.TypeIs (.ref sl) "slice" := ⟨os,hos,hcs⟩
 unfold getItem
 try with_reducible refine wpAny_holding ?_
 first|refine wpAny_bind (wpAny_pure ?_)|skip
 refine wpAny_bind (wpAny_sequenceKey ht.typeIs (by decide) ?_)
 refine wpAny_bind (wpAny_callSpecial?_slot (name:=Str.ofString "__getitem__") ht.typeIs PyProof.Rows.slot_tuple_getitem
  (wpAny_call_entry PyProof.Rows.slot_tuple_getitem ht.typeIs entry_tuple_getitem ?_ (args_tuple_getitem _ _)))
 show wpAny _ _ (Builtin.Tuple.tupleItemsOf (.ref t) >>= _) _ _ s
 refine wpAny_bind (tupleItemsOf_ ht ?_)
 refine wpAny_bind (wpAny_typeOf hTs ?_)
 rw[if_pos (by decide)]
 refine wpAny_bind (qdn hs pl pu ?_)
 have hyes:(((sIx items.size 0 lo:Nat):Int)==0&&(1:Int)==1&&(sIx items.size items.size hi-sIx items.size 0 lo)==items.size)=true:=by
  rw[hw.1,hw.2]
  simp
 show wpAny _ _ (if (((sIx items.size 0 lo:Nat):Int)==0&&(1:Int)==1&&(sIx items.size items.size hi-sIx items.size 0 lo)==items.size)=true then _ else _) _ _ s
 rw[if_pos hyes]
 refine wpAny_bind (m:=Builtin.Tuple.tupleIsExact _) ?_
 unfold Builtin.Tuple.tupleIsExact
 refine wpAny_bind (wpAny_typeOf ht.typeIs (wpAny_pure ?_))
 rw[if_pos (by decide)]
 exact wpAny_bind (wpAny_rule (wpAny_pure ⟨_,rfl,wpAny_pure h⟩))
end
end HT
namespace L2
open PySem PySem.Spec PyProof.Rows
section
variable {X:Cx}
end
theorem qc1{env:Env}{x:Str}{k:NameKind}:∀ {names:List (Str×NameKind)},
  (names.map λ(n,k)=>if (k==NameKind.free&&env.scope.kind==.function&&env.kindOf n==some .cell) then (n,NameKind.cell) else (n,k)).lookup x=some k->names.lookup x=some k\/(names.lookup x=some .free/\k=.cell)
|[],h=>by simp at h
|(n,k0)::r,h=>by
  have ih:=@qc1 env x k r
  rw[List.map_cons] at h
  have h:List.lookup x ((if (k0==NameKind.free&&env.scope.kind==.function&&env.kindOf n==some .cell)=true then (n,NameKind.cell) else (n,k0))::_)=some k:=h
  by_cases hc:(k0==NameKind.free&&env.scope.kind==.function&&env.kindOf n==some .cell)=true
  ·rw[if_pos hc,List.lookup_cons] at h
   rw[List.lookup_cons]
   cases hx:x==n with
  |true =>
    rw[hx] at h
    have e:NameKind.cell=k:=Option.some.inj h
    subst e
    have e0:k0=.free:=by
     rw[Bool.and_eq_true,Bool.and_eq_true] at hc
     exact eq_of_beq hc.1.1
    subst e0
    exact .inr ⟨rfl,rfl⟩
  |false =>
    rw[hx] at h
    exact ih h
  ·rw[if_neg hc,List.lookup_cons] at h
   rw[List.lookup_cons]
   cases hx:x==n with
  |true =>
    rw[hx] at h
    exact .inl h
  |false =>
    rw[hx] at h
    exact ih h
theorem qcj{csc:Scope}{env:Env}{x:Str}{k:NameKind}(h:(relabel csc env).names.lookup x=some k):csc.names.lookup x=some k\/(csc.names.lookup x=some .free/\k=.cell):=qc1 h
theorem qoh{csc:Scope}{env:Env}(h:∀y∈csc.names,y.2=.free->∃c,env.cells.lookup y.1=some c) :
  ∃cl,closureFor csc env=pure cl/\(∀x c,cl.lookup x=some c->env.cells.lookup x=some c)/\∀y∈csc.names,y.2=.free->∃c,cl.lookup y.1=some c:=by
 have key:∀(body:Str×NameKind->List (Str×Addr)->Sem (ForInStep (List (Str×Addr)))),
   (∀n k acc,body (n,k) acc=if (k==.free)=true then (cellOf env n >>= λc=>pure (ForInStep.yield ((n,c)::acc))) else pure (ForInStep.yield acc)) ->
   ∀(l:List (Str×NameKind)) (acc:List (Str×Addr)),(∀y∈l,y.2=.free->∃c,env.cells.lookup y.1=some c)->(∀x c,acc.lookup x=some c->env.cells.lookup x=some c) ->
   ∃cl,(forIn l acc body:Sem (List (Str×Addr)))=pure cl/\(∀x c,cl.lookup x=some c->env.cells.lookup x=some c)/\(∀y∈l,y.2=.free->∃c,cl.lookup y.1=some c)/\∀x c,acc.lookup x=some c->∃c',cl.lookup x=some c':=by
  intro body hb l
  induction l with
 |nil =>
   intro acc _ ha
   exact⟨acc,rfl,ha,λy hy=>(nomatch hy),λx c e=>⟨c,e⟩⟩
 |cons p r ih =>
   intro acc hl ha
   obtain⟨n,k⟩:=p
   have hr:∀y∈r,y.2=.free->∃c,env.cells.lookup y.1=some c:=λy hy=>hl y (List.mem_cons_of_mem _ hy)
   by_cases hk:k=.free
   ·subst hk
    obtain⟨c,hc⟩:=hl (n,.free) List.mem_cons_self rfl
    have ha':∀x d,((n,c)::acc).lookup x=some d->env.cells.lookup x=some d:=λx d e=>by
     rw[List.lookup_cons] at e
     cases hx:x==n with
    |true =>
      rw[hx] at e
      have e1:c=d:=Option.some.inj e
      subst e1
      rw[eq_of_beq hx]
      exact hc
    |false =>
      rw[hx] at e
      exact ha x d e
    obtain⟨cl,e1,e2,e3,e4⟩:=ih ((n,c)::acc) hr ha'
    refine⟨cl,?_,e2,λy hy hf=>?_,λx d e=>?_⟩
    ·rw[List.forIn_cons,hb,if_pos (by rfl)]
     have ec:cellOf env n=pure c:=by
      unfold cellOf
      rw[hc]
     rw[ec]
     exact e1
    ·rcases List.mem_cons.mp hy with e|hy
     ·subst e
      exact e4 n c (by rw[List.lookup_cons,beq_self_eq_true])
     ·exact e3 y hy hf
    ·cases hx:x==n with
    |true=>exact e4 x c (by rw[List.lookup_cons,hx])
    |false=>exact e4 x d (by rw[List.lookup_cons,hx];exact e)
   ·obtain⟨cl,e1,e2,e3,e4⟩:=ih acc hr ha
    refine⟨cl,?_,e2,λy hy hf=>?_,e4⟩
    ·have hk':(k==NameKind.free)=false:=by simpa using hk
     rw[List.forIn_cons,hb,hk',if_neg Bool.false_ne_true]
     exact e1
    ·rcases List.mem_cons.mp hy with e|hy
     ·subst e
      exact absurd hf hk
     ·exact e3 y hy hf
 obtain⟨cl,e1,e2,e3,_⟩:=key (λp acc=>if (p.2==.free)=true then (cellOf env p.1 >>= λc=>pure (ForInStep.yield ((p.1,c)::acc))) else pure (ForInStep.yield acc)) (λn k acc=>rfl) csc.names [] h (λx c e=>by simp at e)
 refine⟨cl,?_,e2,e3⟩
 have e4:closureFor csc env=(forIn csc.names [] (λp acc=>if (p.2==.free)=true then (cellOf env p.1 >>= λc=>pure (ForInStep.yield ((p.1,c)::acc))) else pure (ForInStep.yield acc)) >>= λcs=>pure cs):=rfl
 rw[e4,e1]
 rfl
structure CompScope(sc:Scope)(N NB M:List Str)(csc:Scope):Prop where
 kind:csc.kind=.function
 nocell:∀y∈csc.names,y.2≠.cell
 locs:∀y∈csc.names,y.2=.local->csc.names.lookup y.1=some .local
 free:∀y∈csc.names,y.2=.free->sc.names.lookup y.1=some .cell\/sc.names.lookup y.1=some .free
 nd:NB.Nodup
 len:NB.length=N.length+M.length
 old:∀p∈N.zip NB,csc.names.lookup p.2≠some .local/\(csc.names.lookup p.2=none\/p.1=p.2)
theorem CompScope.at{sc:Scope}{N NB M:List Str}{csc:Scope}(S:CompScope sc N NB M csc){i:Nat}{x:Str}(e:NB[i]?=some x)(hi:i<N.length):csc.names.lookup x≠some .local/\(csc.names.lookup x≠none->N[i]?=some x):=by
 have e1:N[i]?=some N[i]:=List.getElem?_eq_getElem hi
 have hm:(N[i],x)∈N.zip NB:=by
  apply List.mem_of_getElem? (i:=i)
  rw[List.getElem?_zip_eq_some]
  exact⟨e1,e⟩
 obtain⟨h1,h2⟩:=S.old _ hm
 refine⟨h1,λhn=>?_⟩
 rcases h2 with h2|h2
 ·exact absurd h2 hn
 ·rw[e1]
  exact congrArg some h2
def cxC(X:Cx)(NB:List Str)(csc:Scope)(cl:List (Str×Addr))(C:Addr)(s₀:Shared)(H₀:Hp)(fp:List Addr)(pn:List (Addr×Obj)):Cx where
 prog:=X.prog
 w:=X.w
 K:=X.K
 mg:=X.mg
 base:=X.base
 A:=X.A
 N:=NB
 s₀:=s₀
 H₀:=H₀
 env:=compEnvC csc cl C X.env
 outer:=X.stack
 stack:=X.stack
 ex:=fp
 fn:=λ_=>false
 calm:=X.calm
 pn:=pn
 xe:=λ_ _=>False
section
variable {X:Cx} {pins:List (Addr×Obj)} {σ:St} {H₀:Hp} {s₀:Shared} {NB M:List Str} {csc:Scope} {cl:List (Str×Addr)} {fp:List Addr}
theorem qoi{h₁:Heap}{tk:Nat}{m:Str->Option Value}(S:CompScope X.env.scope X.N NB M csc)(I:Inv X pins σ H₀ s₀)(hf:∀b∈fp,FpOk X pins H₀ b)(hlt:∀b∈fp,b<s₀.heap.objs.size)
  (c1:∀x c,cl.lookup x=some c->X.env.cells.lookup x=some c) (c2:∀y∈csc.names,y.2=.free->∃c,cl.lookup y.1=some c)
  (hn:h₁.Ns s₀.heap.objs.size m) (hk:∀b o,s₀.heap.get? b=some o->h₁.get? b=some o) :
  Inv (cxC X NB csc cl s₀.heap.objs.size s₀ H₀ fp (X.pn++pins)) [] (σ++List.replicate M.length none) H₀ { s₀ with heap:=h₁,toks:=tk }:=by
 have kindB:∀x,((relabel csc X.env).names.lookup x=some .cell\/(relabel csc X.env).names.lookup x=some .free)->csc.names.lookup x=some .free:=λx hx=>by
  rcases hx with hx|hx
  ·rcases qcj hx with z|⟨z,_⟩
   ·exact absurd rfl (S.nocell _ (PySem.mem_of_lookup z))
   ·exact z
  ·rcases qcj hx with z|⟨z,_⟩
   ·exact z
   ·exact z
 have hasC:∀x,csc.names.lookup x=some .free->∃c,cl.lookup x=some c:=λx hx=>c2 (x,.free) (PySem.mem_of_lookup hx) rfl
 refine⟨⟨I.ok.mod,S.kind,I.ok.glob,I.ok.blt,Nat.le_refl _,λx y c h1 h2=>I.ok.inj x y c (c1 x c h1) (c1 y c h2),λx hx=>hasC x (kindB x hx),λx c h _=>absurd h Bool.false_ne_true,I.ok.hd,I.ok.frames,.inl rfl,
   λb hb=>⟨Nat.ne_of_lt (hlt b hb),λx c e=>(hf b hb).2.2.2.2.1 x c (c1 x c e)⟩,I.bs,Nat.le_trans I.ok.bsz I.sz,λb o e hb=>?_,λb hb z=>?_,I.stack,I.stkFree⟩,
  rfl,I.bare,Un.kept hk,⟨m,hn,λi x v e1 e2 e3=>?_⟩,λx c e=>?_,I.fresh,λx c e=>I.freeC x c (c1 x c e),λp hp=>?_,I.hok.kept hk,?_⟩
 ·rcases (hf b hb).2.2.2.1 with z|z
  ·exact I.ok.noex b o e z
  ·exact absurd (Nat.lt_of_lt_of_le (Heap.lt_size e) (Nat.le_trans I.ok.bsz z)) (Nat.lt_irrefl _)
 ·rcases List.mem_cons.mp (I.stkSub b z) with e|e
  ·exact(hf b hb).2.1 e
  ·exact(hf b hb).2.2.1 e
 ·have hlen:=I.len
  have hi:i<X.N.length:=by
   apply Classical.byContradiction
   intro hi
   rw[List.getElem?_append_right (by lia),List.getElem?_replicate] at e2
   split at e2<;>cases e2
  have e2':σ[i]?=some (some v):=by
   rw[List.getElem?_append_left (by lia)] at e2
   exact e2
  obtain⟨nl,hN⟩:=S.at e1 hi
  have hfree:csc.names.lookup x=some .free:=by
   rcases e3 with z|z
   ·rcases qcj (show (relabel csc X.env).names.lookup x=some .local from z) with q|⟨_,q⟩
    ·exact absurd q nl
    ·cases q
   ·exact kindB x z
  have hN':=hN (by rw[hfree];intro z;cases z)
  have ok:=S.free (x,.free) (PySem.mem_of_lookup hfree) rfl
  obtain⟨m',hn',hl⟩:=I.loc
  obtain⟨u,r,l⟩:=hl i x v hN' e2' (.inr ok)
  rcases l with ⟨k,_⟩|⟨_,c,hc,hcell⟩
  ·have k':X.env.scope.names.lookup x=some .local:=k
   rcases ok with z|z
   ·rw[show X.env.scope.names.lookup x=some .cell from z] at k'
    cases k'
   ·rw[show X.env.scope.names.lookup x=some .free from z] at k'
    cases k'
  ·obtain⟨c',hc'⟩:=hasC x hfree
   have ec:c'=c:=by
    have:=c1 x c' hc'
    rw[hc] at this
    exact(Option.some.inj this).symm
   subst ec
   obtain⟨o,ho,hd⟩:=hcell
   refine⟨u,r,.inr ⟨?_,c',hc',o,hk _ _ ho,hd⟩⟩
   rcases e3 with z|z
   ·rcases qcj (show (relabel csc X.env).names.lookup x=some .local from z) with q|⟨_,q⟩
    ·exact absurd q nl
    ·cases q
   ·exact z
 ·obtain⟨v,o,ho,hd⟩:=I.cell x c (c1 x c e)
  exact⟨v,o,hk _ _ ho,hd⟩
 ·have hp':p∈(X.pn++pins)++[]:=hp
  rw[List.append_nil] at hp'
  obtain⟨e,n,ne,nf,d⟩:=I.pin p hp'
  exact⟨hk _ _ e,n,Nat.ne_of_lt (Heap.lt_size e),λz=>(List.mem_cons.mp (I.stkSub _ z)).elim ne nf,d⟩
 ·rw[List.length_append,List.length_replicate,I.len]
  exact S.len.symm
theorem qm5{τ:St}{H:Hp}{s:Shared}{pins':List (Addr×Obj)}(I:Inv X pins σ H₀ s₀)(hf:∀b∈fp,FpOk X pins H₀ b)(B:Inv (cxC X NB csc cl s₀.heap.objs.size s₀ H₀ fp (X.pn++pins)) pins' τ H s) :
  Inv X pins σ H s/\FpOk X pins H s₀.heap.objs.size :=
 ⟨I.call' (ch:=fp) B.os B.base B.hok B.bare λb hb=>⟨(hf b hb).2.2.2.1,(hf b hb).2.1,(hf b hb).2.2.2.2.1,(hf b hb).2.2.2.2.2⟩,I.fpOk (Nat.le_refl _) B.free⟩
end
theorem qef{prog:Program}{w:World}{A:Around}{R:Result->Shared->Prop}{s:Shared}{elt target iter:Expr}{ifs:List Expr}{scope:Scope}{pos:Pos}{it acc:Value}{env:Env}(I:Nat->Shared->Prop)
  (turn:∀n s,I n s->wpAny (model prog w) A (pyNext it) (λr s₁=>match r with
  |none=>R (.ok .next) s₁
  |  some v=>wpAny (model prog w) A (letOwnedTupleGo target it v) (λ_ s₁'=>wpAny (model prog w) A (assign target env v) (λ_ s₂ =>
     wpAny (model prog w) A (forIn ifs true λc r=>if r=true then do let ok ←isTrue c env (eval c env);pure (ForInStep.yield ok) else pure (ForInStep.yield r)) (λok s₃ =>
      if ok=true then wpAny (model prog w) A (eval elt env) (λx s₄ =>
       wpAny (model prog w) A (call (.builtin "list.append") [acc,x]) (λ_ s₅=>∃m,m<n/\I m s₅) (notedBy (model prog w) A env λe s'=>R (.error e) s') s₄) (notedBy (model prog w) A env λe s'=>R (.error e) s') s₃
      else ∃m,m<n/\I m s₃) (notedBy (model prog w) A env λe s'=>R (.error e) s') s₂) (notedBy (model prog w) A env λe s'=>R (.error e) s') s₁') (notedBy (model prog w) A env λe s'=>R (.error e) s') s₁)
    (notedBy (model prog w) A env λe s'=>R (.error e) s') s)
  (n:Nat) (h:I n s):codeAny (model prog w) A (.compLoop (.ListComp elt [⟨target,iter,ifs,0⟩] scope pos) 0 it acc env) R s:=by
 refine codeAny_loop rfl I (λn s hI=>?_) n h
 show wpAny _ A ((compTurn (.ListComp elt [⟨target,iter,ifs,0⟩] scope pos) 0 it acc env).onRaise (λx=>do noteFrame x env;theTreesLotGoes x)) _ _ s
 refine wpAny_noted ?_
 rw[compTurn_list]
 refine wpAny_bind (wpAny_standAt (wpAny_bind (wpAny_mono (turn n s hI) (λr s₁ h₁=>?_) λ_ _ h'=>h')))
 cases r with
|none=>exact wpAny_pure h₁
|some v =>
  refine wpAny_bind (wpAny_mono h₁ (λ_ s₁' h₁'=>?_) λ_ _ h'=>h')
  refine wpAny_bind (wpAny_mono h₁' (λ_ s₂ h₂=>wpAny_bind (wpAny_mono h₂ (λok s₃ h₃=>?_) λ_ _ h'=>h')) λ_ _ h'=>h')
  cases ok with
 |false=>exact wpAny_pure ⟨rfl,h₃⟩
 |true =>
   exact wpAny_bind (wpAny_bind (wpAny_mono h₃ (λx s₄ h₄=>wpAny_bind (wpAny_mono h₄ (λ_ s₅ h₅=>wpAny_pure (wpAny_pure ⟨rfl,h₅⟩)) λ_ _ h'=>h')) λ_ _ h'=>h'))
abbrev TF:=St->Hp->(Hp->Prop)->(Hp->Prop)->Prop
def PF(X:Cx)(ifs:List Expr)(t:TF):Prop :=
 ∀(pins:List (Addr×Obj)) (s:Shared) (σ:St) (H:Hp) (Y N:Hp->Prop),Inv X pins σ H s->t σ H Y N ->
  wpAny (model X.prog X.w) X.A (forIn ifs true λc r=>if r=true then do let ok ←isTrue c X.env (eval c X.env);pure (ForInStep.yield ok) else pure (ForInStep.yield r)) (λb s'=>∃H',Inv X pins σ H' s'/\if b=true then Y H' else N H') X.xe s
def fNil:TF:=λ_ H Y _=>Y H
def fOne(tc:TT):TF:=λσ H Y N=>tc σ H λb H1=>if b=true then Y H1 else N H1
theorem qx6{X:Cx}:PF X [] fNil:=λ_ _ _ H _ _ I h=>wpAny_tests_nil ⟨H,I,iteT h⟩
theorem qx7{X:Cx}{c:Expr}{tc:TT}(hc:PT X c tc):PF X [c] (fOne tc):=λpins s σ H _ _ I h =>
 wpAny_tests_one (thn (hc pins s σ H _ I h) λ_ _ ⟨H1,I1,q⟩=>⟨H1,I1,q⟩)
def qk4(wi:TI)(g:TG)(ti:TF)(te:TE)(k:Nat):TE:=λσ H Q=>wi σ H λJ H1=>∀p,H1 p=none->∃W:Nat->Nat->St->List V->Hp->Prop,(∃m,W 0 m (σ++List.replicate k none) [] (upd H1 p (.lst [])))/\∀i m τ xs H,W i m τ xs H ->
 (J.stop i H/\Q (.ref p) H)\/(J.go i H/\∀x H',J.yld i H x H'->g x τ H' λτ2 H2=>ti τ2 H2 (λH3=>te τ2 H3 λv H4=>H4 p=some (.lst xs)/\xs.length<sizeLine/\∃m',m'<m/\W (i+1) m' τ2 (xs++[v]) (upd H4 p (.lst (xs++[v]))))
  (λH3=>∃m',m'<m/\W (i+1) m' τ2 xs H3))
def PCp(X:Cx)(e:Expr)(t:TE):Prop:=∃elt tg iter ifs csc pos,e=.ListComp elt [⟨tg,iter,ifs,0⟩] csc pos /\
 ∀(ppos:Pos) (use:Option (Value->Sem Unit)) (R:Value->Shared->Prop) (pins:List (Addr×Obj)) (s:Shared) (σ:St) (H:Hp) (Q:VK),Inv X pins σ H s->t σ H Q ->
  (∀(D C:Addr) (s':Shared) (H':Hp),Inv X pins σ H' s'->FpOk X pins H' C->(∃m,s'.heap.Ns C m)->Q (.ref D) H'->compPost (model X.prog X.w) X.A X.xe use R (.ref D) C (.ok .next) s') ->
  wpAny (model X.prog X.w) X.A (comprehension (.ListComp elt [⟨tg,iter,ifs,0⟩] csc pos) csc X.env ppos (newList []) false (eval iter X.env) use) R X.xe s
section
variable {X:Cx}
theorem qtn{tg iter elt:Expr}{ifs:List Expr}{csc:Scope}{pos:Pos}{NB M:List Str}{wi:TI}{g:TG}{ti:TF}{te:TE}{Z:Hp->Shared->Value->Shared->Prop}(hi:PI X tg iter wi)(hc:X.calm=true)(S:CompScope X.env.scope X.N NB M csc)
  (hg:∀cl C s₀ H₀ fp pn,PG (cxC X NB csc cl C s₀ H₀ fp pn) tg g) (hf:∀cl C s₀ H₀ fp pn,PF (cxC X NB csc cl C s₀ H₀ fp pn) ifs ti)
  (he:∀cl C s₀ H₀ fp pn E,(∀pins τ H s e s',Inv (cxC X NB csc cl C s₀ H₀ fp pn) pins τ H s->Z H s e s'->E e s')->PE ((cxC X NB csc cl C s₀ H₀ fp pn).wish E) elt te)
  (hz:∀pins σ H s e s' C use R D,Inv X pins σ H s->FpOk X pins H C->(∃m,s.heap.Ns C m)->Z H s e s'->notedBy (model X.prog X.w) X.A X.env (λe s'=>compPost (model X.prog X.w) X.A X.xe use R D C (.error e) s') e s')
  (hs:∀x,foldedSetIterable iter X.env x=pure x:=by intro _;rfl):PCp X (.ListComp elt [⟨tg,iter,ifs,0⟩] csc pos) (qk4 wi g ti te M.length):=by
 refine⟨elt,tg,iter,ifs,csc,pos,rfl,λppos use R pins s σ H Q I h fin=>?_⟩
 have hcell:∀y∈csc.names,y.2=.free->∃c,X.env.cells.lookup y.1=some c:=λy hy hfr=>I.ok.has y.1 (S.free y hy hfr)
 obtain⟨cl,hcl,c1,c2⟩:=qoh hcell
 refine wpAny_comprehension_free rfl hs hcl S.kind S.locs ?_
 refine thn (hi pins s σ H _ I h) λv s1 h1=>thn h1 λitv s2 h2=>?_
 obtain⟨it,fp,tn,J,H2,e,I2,T,st2,f2,h2⟩:=h2
 subst e
 have hlt2:∀b∈fp,b<s2.heap.objs.size:=λb hb=>let ⟨_,e,_⟩:=T.obj _ _ st2 b hb;Heap.lt_size e
 refine wpAny_newObj_type (wpAny_newFunctionEnv S.nocell (by intro y hy;simp at hy) (λh₁ hns₁ hsb₁=>?_) S.kind)
 dsimp only at hns₁ hsb₁ ⊢
 have I0:Inv X pins σ (upd H2 s2.heap.objs.size (.lst [])) { s2 with heap:=s2.heap.push { cls:=.type "list",dict:=none,data:=.seq ([]:List Value).toArray } }:=I2.lnew (its:=[]) (t':=s2.toks) .nil (Nat.zero_le _)
 generalize hs0:({ s2 with heap:=s2.heap.push { cls:=.type "list",dict:=none,data:=.seq ([]:List Value).toArray } }:Shared)=s₀ at I0
 have hh:s2.heap.push { cls:=.type "list",dict:=none,data:=.seq ([]:List Value).toArray }=s₀.heap:=by rw[←hs0]
 rw[hh] at hns₁ hsb₁ ⊢
 have hsz:s2.heap.objs.size<s₀.heap.objs.size:=by rw[←hh,Heap.size_push];exact Nat.lt_succ_self _
 have hDn:H2 s2.heap.objs.size=none:=I2.fresh
 have f0:∀b∈fp,FpOk X pins (upd H2 s2.heap.objs.size (.lst [])) b:=λb hb=>⟨by rw[qal (Nat.ne_of_lt (hlt2 b hb))];exact(f2 b hb).1,(f2 b hb).2⟩
 have hlt:∀b∈fp,b<s₀.heap.objs.size:=λb hb=>Nat.lt_trans (hlt2 b hb) hsz
 have hk:∀b o,s₀.heap.get? b=some o->h₁.get? b=some o:=λb o e=>hsb₁.extBut b o (Nat.ne_of_lt (Heap.lt_size e)) (Heap.get?_push_of_some _ e)
 have hk2:∀b o,s2.heap.get? b=some o->h₁.get? b=some o:=λb o e=>hk b o (by rw[←hh];exact Heap.get?_push_of_some _ e)
 have st1:tn 0 h₁:=T.keep _ _ _ st2 λb _ o e=>hk2 b o e
 obtain⟨W,⟨m0,w0⟩,turn⟩:=h2 s2.heap.objs.size hDn
 have loop:∀s₃:Shared,s₃={ s₀ with heap:=h₁,toks:=s2.toks+([]:List (Str×Value)).length } ->
   codeAny (model X.prog X.w) X.A (.compLoop (.ListComp elt [⟨tg,iter,ifs,0⟩] csc pos) 0 (.ref it) (.ref s2.heap.objs.size) (compEnvC csc cl s₀.heap.objs.size X.env))
    (compPost (model X.prog X.w) X.A X.xe use R (.ref s2.heap.objs.size) s₀.heap.objs.size) s₃:=by
  rintro s₃ rfl
  have B0:=qoi (cl:=cl) (tk:=s2.toks+([]:List (Str×Value)).length) S I0 f0 hlt c1 c2 hns₁ hk
  have fpB:∀ {H':Hp},(∀b∈fp,H' b=none)->∀b∈fp,FpOk (cxC X NB csc cl s₀.heap.objs.size s₀ (upd H2 s2.heap.objs.size (.lst [])) fp (X.pn++pins)) [] H' b:=λ{H'} hn b hb =>
   ⟨hn b hb,Nat.ne_of_lt (hlt b hb),B0.ok.exfs b hb,.inl hb,λx c e=>(f0 b hb).2.2.2.2.1 x c (c1 x c e),λp hp=>(f0 b hb).2.2.2.2.2 p (by
    have hp':p∈(X.pn++pins)++[]:=hp
    rw[List.append_nil] at hp'
    exact hp')⟩
  refine qef (λn s'=>∃i τ xs H',Inv (cxC X NB csc cl s₀.heap.objs.size s₀ (upd H2 s2.heap.objs.size (.lst [])) fp (X.pn++pins)) [] τ H' s'/\tn i s'.heap/\(∀b∈fp,H' b=none)/\W i n τ xs H') ?_ m0
   ⟨0,_,[],_,B0,st1,λb hb=>(f0 b hb).1,w0⟩
  rintro n s3 ⟨i,τ,xs,H3,I3,st3,fr3,w3⟩
  rcases turn i n τ xs H3 w3 with ⟨stop,q⟩|⟨go,step⟩
  ·refine thn (T.done (cxC X NB csc cl s₀.heap.objs.size s₀ (upd H2 s2.heap.objs.size (.lst [])) fp (X.pn++pins)) rfl rfl rfl hc i [] s3 τ H3 _ I3 (fpB fr3) st3 stop) λr s4 ⟨hr,I4⟩=>?_
   subst hr
   obtain⟨IX,fpC⟩:=qm5 I0 f0 I4
   exact fin _ _ s4 H3 IX fpC (let ⟨m,hn,_⟩:=I4.loc;⟨m,hn⟩) q
  ·refine thn (T.item (cxC X NB csc cl s₀.heap.objs.size s₀ (upd H2 s2.heap.objs.size (.lst [])) fp (X.pn++pins)) rfl rfl rfl hc i [] s3 τ H3 _ I3 (fpB fr3) st3 go) λr s4 ⟨u,hr,h4⟩=>?_
   subst hr
   refine thn h4 λ_ s5 ⟨x,H5,I5,r5,y5,st5,fr5⟩=>?_
   have I5':=I5.pinned (fpB fr5) (T.obj _ _ st5)
   refine wpAny_mono (hg _ _ _ _ _ _ _ s5 τ H5 x u _ I5' r5 (step x H5 y5)) (λ_ s6 ⟨τ6,H6,I6,q6⟩=>?_) λ_ _ z=>False.elim z
   refine wpAny_mono (hf _ _ _ _ _ _ _ s6 τ6 H6 _ _ I6 q6) (λb s7 ⟨H7,I7,q7⟩=>?_) λ_ _ z=>False.elim z
   have again:∀ {τ7:St} {H7:Hp} {s7:Shared} {ys:List V},Inv (cxC X NB csc cl s₀.heap.objs.size s₀ (upd H2 s2.heap.objs.size (.lst [])) fp (X.pn++pins)) ([]++qkt fp s5.heap) τ7 H7 s7->(∃m',m'<n/\W (i+1) m' τ7 ys H7) ->
     ∃m,m<n/\∃i τ xs H',Inv (cxC X NB csc cl s₀.heap.objs.size s₀ (upd H2 s2.heap.objs.size (.lst [])) fp (X.pn++pins)) [] τ H' s7/\tn i s7.heap/\(∀b∈fp,H' b=none)/\W i m τ xs H':=λ{τ7 H7 s7 ys} I7 w7=>by
    obtain⟨m',hm,w7⟩:=w7
    refine⟨m',hm,i+1,τ7,ys,H7,I7.unpinned,T.keep _ _ _ st5 λb hb o e=>(I7.pin (b,o) (List.mem_append_right _ (List.mem_append_right _ (qea hb e)))).1,λb hb=>?_,w7⟩
    obtain⟨o,e,d⟩:=T.obj _ _ st5 b hb
    exact(I7.pin (b,o) (List.mem_append_right _ (List.mem_append_right _ (qea hb e)))).2.1
   cases b with
  |false=>exact again I7 q7
  |true =>
    have q7':te τ6 H7 _:=q7
    have pass:∀pins' τ H s e s',Inv (cxC X NB csc cl s₀.heap.objs.size s₀ (upd H2 s2.heap.objs.size (.lst [])) fp (X.pn++pins)) pins' τ H s->Z H s e s'->notedBy (model X.prog X.w) X.A X.env (λe s'=>compPost (model X.prog X.w) X.A X.xe use R (.ref s2.heap.objs.size) s₀.heap.objs.size (.error e) s') e s':=λpins' τ H s e s' Ic z =>
     let ⟨IX,fpC⟩:=qm5 I0 f0 Ic
     hz pins σ H s e s' _ _ _ _ IX fpC (let ⟨m,hn,_⟩:=Ic.loc;⟨m,hn⟩) z
    refine wpAny_mono (he _ _ _ _ _ _ _ pass _ s7 τ6 H7 _ (I7.wish _) q7') (λy s8 ⟨v8,H8,I8,r8,hl8,hz8,w8⟩=>?_) λ_ _ z=>z
    replace I8:=I8.unwish
    refine wpAny_mono (qb5 (X:=(cxC X NB csc cl s₀.heap.objs.size s₀ (upd H2 s2.heap.objs.size (.lst [])) fp (X.pn++pins))) _ s8 τ6 H8 (.ref s2.heap.objs.size) [v8] (.ref s2.heap.objs.size) [y] (λ_ H9=>H9=upd H8 s2.heap.objs.size (.lst (xs++[v8]))) I8 rfl (.cons r8 .nil) ⟨_,xs,v8,rfl,rfl,hl8,hz8,rfl⟩) (λ_ s9 ⟨_,H9,I9,_,e9⟩=>?_) λ_ _ z=>False.elim z
    subst e9
    exact again I9 w8
 exact codeAny_compStart_list (loop _ (by rw[←hs0])) (T.self _ _ _ _ _ st1 (loop _ (by rw[←hs0])))
theorem qxw{tg iter elt:Expr}{ifs:List Expr}{csc:Scope}{pos:Pos}{NB M:List Str}{wi:TI}{g:TG}{ti:TF}{te:TE}(hi:PI X tg iter wi)(hc:X.calm=true)(S:CompScope X.env.scope X.N NB M csc)
  (hg:∀cl C s₀ H₀ fp pn,PG (cxC X NB csc cl C s₀ H₀ fp pn) tg g) (hf:∀cl C s₀ H₀ fp pn,PF (cxC X NB csc cl C s₀ H₀ fp pn) ifs ti) (he:∀cl C s₀ H₀ fp pn,PE (cxC X NB csc cl C s₀ H₀ fp pn) elt te)
  (hs:∀x,foldedSetIterable iter X.env x=pure x:=by intro _;rfl):PCp X (.ListComp elt [⟨tg,iter,ifs,0⟩] csc pos) (qk4 wi g ti te M.length) :=
 qtn (Z:=λ_ _ _ _=>False) hi hc S hg hf (λcl C s₀ H₀ fp pn E _ pins s σ H Q I h=>wpAny_mono (he cl C s₀ H₀ fp pn pins s σ H Q I.unwish h) (λv s' ⟨v',H',I',r⟩=>⟨v',H',I'.wish E,r⟩) λ_ _ z=>z.elim) (λ_ _ _ _ _ _ _ _ _ _ _ _ _ z=>z.elim) hs
theorem PCp.pe{e:Expr}{t:TE}(h:PCp X e t):PE X e t:=by
 obtain⟨elt,tg,iter,ifs,csc,pos,rfl,h⟩:=h
 intro pins s σ H Q I hw
 rw[eval_ListComp]
 refine h _ none (EP X pins σ Q) pins s σ H Q I hw λD C s' H' IX fpC ⟨m,hn⟩ q=>⟨m,hn,λh' hs=>?_⟩
 exact⟨.ref D,H',IX.turned (t':=s'.toks) (λb o hb e=>(hs.2 b hb).trans e) fpC.1 fpC.2.1 fpC.2.2.2.1 fpC.2.2.2.2.1 fpC.2.2.2.2.2,rfl,q⟩
theorem qyd{i:Nat}{x:Str}{e:Expr}{te:TE}{pos' pos:Pos}(hN:X.N.Nodup)(hi:X.N[i]?=some x)(hx:Loc X.env.scope x)(he:PCp X e te)(hsw:swapsWith e (some (.Name x pos')) pos.line X.env=pure true:=by rfl)
  (hf:X.fn x=true\/X.env.scope.names.lookup x=some .local:=by first|exact .inl rfl|exact .inr rfl|assumption):PS X (.Assign [.Name x pos'] e pos) (tAsg te (qb1 i)):=by
 obtain⟨elt,tg,iter,ifs,csc,cpos,rfl,h⟩:=he
 intro pins s σ H D I hw
 rw[exec_Assign_Name_used _ _ _ _ hsw]
 refine wpAny_bind (wpAny_standAt (wpAny_bind ?_))
 show wpAny _ X.A (do let _ ←comprehension (.ListComp elt [⟨tg,iter,ifs,0⟩] csc cpos) csc X.env _ (newList []) false (eval iter X.env) (some (assign (.Name x pos') X.env))) _ _ s
 refine wpAny_bind (wpAny_mono (h _ (some (assign (.Name x pos') X.env)) (λ_ s'=>SP X pins D .next s') pins s σ H _ I hw ?_) (λ_ s' hq=>wpAny_pure (wpAny_pure hq)) λ_ _ e=>e)
 intro Dl C s' H' IX fpC ⟨m,hn⟩ q
 show wpAny _ X.A (assign (.Name x pos') X.env (.ref Dl)) _ _ s'
 refine wpAny_assign_Name (qk2 IX hN hi hx (v:=.ref Dl) rfl (λs2 I2 ⟨a,sb,ha⟩=>?_) hf)
 have hne:C≠a:=by
  rcases ha with e|e
  ·rw[e]
   exact fpC.2.1
  ·exact Ne.symm (fpC.2.2.2.2.1 x a e)
 refine⟨m,hn.sameBut sb hne,λh' hs=>?_⟩
 exact⟨_,H',I2.turned (t':=s2.toks) (λb o hb e=>(hs.2 b hb).trans e) fpC.1 fpC.2.1 fpC.2.2.2.1 fpC.2.2.2.2.1 fpC.2.2.2.2.2,q⟩
end
end L2
namespace L2
open PySem PySem.Spec PyProof.Rows
structure QE(X:Cx)(e:Expr)(t:TE):Prop where
 u:PE X e t
structure QT(X:Cx)(e:Expr)(t:TT):Prop where
 u:PT X e t
structure QW(X:Cx)(e:Expr)(t:TT):Prop where
 u:PW X e t
structure QA(X:Cx)(es:List Expr)(t:TA):Prop where
 u:PA X es t
structure QS(X:Cx)(st:Stmt)(t:TS):Prop where
 u:PS X st t
structure QSs(X:Cx)(st:List Stmt)(t:TS):Prop where
 u:PSs X st t
structure QI(X:Cx)(tg iter:Expr)(t:TI):Prop where
 u:PI X tg iter t
structure QG(X:Cx)(tg:Expr)(t:TG):Prop where
 u:PG X tg t
structure QGs(X:Cx)(ts:List Expr)(t:TGs):Prop where
 u:PGs X ts t
structure QO(X:Cx)(e:Option Expr)(t:TO):Prop where
 u:PO X e t
structure QF(X:Cx)(ifs:List Expr)(t:TF):Prop where
 u:PF X ifs t
structure QC(X:Cx)(e:Expr)(t:TE):Prop where
 u:PCp X e t
section
variable {X:Cx} {st:Stmt} {rest:List Stmt} {t u:TS} {a b c e o i:Expr} {ta tb tc te to ti:TE} {es:List Expr} {tA:TA} {tT tU:TT} {pos pos' p p2 apos cpos:Pos} {x name:Str} {n:Nat}
theorem qcv:QSs X [] qhv:=⟨qye⟩
theorem qaw(h:QS X st t):QSs X [st] t:=⟨qyf h.u⟩
theorem qam(h:QS X st t)(r:QSs X rest u):QSs X (st::rest) (tSeq t u):=⟨qty h.u r.u⟩
theorem qdh(h:QE X e te)(hs:swapsWith e none pos.line X.env=pure false:=by rfl):QS X (.Expr e pos) (qjq te):=⟨qyc h.u hs⟩
theorem qck(h:QE X e te):QS X (.Return (some e) pos) (tRet te):=⟨q1h h.u⟩
theorem qf5{a b:List Stmt}(hc:QT X c tT)(ha:QSs X a t)(hb:QSs X b u):QS X (.If c a b pos) (tIfS tT t u):=⟨q3k hc.u ha.u hb.u⟩
theorem qc9{i:Nat}(hN:X.N.Nodup)(hi:X.N[i]?=some x)(hx:Loc X.env.scope x)(h:QE X e te)(hs:swapsWith e (some (.Name x pos')) pos.line X.env=pure false:=by rfl)
  (hf:X.fn x=true\/X.env.scope.names.lookup x=some .local:=by first|exact .inl rfl|exact .inr rfl|assumption):QS X (.Assign [.Name x pos'] e pos) (tAsg te (qb1 i)):=⟨q1i hN hi hx h.u hs hf⟩
theorem qrt{i:Nat}(hN:X.N.Nodup)(hi:X.N[i]?=some x)(hx:Loc X.env.scope x)(h:QC X e te)(hs:swapsWith e (some (.Name x pos')) pos.line X.env=pure true:=by rfl)
  (hf:X.fn x=true\/X.env.scope.names.lookup x=some .local:=by first|exact .inl rfl|exact .inr rfl|assumption):QS X (.Assign [.Name x pos'] e pos) (tAsg te (qb1 i)):=⟨qyd hN hi hx h.u hs hf⟩
theorem qkv{tg iter:Expr}{body:List Stmt}{wi:TI}{g:TG}(hp:PassesOwn (model X.prog X.w) X.A X.env X.xe)(hc:X.calm=true)(hi:QI X tg iter wi)(hg:QG X tg g)(hb:QSs X body t)
  (hs:∀x,foldedSetIterable iter X.env x=pure x:=by intro _;rfl):QS X (.For tg iter body [] pos) (tFor wi g t):=⟨q1e hp hc hi.u hg.u hb.u hs⟩
theorem qvt{k:Int}{j:Nat}:QE X (.Constant (.int k) j pos) (tC (.int k)):=⟨q02⟩
theorem qhu{k:Bool}{j:Nat}:QE X (.Constant (.bool k) j pos) (tC (.bl k)):=⟨q3d⟩
theorem qvu{j:Nat}:QE X (.Constant .none j pos) (tC .non):=⟨q04⟩
theorem qvw{z:Str}{j:Nat}:QE X (.Constant (.str z) j pos) (tC (.str z)):=⟨q07⟩
theorem qv(i:Nat)(hN:X.N[i]?=some x:=by rfl)(hv:Vis X.env.scope x:=by first|exact Or.inl rfl|exact Or.inr (Or.inl rfl)|exact Or.inr (Or.inr rfl))(hd:(x==("__debug__" : Str))=false:=by decide)
  (hcd:(x==("__classdict__" : Str))=false:=by decide):QE X (.Name x pos) (tVar i):=⟨q09 hN hv hd hcd⟩
theorem qmd{v:V}{w:Value}(hg:Gl X x)(hm:X.mg x=some w)(r:RelV v w)(hd:(x==("__debug__" : Str))=false:=by decide):QE X (.Name x pos) (tC v):=⟨qx1 hg hm r hd⟩
theorem qrq{v:V}{w:Value}(hg:Gl X x)(hm:X.mg x=none)(hv:bootBuiltins x=some w)(r:RelV v w)(hn:x≠"__name__" := by decide)(hd:(x==("__debug__" : Str))=false:=by decide):QE X (.Name x pos) (tC v):=⟨qxx hg hm hv r hn hd⟩
theorem q3o{op:Operator}{r:R2}(ho:OpR X (binaryOp op) r)(ha:QE X a ta)(hb:QE X b tb):QE X (.BinOp a op b pos) (tOp r ta tb):=⟨q3g ho ha.u hb.u⟩
theorem q3p{op:UnaryOp}{r:V->Hp->VK->Prop}(ho:UnR X (unaryOp op) r)(ha:QE X a ta):QE X (.UnaryOp op a pos) (tUn r ta):=⟨q3h ho ha.u⟩
theorem qyj{op:CmpOp}{r:R2}(ho:OpR X (compareOp op) r)(ha:QE X a ta)(hb:QE X b tb)(hm:behindInMarks op b=false):QE X (.Compare a [op] [b] pos) (tOp r ta tb):=⟨qxz ho ha.u hb.u hm⟩
theorem qvv{op:BoolOp}(h:QE X a ta):QE X (.BoolOp op [a] pos) ta:=⟨q06 h.u⟩
theorem qvs(ha:QE X a ta)(hb:QE X (.BoolOp .And (b::es) pos) tb):QE X (.BoolOp .And (a::b::es) pos) (qy4 ta tb):=⟨q0x ha.u hb.u⟩
theorem q1q(ha:QE X a ta):QE X (.UnaryOp .Not a pos) (q2d ta):=⟨q05 ha.u⟩
theorem qt2(hc:QT X c tT)(ha:QE X a ta)(hb:QE X b tb):QE X (.IfExp c a b pos) (tIf tT ta tb):=⟨qts hc.u ha.u hb.u⟩
theorem qvx{k:Nat}(h:QA X es tA):QE X (.Tuple es k pos) (tTup tA):=⟨q08 h.u⟩
theorem qg5(h:QA X es tA):QE X (.List es pos) (tLst tA):=⟨q03 h.u⟩
theorem qga{lo hi:Option Expr}{tl th:TO}{r:V->Option Int->Option Int->Hp->VK->Prop}(hr:SlR X r)(he:QE X e te)(hl:QO X lo tl)(hu:QO X hi th):QE X (.Subscript e (.Slice lo hi none p2) pos) (tSl r te tl th):=⟨qtu hr he.u hl.u hu.u⟩
theorem q1n{r:R2}(hr:IxR X r)(ha:QE X a ta)(hb:QE X b tb)(hs:qlg b):QE X (.Subscript a b pos) (tOp r ta tb):=⟨q3f hr ha.u hb.u hs⟩
theorem qi8:QO X none qjr:=⟨qx8⟩
theorem qi9(h:QE X e te):QO X (some e) (qup te):=⟨qx9 h.u⟩
theorem qaq:QA X [] tNil:=⟨q0v⟩
theorem qac(ha:QE X e te)(hr:QA X es tA)(hs:qa2 e=true:=by rfl):QA X (e::es) (qcm te tA):=⟨pac ha.u hr.u hs⟩
theorem qdm{k:Nat}{ps:List Str}{sp:Sp}(C:Cal X.prog X.w X.K X.mg X.base k x ps sp)(hr:Room k X.A)(hg:Gl X x)(ha:QA X (e::es) tA)(hp:(e::es).all qa2=true:=by rfl)(hdb:(x==("__debug__" : Str))=false:=by decide) :
  QE X (.Call (.Name x p) (e::es) [] pos) (qo9 sp [] E0 tA):=⟨q0z C hr hg ha.u hp hdb⟩
theorem qcb{id:String}{r:List V->Hp->VK->Prop}(hc:CallR X (.builtin id) r)(hg:Gl X x)(hm:X.mg x=none)(hv:bootBuiltins x=some (.builtin id))(ha:QA X (e::es) tA)(hp:(e::es).all qa2=true:=by rfl)(hn:x≠"__name__" := by decide)
  (hdb:(x==("__debug__" : Str))=false:=by decide):QE X (.Call (.Name x p) (e::es) [] pos) (tCB r tA):=⟨pcb hc hg hm hv ha.u hp hn hdb⟩
theorem qct{T:String}{r:List V->Hp->VK->Prop}(hc:CallR X (.type T) r)(hg:Gl X x)(hm:X.mg x=none)(hv:bootBuiltins x=some (.type T))(ha:QA X (e::es) tA)(hp:(e::es).all qa2=true:=by rfl)(hn:x≠"__name__" := by decide)
  (hdb:(x==("__debug__" : Str))=false:=by decide):QE X (.Call (.Name x p) (e::es) [] pos) (tCB r tA):=⟨pct hc hg hm hv ha.u hp hn hdb⟩
theorem qbm{T id:String}{r:V->List V->Hp->VK->Prop}(pa:PlainAttrs T)(slot:Slot T name id)(hty:typeOf (.builtin id)=pure (.type "method_descriptor"))(hm:MtR X id r)(ho:QE X o to)(ha:QA X (e::es) tA)(hp:(e::es).all qa2=true:=by rfl)
  (hfew:decide ((e::es).length<30)=true:=by rfl) (hbase:attributeBase o name X.env (eval o X.env)=eval o X.env:=by rfl) (hline:(apos.endLine==cpos.line)=true:=by rfl) :
  QE X (.Call (.Attribute o name apos) (e::es) [] cpos) (tBM X.K T r to tA):=⟨pbm pa slot hty hm ho.u ha.u hp hfew hbase hline⟩
theorem qbm0{T id:String}{r:V->List V->Hp->VK->Prop}(pa:PlainAttrs T)(slot:Slot T name id)(hty:typeOf (.builtin id)=pure (.type "method_descriptor"))(hm:MtR X id r)(ho:QE X o to)(hbase:attributeBase o name X.env (eval o X.env)=eval o X.env:=by rfl)
  (hline:(apos.endLine==cpos.line)=true:=by rfl):QE X (.Call (.Attribute o name apos) [] [] cpos) (tBM0 X.K T r to):=⟨q0y pa slot hty hm ho.u hbase hline⟩
theorem qja{op:CmpOp}{r:R2}(ho:OpR X (compareOp op) r)(ha:QE X a ta)(hb:QE X b tb)(hm:behindInMarks op b=false):QT X (.Compare a [op] [b] pos) (quq (tOp r ta tb)):=⟨qyg ho ha.u hb.u hm⟩
theorem qkw(h:QT X a tT):QT X (.UnaryOp .Not a pos) (tNot tT):=⟨q1j h.u⟩
theorem qkx(h:QE X e te)(he:∀whole,isTrue e X.env whole=(do let v ←whole;standAt e.pos;holding [v] (truthy v)):=by intro _;rfl):QT X e (tB te):=⟨q1k h.u he⟩
theorem qyo(h:QT X a tT):QW X (.BoolOp .And [a] pos) tT:=⟨qyi h.u⟩
theorem qvy(h:QT X a tT):QW X (.BoolOp .Or [a] pos) tT:=⟨q1m h.u⟩
theorem q1x(ha:QT X a tT)(hb:QW X (.BoolOp .And (b::es) pos) tU):QW X (.BoolOp .And (a::b::es) pos) (tAnd tT tU):=⟨q1l ha.u hb.u⟩
theorem q1y(ha:QT X a tT)(hb:QW X (.BoolOp .Or (b::es) pos) tU):QW X (.BoolOp .Or (a::b::es) pos) (tOr tT tU):=⟨q3m ha.u hb.u⟩
theorem qw_t(h:QW X e tT):QT X e tT:=⟨h.u.pt⟩
theorem qi6{tg:Expr}(h:QE X e te):QI X tg e (qlv X.K te):=⟨qx5 h.u⟩
theorem qt5{tg:Expr}(hg:Gl X "range")(hm:X.mg "range" = none)(ha:QA X [a] tA)(hp:qa2 a=true:=by rfl):QI X tg (.Call (.Name "range" p) [a] [] pos) (qom tA):=⟨q3j hg hm ha.u hp⟩
theorem qd1{i:Nat}(hN:X.N.Nodup)(hi:X.N[i]?=some x)(hx:Loc X.env.scope x)(hf:X.fn x=true\/X.env.scope.names.lookup x=some .local:=by first|exact .inl rfl|exact .inr rfl|assumption):QG X (.Name x pos) (qb1 i):=⟨qx3 hN hi hx hf⟩
theorem qyl:QGs X [] gNil:=⟨qx4⟩
theorem qt4{g:TG}{gs:TGs}(h1:QG X e g)(h2:QGs X es gs)(hs:(assignEach (e::es) X.env).map (·.2)=assign e X.env::(assignEach es X.env).map (·.2):=by rfl):QGs X (e::es) (qz3 g gs):=⟨qtv h1.u h2.u hs⟩
theorem q1r{k:Nat}{gs:TGs}{n:Nat}(hc:X.calm=true)(h:QGs X es gs)(hn:(assignEach es X.env).length=n:=by rfl)(hst:(assignEach es X.env).findIdx? (·.1)=none:=by rfl):QG X (.Tuple es k pos) (gTup X.K n gs):=⟨q1a hc h.u hn hst⟩
theorem qi7:QF X [] fNil:=⟨qx6⟩
theorem qym(h:QT X c tT):QF X [c] (fOne tT):=⟨qx7 h.u⟩
theorem qi5{tg iter elt:Expr}{ifs:List Expr}{csc:Scope}{NB M:List Str}{wi:TI}{g:TG}{ti:TF}(hi:QI X tg iter wi)(hc:X.calm=true)(S:CompScope X.env.scope X.N NB M csc)
  (hg:∀cl C s₀ H₀ fp pn,QG (cxC X NB csc cl C s₀ H₀ fp pn) tg g) (hf:∀cl C s₀ H₀ fp pn,QF (cxC X NB csc cl C s₀ H₀ fp pn) ifs ti) (he:∀cl C s₀ H₀ fp pn,QE (cxC X NB csc cl C s₀ H₀ fp pn) elt te)
  (hs:∀x,foldedSetIterable iter X.env x=pure x:=by intro _;rfl):QC X (.ListComp elt [⟨tg,iter,ifs,0⟩] csc pos) (qk4 wi g ti te M.length) :=
 ⟨qxw hi.u hc S (λcl C s₀ H₀ fp pn=>(hg cl C s₀ H₀ fp pn).u) (λcl C s₀ H₀ fp pn=>(hf cl C s₀ H₀ fp pn).u) (λcl C s₀ H₀ fp pn=>(he cl C s₀ H₀ fp pn).u) hs⟩
theorem qc_e(h:QC X e te):QE X e te:=⟨h.u.pe⟩
end
theorem Fun.okQ{P:Program}{w:World}{K:PySem.W.Frag}{mg:Str->Option Value}{base:Heap}{x qual:Str}{st:Stmt}{f:Addr}{fd:FuncData}{N ps:List Str}{k:Nat}{sp:Sp}(F:Fun K x qual st f fd)(S:FnScope N ps (qad st))(len:∀vs H Q E,sp vs H Q E->vs.length=ps.length)
  (hbody:∀(cdv:Value) (A:Around) (outer:List Env) (s:Shared) (H:Hp) (vs:List V) (Q:VK) (E:XK),Room k (A.deeper (envOfC qual (qad st) s.heap.objs.size f cdv))->sp vs H Q E ->
   ∃t,QSs (cxOf CX0 P w K mg base N qual (qad st) f cdv A outer s H E).nox (qbl st) t/\t { nx:=λ_ H'=>Q .non H',rt:=Q } (start N vs) H):FnOk P w K mg base CX0 (k+1) f fd ps sp :=
 F.ok S len λcdv A outer s H vs Q E hr hsp=>let ⟨t,h,q⟩:=hbody cdv A outer s H vs Q E hr hsp;⟨t,h.u,q⟩
end L2
namespace L2
open PySem PySem.Spec PyProof.Rows
def oddC:Value:=.ref 61
def Bare2(C:Value)(vs:Array Value):Prop:=C=oddC\/vs[2]?=some .none
theorem Bare2.set{C x:Value}{vs:Array Value}(h:Bare2 C vs):Bare2 C (vs.setIfInBounds 1 x):=h.imp id λq=>by rw[Array.getElem?_setIfInBounds_ne (by decide)];exact q
def FlR(h:Heap)(a:Addr)(C:Value):Prop:=∃oa vs,h.get? a=some oa/\(oa.cls=C/\oa.dict=none)/\oa.data=.fields vs/\vs[1]?=some .none/\Bare2 C vs
def FlT(h:Heap)(a:Addr)(C:Value)(T:Addr)(fl:Value):Prop :=
 ∃oa vs oT ts,h.get? a=some oa/\(oa.cls=C/\oa.dict=none)/\oa.data=.fields vs/\vs[1]?=some (.ref T)/\T≠a/\h.get? T=some oT/\oT.data=.fields ts/\ts[3]?=some fl/\Bare2 C vs
def Fly(h:Heap)(a:Addr)(C:Value):List Addr->Prop
|[]=>FlR h a C
|T::r=>r=[]/\∃fl,FlT h a C T fl
theorem qq9(o:Obj)(f:Array Value->Array Value):(o.mapFields f).dict=o.dict:=by
 cases o with|mk c d dt sl=>cases dt<;>rfl
structure Nk(fs ch:List Addr)(h g:Heap):Prop where
 keep:∀b o,b∉fs->b∉ch->h.get? b=some o->g.get? b=some o
 slot:∀b o,b∈fs->b∉ch->h.get? b=some o->∃sl,g.get? b=some { o with slots:=sl }
 there:∀b o,h.get? b=some o->∃u,g.get? b=some u
theorem FlT.thing{h:Heap}{a T:Addr}{C fl:Value}(f:FlT h a C T fl):∃oa,h.get? a=some oa/\(oa.cls=C/\oa.dict=none)/\PySem.W.notCls oa=true:=by
 obtain⟨oa,_,_,_,ha,hc,hd,_⟩:=f
 exact⟨oa,ha,hc,by unfold PySem.W.notCls;rw[hd]⟩
theorem FlT.there{h:Heap}{a T:Addr}{C fl:Value}(f:FlT h a C T fl):∃oa,h.get? a=some oa/\oa.cls=C:=by
 obtain⟨oa,ha,hc,_⟩:=f.thing
 exact⟨oa,ha,hc.1⟩
theorem qhi{h:Heap}{a b:Addr}{oa o:Obj}{vs:Array Value}{i:Nat}{x:Value}(ha:h.get? a=some oa)(hd:oa.data=.fields vs)(e:h.get? b=some o):∃u,(h.update a (Obj.mapFields (·.setIfInBounds i x))).get? b=some u:=by
 by_cases hb:b=a
 ·subst hb
  exact⟨_,Heap.get?_update_self _ ha (Obj.isFreed_of_fields (Obj.data_mapFields hd _))⟩
 ·exact⟨o,by rw[Heap.get?_update_other _ _ (Ne.symm hb)];exact e⟩
section
variable {M:Model} {A:Around} {E:Value->Shared->Prop} {s:Shared} {base:Heap} {env:Env} {outer:List Env} {L a T:Addr} {C:Value}
theorem qh6{oa:Obj}{vs:Array Value}{head:Value}{more:Bool}{Q:Unit->Shared->Prop}(hfr:A.frames=some (env::outer))(hl:s.heap.FunFrames base (env::outer))(hf:env.frame=some L)
  (ha:s.heap.get? a=some oa) (hdn:oa.dict=none) (hd:oa.data=.fields vs) (hz:1<vs.size) (hb2:Bare2 oa.cls vs) (k:∀g T,Nk (frs (env::outer)) [a] s.heap g->s.heap.objs.size<=T->FlT g a oa.cls T (rawInt L)->Q () { s with heap:=g }) :
  wpAny M A (do let fr ←frameOf env;let pl ←entryPlaceOf L more;let b ←EntryCells.newEntry head fr .none (rawInt L) .none pl;setField (.ref a) 1 b) Q E s:=by
 have nofr:a∉frs (env::outer):=λhm=>by
  obtain⟨_,o,ho,no⟩:=hl.mem hm
  rw[ha] at ho
  cases ho
  exact no vs hd
 refine wpAny_bind (wpAny_frameOf_fun hfr hl hf λg1 so=>wpAny_bind (wpAny_entryPlaceOf λpl ip=>?_))
 unfold EntryCells.newEntry newFields
 refine wpAny_bind (wpAny_newObj_type ?_ (ip.sizeOk5 _ _ _ _ _))
 have a1:g1.get? a=some oa:=(so.2.1 a nofr).trans ha
 have lt1:a<g1.objs.size:=Heap.lt_size a1
 refine wpAny_setField (Heap.get?_push_of_some _ a1) hd hz (k _ g1.objs.size ⟨λb o nb nc e=>?_,λb o mb nc e=>?_,λb o e=>?_⟩ (by rw[so.1];exact Nat.le_refl _) ?_)
 ·have hb:b≠a:=λz=>nc (by simp[z])
  rw[Heap.get?_update_other _ _ (Ne.symm hb)]
  exact Heap.get?_push_of_some _ ((so.2.1 b nb).trans e)
 ·have hb:b≠a:=λz=>nc (by simp[z])
  obtain⟨sl,q⟩:=so.2.2 b o e
  exact⟨sl,by rw[Heap.get?_update_other _ _ (Ne.symm hb)];exact Heap.get?_push_of_some _ q⟩
 ·obtain⟨sl,q⟩:=so.2.2 b o e
  exact qhi (Heap.get?_push_of_some _ a1) hd (Heap.get?_push_of_some _ q)
 ·have hne:g1.objs.size≠a:=Nat.ne_of_gt lt1
  refine⟨_,_,_,_,Heap.get?_update_self _ (Heap.get?_push_of_some _ a1) (Obj.isFreed_of_fields (Obj.data_mapFields hd _)),⟨Obj.cls_mapFields _ _,(qq9 _ _).trans hdn⟩,Obj.data_mapFields hd _,(by simp[hz]),hne,(Heap.get?_update_other _ _ (Ne.symm hne)).trans (Heap.get?_push_size g1 rfl),rfl,?_,hb2.set⟩
  first
  |(simp;done)
  |(rcases ip with rfl|⟨_,_,_,_,_,_,_,rfl⟩<;>simp)
theorem qtf{Q:Unit->Shared->Prop}(hfr:A.frames=some (env::outer))(hl:s.heap.FunFrames base (env::outer))(hf:env.frame=some L)(r:FlR s.heap a C)
  (k:∀g T,Nk (frs (env::outer)) [a] s.heap g->s.heap.objs.size<=T->FlT g a C T (rawInt L)->Q () { s with heap:=g }):wpAny M A (noteFrame (.ref a) env) Q E s:=by
 obtain⟨oa,vs,ha,⟨hc,hdn⟩,hd,h1,hb⟩:=r
 subst hc
 unfold noteFrame
 simp only[hf]
 refine wpAny_bind (wpAny_field ha hd h1 ?_)
 rw[if_neg (by decide)]
 exact qh6 hfr hl hf ha hdn hd (Array.getElem?_eq_some_iff.mp h1).1 hb k
theorem qxl{Q:Unit->Shared->Prop}(hfr:A.frames=some (env::outer))(hl:s.heap.FunFrames base (env::outer))(hf:env.frame=some L){fl:Value}(r:FlT s.heap a C T fl)(hne:¬ (fl==rawInt L)=true)
  (k:∀g U,Nk (frs (env::outer)) [a,T] s.heap g->s.heap.objs.size<=U->FlT g a C U (rawInt L)->Q () { s with heap:=g }):wpAny M A (noteFrame (.ref a) env) Q E s:=by
 obtain⟨oa,vs,oT,ts,ha,⟨hc,hdn⟩,hd,h1,ne,hT,hdT,h3,hb2⟩:=r
 subst hc
 unfold noteFrame
 simp only[hf]
 refine wpAny_bind (wpAny_field ha hd h1 ?_)
 rw[if_pos (show (Value.ref T != Value.none)=true by simp)]
 refine wpAny_bind (wpAny_field hT hdT h3 ?_)
 rw[if_neg hne]
 refine wpAny_bind (wpAny_setField hT hdT (Array.getElem?_eq_some_iff.mp h3).1 ?_)
 have oth:∀b,b≠T->(s.heap.update T (Obj.mapFields (·.setIfInBounds 3 Value.none))).get? b=s.heap.get? b:=λb hb=>Heap.get?_update_other _ _ (Ne.symm hb)
 have hl2:(s.heap.update T (Obj.mapFields (·.setIfInBounds 3 Value.none))).FunFrames base (env::outer):=hl.of_keeps λb o e no=>⟨o,(oth b λz=>by subst z;rw[hT] at e;cases e;exact no ts hdT).trans e,rfl⟩
 refine qh6 (s:={ s with heap:=s.heap.update T (Obj.mapFields (·.setIfInBounds 3 Value.none)) }) hfr hl2 hf ((oth a (Ne.symm ne)).trans ha) hdn hd (Array.getElem?_eq_some_iff.mp h1).1 hb2 λg U nk sz fl=>k g U ⟨λb o nb nc e=>?_,λb o mb nc e=>?_,λb o e=>?_⟩ ?_ fl
 ·have hb:b≠T:=λz=>nc (by simp[z])
  exact nk.keep b o nb (λz=>nc (by simp at z;simp[z])) ((oth b hb).trans e)
 ·have hb:b≠T:=λz=>nc (by simp[z])
  exact nk.slot b o mb (λz=>nc (by simp at z;simp[z])) ((oth b hb).trans e)
 ·obtain⟨u,q⟩:=qhi (i:=3) (x:=Value.none) hT hdT e
  exact nk.there b u q
 ·have e:(s.heap.update T (Obj.mapFields (·.setIfInBounds 3 Value.none))).objs.size=s.heap.objs.size:=Heap.size_after_update ..
  rw[←e]
  exact sz
theorem qem{fl:Value}{Q:Unit->Shared->Prop}(r:FlT s.heap a C T fl)(k:∀g,Nk [] [T] s.heap g->FlT g a C T .none->g.objs.size=s.heap.objs.size->Q () { s with heap:=g }):wpAny M A (setFlight (.ref a) none) Q E s:=by
 obtain⟨oa,vs,oT,ts,ha,hc,hd,h1,ne,hT,hdT,h3,hb2⟩:=r
 have h3z:=(Array.getElem?_eq_some_iff.mp h3).1
 have oth:∀b,b≠T->(s.heap.update T (Obj.mapFields (·.setIfInBounds 3 Value.none))).get? b=s.heap.get? b:=λb hb=>Heap.get?_update_other _ _ (Ne.symm hb)
 refine wpAny_setFlight_none ha hd h1 hT hdT h3z (k _ ⟨λb o _ nc e=>(oth b λz=>nc (by simp[z])).trans e,λb o mb _ _=>(nomatch mb),λb o e=>qhi hT hdT e⟩ ?_ (Heap.size_after_update ..))
 exact⟨oa,vs,_,_,(oth a (Ne.symm ne)).trans ha,hc,hd,h1,ne,Heap.get?_update_self _ hT (Obj.isFreed_of_fields (Obj.data_mapFields hdT _)),Obj.data_mapFields hdT _,by simp[h3z],hb2⟩
theorem qkm{ts:List Addr}{Q:Unit->Shared->Prop}(hfr:A.frames=some (env::outer))(hl:s.heap.FunFrames base (env::outer))(hf:env.frame=some L)(r:Fly s.heap a C ts)
  (k:∀g U,Nk (frs (env::outer)) (a::ts) s.heap g->(s.heap.objs.size<=U\/U∈ts)->FlT g a C U .none->Q () { s with heap:=g }) :
  wpAny M A (noteFrame (.ref a) env) (λ_ s2=>wpAny M A (setFlight (.ref a) none) Q E s2) E s:=by
 have fin:∀(ch:List Addr) (g:Heap) (U:Addr),(∀b∈ch,b∈a::ts)->Nk (frs (env::outer)) ch s.heap g->s.heap.objs.size<=U->FlT g a C U (rawInt L)->wpAny M A (setFlight (.ref a) none) Q E { s with heap:=g }:=λch g U sub nk sz fl=>by
  refine qem (s:={ s with heap:=g }) fl λg2 nk2 fl2 _=>k g2 U ⟨λb o nb nc e=>?_,λb o mb nc e=>?_,λb o e=>?_⟩ (.inl sz) fl2
  ·have hU:b≠U:=Nat.ne_of_lt (Nat.lt_of_lt_of_le (Heap.lt_size e) sz)
   exact nk2.keep b o (by simp) (by simpa using hU) (nk.keep b o nb (λz=>nc (sub b z)) e)
  ·have hU:b≠U:=Nat.ne_of_lt (Nat.lt_of_lt_of_le (Heap.lt_size e) sz)
   obtain⟨sl,q⟩:=nk.slot b o mb (λz=>nc (sub b z)) e
   exact⟨sl,nk2.keep b _ (by simp) (by simpa using hU) q⟩
  ·obtain⟨u,q⟩:=nk.there b o e
   exact nk2.there b u q
 cases ts with
|nil=>exact qtf hfr hl hf r λg U nk sz fl=>fin [a] g U (λb hb=>by simpa using hb) nk sz fl
|cons T r' =>
  obtain⟨hr,f0,r⟩:=r
  by_cases hne:(f0==rawInt L)=true
  ·have e0:f0=rawInt L:=eq_of_beq hne
   subst e0
   subst hr
   obtain⟨oa,vs,oT,tv,ha,hc,hd,h1,ne,hT,hdT,h3,hb2⟩:=r
   refine wpAny_noteFrame_inFlight hf ha hd h1 hT hdT h3 ?_
   exact qem ⟨oa,vs,oT,tv,ha,hc,hd,h1,ne,hT,hdT,h3,hb2⟩ λg nk fl _=>k g T ⟨λb o _ nc e=>nk.keep b o (by simp) (λz=>nc (by simp at z;simp[z])) e,λb o _ nc e=>⟨o.slots,nk.keep b o (by simp) (λz=>nc (by simp at z;simp[z])) e⟩,nk.there⟩ (.inr List.mem_cons_self) fl
  subst hr
  exact qxl hfr hl hf r hne λg U nk sz fl=>fin [a,T] g U (λb hb=>by simpa using hb) nk sz fl
end
section
variable {X:Cx} {pins:List (Addr×Obj)} {σ:St} {H:Hp} {s:Shared} {a:Addr} {ts:List Addr} {C:Addr}
def FpN(X:Cx)(pins:List (Addr×Obj))(H:Hp)(b:Addr):Prop :=
 H b=none/\b≠X.env.locals/\b∉X.fs/\X.s₀.heap.get? b=none/\(∀x c,X.env.cells.lookup x=some c->c≠b)/\∀p∈X.pn++pins,p.1≠b
theorem Inv.fpN{H':Hp}{b:Addr}(I:Inv X pins σ H s)(hx:X.ex=[])(hb:s.heap.get? b=none)(hn:H' b=none):FpN X pins H' b:=by
 have no:∀(d:Addr) (o:Obj),X.s₀.heap.get? d=some o->d≠b:=λd o e z=>by
  obtain⟨o',e'⟩:=I.base.there d o e (by rw[hx];exact λy=>nomatch y)
  rw[z,hb] at e'
  cases e'
 refine⟨hn,λz=>?_,λz=>?_,?_,λx c e z=>?_,λp hp z=>?_⟩
 ·obtain⟨m,⟨o,_,_,ho,_⟩,_⟩:=I.loc
  rw[←z,hb] at ho
  cases ho
 ·obtain⟨_,o,ho,_⟩:=I.ok.funs.mem z
  exact no b o ho rfl
 ·cases q:X.s₀.heap.get? b with
 |none=>rfl
 |some o=>exact absurd rfl (no b o q)
 ·obtain⟨v,o,ho,_⟩:=I.cell x c e
  rw[z,hb] at ho
  cases ho
 ·have e:=(I.pin p hp).1
  rw[z,hb] at e
  cases e
theorem Inv.exMore{ch:List Addr}(I:Inv X pins σ H s)(f:∀b∈ch,FpN X pins H b):Inv { X with ex:=ch++X.ex } pins σ H s:=by
 refine⟨⟨I.ok.mod,I.ok.kind,I.ok.glob,I.ok.blt,I.ok.above,I.ok.inj,I.ok.has,I.ok.cab,I.ok.hd,I.ok.frames,I.ok.stk,λb hb=>?_,I.ok.bs,I.ok.bsz,λb o e hb=>?_,λb hb=>?_,I.ok.funs,I.ok.frf⟩,I.os,I.bare,
  ⟨λb o e n h1 h2=>?_,λb o e n h1 h2=>?_,λb o e n h2=>?_,λb o e h2=>?_,I.base.tups,I.base.frzs,I.base.tbls⟩,I.loc,I.cell,I.free,I.freeC,I.pin,I.hok,I.len⟩
 ·rcases List.mem_append.mp hb with z|z
  ·exact⟨(f b z).2.1,(f b z).2.2.2.2.1⟩
  ·exact I.ok.exf b z
 ·rcases List.mem_append.mp hb with z|z
  ·have q:=(I.ok.bs b o e).1
   rw[(f b z).2.2.2.1] at q
   cases q
  ·exact I.ok.noex b o e z
 ·rcases List.mem_append.mp hb with z|z
  ·exact(f b z).2.2.1
  ·exact I.ok.exfs b z
 ·exact I.base.keep b o e n h1 λz=>h2 (List.mem_append.mpr (.inr z))
 ·exact I.base.slot b o e n h1 λz=>h2 (List.mem_append.mpr (.inr z))
 ·exact I.base.free b o e n λz=>h2 (List.mem_append.mpr (.inr z))
 ·exact I.base.there b o e λz=>h2 (List.mem_append.mpr (.inr z))
theorem Inv.exLess{ch:List Addr}(ok:X.Ok)(f:∀b∈ch,X.s₀.heap.get? b=none)(I:Inv { X with ex:=ch++X.ex } pins σ H s):Inv X pins σ H s:=by
 have no:∀(b:Addr) (o:Obj),X.s₀.heap.get? b=some o->b∉X.ex->b∉ch++X.ex:=λb o e hx z=>by
  rcases List.mem_append.mp z with z|z
  ·rw[f b z] at e
   cases e
  ·exact hx z
 exact⟨ok,I.os,I.bare,⟨λb o e n h1 h2=>I.base.keep b o e n h1 (no b o e h2),λb o e n h1 h2=>I.base.slot b o e n h1 (no b o e h2),λb o e n h2=>I.base.free b o e n (no b o e h2),λb o e h2=>I.base.there b o e (no b o e h2),I.base.tups,I.base.frzs,I.base.tbls⟩,
  I.loc,I.cell,I.free,I.freeC,I.pin,I.hok,I.len⟩
theorem Inv.noted{g:Heap}(I:Inv X pins σ H s)(fa:∀b∈a::ts,FpN X pins H b)(nk:Nk (frs X.stack) (a::ts) s.heap g):Inv X pins σ H { s with heap:=g }:=by
 have trk:∀c u,H c=some u->c∉frs X.stack/\c∉a::ts:=λc u e=>⟨λz=>(by rw[I.stkFree c z] at e;cases e),λz=>(by rw[(fa c z).1] at e;cases e)⟩
 have hok:HOk X.prog X.w H g:=λb u e=>(I.hok b u e).stay (λc v hc q=>by
  rcases hc with z|z
  ·rw[z] at q ⊢
   exact nk.keep b v (trk b u e).1 (trk b u e).2 q
  ·exact nk.keep c v (trk c _ z).1 (trk c _ z).2 q) (λ_ q=>q) λ_ _ q=>q
 have I1:=I.exMore fa
 refine Inv.exLess I.ok (λb hb=>(fa b hb).2.2.2.1) (I1.call (g':=s.gens) (t':=s.toks) (d':=s.drawn) (ch:=a::ts) ⟨λb o e _ hb hx=>nk.keep b o hb hx e,λb o e _ hb hx=>nk.slot b o hb hx e,λ_ _ _ n _=>n,λb o e _=>nk.there b o e,λ_ _ q=>q,λ_ _ _ q=>q,λ_ ps q=>⟨#[],by rw[q];simp⟩⟩ hok I.bare
  λb hb=>⟨.inl (List.mem_append.mpr (.inl hb)),(fa b hb).2.1,(fa b hb).2.2.2.2.1,(fa b hb).2.2.2.2.2⟩)
def FlyX(X:Cx)(pins:List (Addr×Obj))(H:Hp)(s:Shared)(a C:Addr):Prop:=∃ts,(∀b∈a::ts,FpN X pins H b)/\Fly s.heap a (.ref C) ts
def Out(X:Cx)(EX:St->XK):Prop:=∀(pins:List (Addr×Obj)) (σ:St) (H:Hp) (s:Shared) (a C:Addr),Inv X pins σ H s->FlyX X pins H s a C->EX σ (.ref C) none H->X.xe (.ref a) s
end
def CXR(P:Program)(w:World):CXT:=λouter H s E e s'=>∃a C H' T,e=.ref a/\s'.os=s.os/\AllBare s'.gens/\Un (frs outer) [] H H' s.heap s'.heap/\HOk P w H' s'.heap/\FlT s'.heap a (.ref C) T .none /\
 s.heap.get? a=none/\s.heap.get? T=none/\H' a=none/\H' T=none/\E (.ref C) none H'
theorem Out.pass{X:Cx}{EX:St->XK}(o:Out X EX)(hx:X.ex=[]){pins:List (Addr×Obj)}{σ:St}{H:Hp}{s s':Shared}{e:Value}(I:Inv X pins σ H s)(h:CXR X.prog X.w X.stack H s (EX σ) e s'):X.xe e s':=by
 obtain⟨a,C,H',T,rfl,ho,hg,u,hok,fl,sa,sT,na,nT,q⟩:=h
 have I2:Inv X pins σ H' s':=I.call' (ch:=[]) ho (u.mono (λ_ z=>z) λ_ z=>z) hok hg λb hb=>nomatch hb
 refine o pins σ H' s' a C I2 ⟨[T],λb hb=>?_,rfl,_,fl⟩ q
 rcases List.mem_cons.mp hb with z|z
 ·subst z
  exact I.fpN hx sa na
 ·have z':b=T:=by simpa using z
  subst z'
  exact I.fpN hx sT nT
section
variable {P:Program} {w:World} {K:PySem.W.Frag} {mg:Str->Option Value} {base:Heap}
theorem qxr{N:List Str}{qual:Str}{scope:Scope}{f:Addr}{cd:Value}{A:Around}{outer:List Env}{s:Shared}{H:Hp}{E:XK}:Out (cxOf (CXR P w) P w K mg base N qual scope f cd A outer s H E) λ_=>E:=by
 intro pins σ H' s' a C I fly e
 obtain⟨ts,fa,r⟩:=fly
 show wpAny (model P w) (A.deeper (envOfC qual scope s.heap.objs.size f cd)) (leaving (envOfC qual scope s.heap.objs.size f cd) (.ref a)) _ _ s'
 unfold leaving
 refine wpAny_bind (qkm (L:=s.heap.objs.size) I.ok.frames I.stack rfl r λg U nk sz fl=>?_)
 have I2:=I.noted fa nk
 have old:∀b,b∈a::ts->s.heap.get? b=none:=λb hb=>(fa b hb).2.2.2.1
 exact⟨a,C,H',U,rfl,I2.os,I2.bare,I2.base,I2.hok,fl,old a List.mem_cons_self,sz.elim (λsz=>Heap.get?_none_of_le (Nat.le_trans I.sz sz)) λm=>old U (List.mem_cons_of_mem _ m),(fa a List.mem_cons_self).1,sz.elim (λsz=>I.hok.fresh sz) λm=>(fa U (List.mem_cons_of_mem _ m)).1,e⟩
theorem Fun.okX{x qual:Str}{st:Stmt}{f:Addr}{fd:FuncData}{N ps:List Str}{k:Nat}{sp:Sp}(F:Fun K x qual st f fd)(S:FnScope N ps (qad st))(len:∀vs H Q E,sp vs H Q E->vs.length=ps.length)
  (hbody:∀(cdv:Value) (A:Around) (outer:List Env) (s:Shared) (H:Hp) (vs:List V) (Q:VK) (E:XK),Room k (A.deeper (envOfC qual (qad st) s.heap.objs.size f cdv))->sp vs H Q E ->
   Out (cxOf (CXR P w) P w K mg base N qual (qad st) f cdv A outer s H E) (λ_=>E) ->
   ∃t,QSs (cxOf (CXR P w) P w K mg base N qual (qad st) f cdv A outer s H E) (qbl st) t/\t { nx:=λ_ H'=>Q .non H',rt:=Q } (start N vs) H):FnOk P w K mg base (CXR P w) (k+1) f fd ps sp:=by
 obtain⟨oc,od,kV,doc,pm,an,cdv,ct,osl,rfl,lk,hcd⟩:=F.ex
 refine qz2 lk hcd S len λA outer s H vs Q E hr hsp=>?_
 obtain⟨t,h,q⟩:=hbody cdv A outer s H vs Q E hr hsp qxr
 exact⟨t,h.u,q⟩
end
inductive CalX(P:Program)(w:World)(K:PySem.W.Frag)(mg:Str->Option Value)(base:Heap)(k:Nat)(x:Str)(ps:List Str)(sp:Sp):Prop where
|mk {f:Addr} {fd:FuncData} (F:FnOk P w K mg base (CXR P w) k f fd ps sp) (hm:mg x=some (.ref f)) (hk:PySem.W.keepIn K (.ref f)=true) (hb:Binds K fd ps [])
section
variable {X:Cx} {k:Nat} {ps:List Str} {sp:Sp} {x:Str} {p pos:Pos} {e:Expr} {es:List Expr} {t:TA} {EX:St->XK}
theorem q3v{f:Addr}{fd:FuncData}{pins:List (Addr×Obj)}{σ:St}{H:Hp}{s:Shared}{Q:VK}{us:List Value}{vs:List V}(F:FnOk X.prog X.w X.K X.mg X.base (CXR X.prog X.w) k f fd ps sp)(hr:Room k X.A)(hb:Binds X.K fd ps [])(o:Out X EX)(hx:X.ex=[])
  (I:Inv X pins σ H s) (r:Vals vs us) (h:sp (vs++[]) H Q (EX σ)):wpAny (model X.prog X.w) X.A (call (.ref f) us) (EP X pins σ Q) X.xe s:=by
 have rr:Vals (vs++[]) (us++[]):=r.append .nil
 have ll:(us++[]).length=ps.length:=rr.length▸F.len _ _ _ _ h
 have run:=F.run X.A X.stack s H ⟨us,[]⟩ (us++[]) (vs++[]) Q (EX σ) hr I.env0 (hb s us I.kIn ll) rr h
 refine wpAny_call (codeAny_mono run fun
 |.error _,_,z=>o.pass hx I z
 |.ok (.ret _),_,z=>I.after z
 |.ok .next,_,z=>z.elim
 |.ok .brk,_,z=>z.elim
 |  .ok .cont,_,z=>z.elim)
end
abbrev bmV:List Value:=[.type "ValueError",.type "Exception",.type "BaseException",.type "object"]
abbrev OwnX(K:PySem.W.Frag)(C:Addr):Prop:=PySem.W.excIn K C bmV "ValueError.__new__" = true
theorem qrk{K:PySem.W.Frag}{h:Heap}{C:Addr}(X:K.In h)(q:OwnX K C):∃bm N nm qn bs hdct sn sub ab col dd k0 k1 k2 k3 k5 mN,
  h.get? C=some (excClassObj nm qn C N bs bm hdct sn sub ab col dd k0 k1 k2 k3 k5 "ValueError.__new__")/\h.Ns N mN/\mN "__init__" = none/\OwnTail h bmV bm:=by
 unfold OwnX PySem.W.excIn at q
 split at q
 ·rename_i dct cld slt look
  split at q
  ·rename_i C1 rest j0 j1 j2 j3 nw j5 em es
   simp only[Bool.and_eq_true,beq_iff_eq,Bool.not_eq_true'] at q
   obtain⟨⟨⟨⟨⟨c1,c2⟩,c3⟩,c4⟩,c5⟩,c6⟩:=q
   subst c1 c2
   cases cld with
  |mk nm bs mro ns qn hd sn sub ab col del =>
    obtain⟨l⟩:=slt
    dsimp only at em es c3 c5 c6
    subst em c3 es
    exact⟨rest,ns,nm,qn,bs,hd,sn,sub,ab,col,dct,j0,j1,j2,j3,j5,_,X _ _ look,.of_isNs (PySem.W.isNs_of_in X c5),PySem.W.nsMap_none_of_in X c5 c6,PySem.W.tail_of_in X c4⟩
  ·cases q
 ·cases q
theorem ObjOk.here{P:Program}{w:World}{H:Hp}{h:Heap}{a:Addr}{o:HO}(x:ObjOk P w H h a o):∃ob,h.get? a=some ob:=by
 cases o with
|lst xs=>obtain⟨_,_,_,_,e⟩:=x;exact⟨_,e⟩
|tup xs=>obtain⟨_,_,_,p⟩:=x;obtain⟨ob,e,_⟩:=p;exact⟨ob,e⟩
|dK kvs=>obtain⟨_,_,_,_,ob,_,_,e,_⟩:=x;exact⟨_,e⟩
|dT kvs=>obtain⟨_,_,_,_,ob,_,_,e,_⟩:=x;exact⟨_,e⟩
|set S n=>obtain⟨ob,_,_,_,e,_⟩:=x;exact⟨_,e⟩
|ins C dx fs=>obtain⟨_,_,_,e,_⟩:=x;exact⟨_,e⟩
|own y=>exact x
|xd fs=>obtain⟨_,⟨_,_,_,e,_⟩,_⟩:=x;exact⟨_,e⟩
|met f y=>exact⟨_,x⟩
|rng lo hi=>obtain⟨_,_,_,e⟩:=x;exact⟨_,e⟩
|frz ob u=>exact⟨_,x.1⟩
|tbl ps=>exact⟨_,x⟩
|ext φ=>exact x.2.1
section
variable {X:Cx} {pins:List (Addr×Obj)} {σ:St} {H:Hp} {s:Shared}
theorem Inv.grown{h':Heap}(I:Inv X pins σ H s)(k:∀b o,s.heap.get? b=some o->h'.get? b=some o):Inv X pins σ H { s with heap:=h' }:=by
 refine I.call (g':=s.gens) (t':=s.toks) (d':=s.drawn) (ch:=[]) ⟨λb o e _ _ _=>k b o e,λb o e _ _ _=>⟨o.slots,k b o e⟩,λ_ _ _ n _=>n,λb o e _=>⟨o,k b o e⟩,λ_ _ q=>q,λ_ _ _ q=>q,λ_ ps q=>⟨#[],by rw[q];simp⟩⟩
  (λb u e=>(I.hok b u e).stay (λc v _ q=>k c v q) (λ_ q=>q) λ_ _ q=>q) I.bare λb hb=>nomatch hb
def q2e(C:Addr)(EX:St->XK)(t:TA):TS:=λ_ σ H=>t σ H λvs H1=>vs.length<=sizeLine/\EX σ (.ref C) none H1
theorem qt6{x:Str}{C:Addr}{EX:St->XK}{np cpos pos:Pos}{e:Expr}{es:List Expr}{t:TA}(q:OwnX X.K C)(hm:X.mg x=some (.ref C))(hg:Gl X x)(hc:X.calm=true)(o:Out X EX)(ha:QA X (e::es) t)
  (hx:X.ex=[]:=by rfl) (hp:(e::es).all qa2=true:=by rfl) (hdb:(x==("__debug__" : Str))=false:=by decide) :
  QS X (.Raise (some (.Call (.Name x np) (e::es) [] cpos)) none pos) (q2e C EX t):=by
 refine⟨λpins s σ H D I h=>?_⟩
 obtain⟨bm,N,nm,qn,bs,hdct,sn,sub,ab,col,dd,k0,k1,k2,k3,k5,mN,hC,hN,hni,T⟩:=qrk I.ok.mod.kin q
 have st:starEach (e::es) X.env=(false,eval e X.env)::starEach es X.env:=qcl (all2 hp).1
 have pl:(backTo cpos (starEach es X.env)).any (·.1)=false:=qd4 (all2 hp).2
 refine wpAny_Raise_call_subU (C:=C) (nm:=nm) (q:=qn) (N:=N) (bs:=bs) (bm:=bm) (hdct:=hdct) (sn:=sn) (sub:=sub) (ab:=ab) (col:=col) (dd:=dd) (k0:=k0) (k1:=k1) (k2:=k2) (k3:=k3) (k5:=k5)
  PySem.F.excBase_ValueError (by decide) PySem.F.excBase_ValueError (mN:=mN) (T.hasType PySem.F.excBase_ValueError.hasBase) (I.ok.hd hc) (by rw[st];show (false||(backTo cpos (starEach es X.env)).any (·.1))=false;rw[pl];rfl) hni (qgu I hg hm ⟨rfl,?_⟩ hdb)
 have run:=ha.u cpos pins s σ H _ I h
 rw[st] at run ⊢
 refine Calls.evalArgs_plain (thn run λus s1 ⟨vs,H1,I1,r,hl,qx⟩=>⟨rfl,by rw[←r.length];exact hl,I1.bk _ _ hC,hN.keeps I1.bk,T.keeps I1.bk,λh' a made=>?_⟩)
 obtain⟨tt,h1,h2,h3⟩:=made.there
 have I2:=I1.grown made.keeps
 have na:H1 a=none:=by
  cases z:H1 a with
 |none=>rfl
 |some u =>
   obtain⟨ob,eo⟩:=(I1.hok a u z).here
   rw[made.new] at eo
   cases eo
 exact o pins σ H1 _ a C I2 ⟨[],λb hb=>by
  have e:b=a:=by simpa using hb
  subst e
  exact I1.fpN hx made.new na,⟨_,_,h1,⟨rfl,rfl⟩,rfl,rfl,.inr rfl⟩⟩ qx
end
abbrev Cx.tryB(X:Cx)(pn:List (Addr×Obj))(E:Value->Shared->Prop):Cx:={ X with pn:=pn,xe:=E }
abbrev Cx.hand(X:Cx)(e:Value)(pn:List (Addr×Obj))(E:Value->Shared->Prop):Cx:={ X with A:=X.A.mark (some e),calm:=false,pn:=pn,xe:=E }
section
variable {X:Cx} {pins pins':List (Addr×Obj)} {σ:St} {H:Hp} {s:Shared} {E:Value->Shared->Prop} {e:Value}
theorem Inv.tryB(I:Inv X pins σ H s):Inv (X.tryB (X.pn++pins) E) [] σ H s :=
 ⟨⟨I.ok.mod,I.ok.kind,I.ok.glob,I.ok.blt,I.ok.above,I.ok.inj,I.ok.has,I.ok.cab,I.ok.hd,I.ok.frames,I.ok.stk,I.ok.exf,I.ok.bs,I.ok.bsz,I.ok.noex,I.ok.exfs,I.ok.funs,I.ok.frf⟩,I.os,I.bare,I.base,I.loc,I.cell,I.free,I.freeC,
  λp hp=>I.pin p (by simpa using hp),I.hok,I.len⟩
theorem Inv.untryB(I:Inv (X.tryB (X.pn++pins) E) pins' σ H s):Inv X pins σ H s :=
 ⟨⟨I.ok.mod,I.ok.kind,I.ok.glob,I.ok.blt,I.ok.above,I.ok.inj,I.ok.has,I.ok.cab,I.ok.hd,I.ok.frames,I.ok.stk,I.ok.exf,I.ok.bs,I.ok.bsz,I.ok.noex,I.ok.exfs,I.ok.funs,I.ok.frf⟩,I.os,I.bare,I.base,I.loc,I.cell,I.free,I.freeC,
  λp hp=>I.pin p (List.mem_append.mpr (.inl hp)),I.hok,I.len⟩
theorem Inv.hand(I:Inv X pins σ H s):Inv (X.hand e (X.pn++pins) E) [] σ H s :=
 ⟨⟨I.ok.mod,I.ok.kind,I.ok.glob,I.ok.blt,I.ok.above,I.ok.inj,I.ok.has,I.ok.cab,(λz=>nomatch z),I.ok.frames,I.ok.stk,I.ok.exf,I.ok.bs,I.ok.bsz,I.ok.noex,I.ok.exfs,I.ok.funs,I.ok.frf⟩,I.os,I.bare,I.base,I.loc,I.cell,I.free,I.freeC,
  λp hp=>I.pin p (by simpa using hp),I.hok,I.len⟩
theorem Inv.unhand(ok:X.Ok)(I:Inv (X.hand e (X.pn++pins) E) pins' σ H s):Inv X pins σ H s :=
 ⟨ok,I.os,I.bare,I.base,I.loc,I.cell,I.free,I.freeC,λp hp=>I.pin p (List.mem_append.mpr (.inl hp)),I.hok,I.len⟩
theorem SP.untryB{D:Ends}{f:Flow}(h:SP (X.tryB (X.pn++pins) E) pins' D f s):SP X pins D f s:=by
 cases f with
|next=>obtain⟨_,_,I,q⟩:=h;exact⟨_,_,I.untryB,q⟩
|brk=>obtain⟨_,_,I,q⟩:=h;exact⟨_,_,I.untryB,q⟩
|cont=>obtain⟨_,_,I,q⟩:=h;exact⟨_,_,I.untryB,q⟩
|ret u=>obtain⟨_,_,_,I,r,q⟩:=h;exact⟨_,_,_,I.untryB,r,q⟩
theorem SP.unhand{D:Ends}{f:Flow}(ok:X.Ok)(h:SP (X.hand e (X.pn++pins) E) pins' D f s):SP X pins D f s:=by
 cases f with
|next=>obtain⟨_,_,I,q⟩:=h;exact⟨_,_,I.unhand ok,q⟩
|brk=>obtain⟨_,_,I,q⟩:=h;exact⟨_,_,I.unhand ok,q⟩
|cont=>obtain⟨_,_,I,q⟩:=h;exact⟨_,_,I.unhand ok,q⟩
|ret u=>obtain⟨_,_,_,I,r,q⟩:=h;exact⟨_,_,_,I.unhand ok,r,q⟩
end
abbrev TH:=Value->TS
def PH(X:Cx)(hs:List ExceptHandler)(th:TH):Prop :=
 ∀(pins:List (Addr×Obj)) (s:Shared) (σ:St) (H:Hp) (D:Ends) (a C U:Addr),Inv X pins σ H s->FlT s.heap a (.ref C) U .none->FpN X pins H a->FpN X pins H U->th (.ref C) D σ H ->
  wpAny (model X.prog X.w) X.A (handleBy (.ref a) X.env hs) (SP X pins D) X.xe s
structure QH(X:Cx)(hs:List ExceptHandler)(th:TH):Prop where
 u:PH X hs th
def q3y:TH:=λ_ _ _ _=>False
def tTry(tb:(St->XK)->TS)(th:TH):TS:=λD σ H=>tb (λσ' C _ H'=>th C D σ' H') D σ H
section
variable {X:Cx} {x:Str} {c:Value} {t:TS} {th:TH} {np pos:Pos} {b0:Stmt} {suite body:List Stmt} {rest:List ExceptHandler}
theorem q1s:QH X [] q3y:=⟨λ_ _ _ _ _ _ _ _ _ _ _ _ h=>h.elim⟩
theorem q1v{tb:(St->XK)->TS}{h0:ExceptHandler}(hb:∀pn E EX,PassesOwn (model X.prog X.w) X.A X.env E->Out (X.tryB pn E) EX->QSs (X.tryB pn E) body (tb EX))(hh:QH X (h0::rest) th)(hst:X.stack=X.env::X.outer:=by rfl)(hfr:X.env.frame=some X.env.locals:=by rfl)(hx:X.ex=[]:=by rfl) :
  QS X (.Try body (h0::rest) [] [] pos) (tTry tb th):=by
 refine⟨λpins s σ H D I h=>wpAny_Try_except ?_⟩
 refine wpAny_mono ((hb (X.pn++pins) _ _ PassesOwn.looking ?_).u [] s σ H D I.tryB h) (λf s2 z=>?_) λ_ _ z=>z
 ·intro pins1 σ1 H1 s1 a C I1 ⟨ts,fa,r⟩ q
  have I2:Inv X pins σ1 H1 s1:=I1.untryB
  have fa2:∀b∈a::ts,FpN X pins H1 b:=λb hb=>⟨(fa b hb).1,(fa b hb).2.1,(fa b hb).2.2.1,(fa b hb).2.2.2.1,(fa b hb).2.2.2.2.1,λp hp=>(fa b hb).2.2.2.2.2 p (List.mem_append.mpr (.inl hp))⟩
  refine qkm (L:=X.env.locals) (by rw[←hst];exact I2.ok.frames) (by rw[←hst];exact I2.stack) hfr r λg U nk sz fl=>?_
  rw[←hst] at nk
  have I3:=I2.noted fa2 nk
  refine hh.u pins _ σ1 H1 D a C U I3 fl (fa2 a List.mem_cons_self) ?_ q
  exact sz.elim (λsz=>I2.fpN hx (Heap.get?_none_of_le sz) (I2.hok.fresh sz)) λm=>fa2 U (List.mem_cons_of_mem _ m)
 ·cases f with
 |next=>exact wpAny_execs_nil z.untryB
 |brk=>exact z.untryB
 |cont=>exact z.untryB
 |ret u=>exact z.untryB
end
def wipe(σ:St):St:=List.replicate σ.length none
def Ends.wiped(D:Ends):Ends:={ nx:=λσ H=>D.nx (wipe σ) H,rt:=D.rt,bk:=λσ H=>D.bk (wipe σ) H,ct:=λσ H=>D.ct (wipe σ) H }
theorem qsu{σ:St}{j:Nat}{v:V}(e:(wipe σ)[j]?=some (some v)):False:=by
 unfold wipe at e
 obtain⟨h,e⟩:=List.getElem?_eq_some_iff.mp e
 rw[List.getElem_replicate] at e
 cases e
def excO(a C:Addr):HO:=.ext λh=>∃o,h.get? a=some o/\(o.cls=.ref C/\o.dict=none)/\PySem.W.notCls o=true
section
variable {X:Cx} {pins:List (Addr×Obj)} {σ:St} {H:Hp} {s:Shared} {a C:Addr}
theorem name_goes{M:Model}{A:Around}{E:Value->Shared->Prop}{n:Str}{pos:Pos}{Q:Unit->Shared->Prop}(I:Inv X pins σ H s)(hk:X.env.scope.names.lookup n=some .local)(h:∀s',Inv X pins (wipe σ) H s'->Q () s') :
  wpAny M A (do bindName X.env n .none;unbindBehindTheSuite X.env n pos) Q E s:=by
 obtain⟨m,hn,_⟩:=id I.loc
 obtain⟨oL,_,_,hoL,_⟩:=id hn
 refine wpAny_nameGoes hk hn (by rw[I.ok.kind];rfl) λh' m' hn' same=>h _ ?_
 have low:∀(b:Addr) (o:Obj),X.s₀.heap.get? b=some o->h'.get? b=s.heap.get? b:=λb o e=>same.2 b (Nat.ne_of_lt (Nat.lt_of_lt_of_le (Heap.lt_size e) I.ok.above))
 have hok:HOk X.prog X.w H h':=λb ob e=>by
  refine(I.hok b ob e).stay (λc u hc q=>(same.2 c λz=>?_).trans q) (λ_ q=>q) λ_ _ q=>q
  rw[z] at hc
  rcases hc with hc|hc
  ·rw[←hc,I.free] at e
   cases e
  ·rw[I.free] at hc
   cases hc
 refine⟨I.ok,I.os,I.bare,⟨λb o e n h1 h2=>(low b o e).trans (I.base.keep b o e n h1 h2),λb o e n h1 h2=>?_,I.base.free,λb o e h2=>?_,I.base.tups,I.base.frzs,I.base.tbls⟩,⟨m',hn',λj y v e1 e2 _=>(qsu e2).elim⟩,
  λx c e=>?_,I.free,I.freeC,λp hp=>?_,hok,?_⟩
 ·obtain⟨sl,z⟩:=I.base.slot b o e n h1 h2
  exact⟨sl,(low b o e).trans z⟩
 ·obtain⟨o',z⟩:=I.base.there b o e h2
  exact⟨o',(low b o e).trans z⟩
 ·obtain⟨v,z⟩:=I.cell x c e
  exact⟨v,z.sameBut same (I.cne x c e)⟩
 ·obtain⟨e,n,ne,nf,d⟩:=I.pin p hp
  exact⟨(same.2 p.1 ne).trans e,n,ne,nf,d⟩
 ·show (List.replicate σ.length none).length=_
  rw[List.length_replicate]
  exact I.len
theorem Inv.exc{o:Obj}(I:Inv X pins σ H s)(fa:FpN X pins H a)(e:s.heap.get? a=some o)(hc:o.cls=.ref C/\o.dict=none)(hd:PySem.W.notCls o=true):Inv X pins σ (upd H a (excO a C)) s:=by
 have fl:∀b∈[a],FpN X pins H b:=λb hb=>by
  have z:b=a:=by simpa using hb
  rw[z]
  exact fa
 have other:∀ {b:Addr} {u:HO},H b=some u->b≠a:=λ{b u} q z=>by rw[z,fa.1] at q;cases q
 have hok:HOk X.prog X.w (upd H a (excO a C)) s.heap:=λb u q=>by
  by_cases hb:b=a
  ·subst hb
   rw[qag] at q
   cases q
   exact⟨⟨o,e,hc,hd⟩,⟨o,e⟩,λh1 h2 ⟨o1,y1,y2⟩ k=>⟨o1,k o1 y1,y2⟩⟩
  ·rw[qal hb] at q
   exact(I.hok b u q).stay (λ_ _ _ z=>z) (λc z=>by rw[qal (other z)];exact z) λc xs z=>by rw[qal (other z)];exact z
 refine Inv.exLess I.ok (λb hb=>(fl b hb).2.2.2.1) ((I.exMore fl).call (g':=s.gens) (t':=s.toks) (d':=s.drawn) (h':=s.heap) (ch:=[a]) ⟨λb o e _ _ _=>e,λb o e _ _ _=>⟨o.slots,e⟩,λb o _ n hx=>?_,λb o e _=>⟨o,e⟩,λb xs q=>?_,λb ob xs q=>?_,λb ps q=>⟨#[],?_⟩⟩ hok I.bare
  λb hb=>⟨.inl (List.mem_append.mpr (.inl hb)),(fl b hb).2.1,(fl b hb).2.2.2.2.1,(fl b hb).2.2.2.2.2⟩)
 ·rw[qal (λz=>hx (by simp[z]))]
  exact n
 ·rw[qal (other q)]
  exact q
 ·rw[qal (other q)]
  exact q
 ·rw[qal (other q),q]
  simp
end
def thAs(K:PySem.W.Frag)(c:Value)(i:Nat)(t:TS)(th:TH):TH:=λC D σ H=>∃b,PySem.W.exmOne K C c=some b /\
 if b=true then ∀(a Ca:Addr),C=.ref Ca->H a=none->t D.wiped (σ.set i (some (.ref a))) (upd H a (excO a Ca)) else th C D σ H
theorem SP.wiped{X:Cx}{pins:List (Addr×Obj)}{D:Ends}{f:Flow}{s:Shared}{M:Model}{A:Around}{E:Value->Shared->Prop}{n:Str}{pos:Pos}(hk:X.env.scope.names.lookup n=some .local)(h:SP X pins D.wiped f s) :
  wpAny M A (do bindName X.env n .none;unbindBehindTheSuite X.env n pos) (λ_ s'=>SP X pins D f s') E s:=by
 cases f with
|next=>obtain⟨_,_,I,q⟩:=h;exact name_goes I hk λs' I'=>⟨_,_,I',q⟩
|brk=>obtain⟨_,_,I,q⟩:=h;exact name_goes I hk λs' I'=>⟨_,_,I',q⟩
|cont=>obtain⟨_,_,I,q⟩:=h;exact name_goes I hk λs' I'=>⟨_,_,I',q⟩
|ret u=>obtain⟨_,_,_,I,r,q⟩:=h;exact name_goes I hk λs' I'=>⟨_,_,_,I',r,q⟩
section
variable {X:Cx} {x n:Str} {i:Nat} {c:Value} {t:TS} {th:TH} {np pos:Pos} {b0:Stmt} {suite body:List Stmt} {rest:List ExceptHandler}
theorem q3q(hN:X.N.Nodup)(hi:X.N[i]?=some n)(hl:X.env.scope.names.lookup n=some .local)(hm:X.mg x=some c)(hg:Gl X x)(hs:∀e pn E,QSs (X.hand e pn E) (b0::suite) t)(hr:QH X rest th)(hdb:(x==("__debug__" : Str))=false:=by decide) :
  QH X (.ExceptHandler (some (.Name x np)) (some n) (b0::suite) pos::rest) (thAs X.K c i t th):=by
 refine⟨λpins s σ H D a C U I fl fa fu ⟨b,hx,q⟩=>?_⟩
 obtain⟨oa,ha,hc⟩:=fl.there
 have IH:∀E,Inv (X.hand (.ref a) (X.pn++pins) E) [] σ H s:=λE=>I.hand
 refine wpAny_handleBy_cons (codeAny_handlers_test (qgu (X:=X.hand (.ref a) (X.pn++pins) X.xe) (IH _) hg hm ?_ hdb)) (by intro z;cases z)
 have LT:PySem.W.Looks (model X.prog X.w) s.heap (typeOf (.ref a)) (.ref C):=by
  rw[←hc]
  exact(PySem.W.Looks.ld ha).andThen .now
 refine(PySem.W.exm_one I.kIn LT hx).here ?_
 cases b with
|false =>
  exact hr.u pins s σ H D a C U I fl fa fu q
|true =>
  refine codeAny_handlers_suite_as (qem fl λg nk fl2 _=>?_)
  have I2:Inv X pins σ H { s with heap:=g }:=I.noted (a:=U) (ts:=[]) (λb hb=>by
   have e:b=U:=by simpa using hb
   rw[e]
   exact fu) ⟨λb o _ h2 e=>nk.keep b o (by simp) h2 e,λb o _ h2 e=>⟨o.slots,nk.keep b o (by simp) h2 e⟩,nk.there⟩
  obtain⟨ob,hb,hcb,hnb⟩:=fl2.thing
  have I3:=I2.exc fa hb hcb hnb
  refine qjp I3 hN hi (.inl hl) (v:=.ref a) rfl (λs3 I4=>?_) (.inr hl)
  refine thn ((hs (.ref a) (X.pn++pins) _).u [] _ _ _ D.wiped I4.hand (q a C rfl fa.1)) λf s2 z=>?_
  exact SP.wiped hl (z.unhand I.ok)
end
open PySem.W
structure ExcK(K:Frag)(C:Addr):Prop where
 ga:findIn K (.ref C) "__getattribute__" = some (some (.builtin "BaseException.__getattribute__"))
 gn:findIn K (.ref C) "__getattr__" = some none
 gc:findIn K (.ref C) "__class__" = some (some (.builtin "object.__class__"))
 mo:mroIn K C (.type "object")=some true
 mb:mroIn K C (.type "BaseException")=some true
 hd:hasDictIn K C=true
section
variable {prog:Program} {w:World} {A:Around} {E:Value->Shared->Prop} {h:Heap} {g:Array GenState} {d:Drawn} {t:Nat} {os:OsState} {K:Frag} {a C:Addr} {o:Obj}
theorem qqe{M:Model}{nv:Value}{Q:Unit->Shared->Prop}(X:K.In h)(k:ExcK K C)(hx:h.get? a=some o)(hc:o.cls=.ref C)(q:Q () ⟨h,g,d,t,os⟩) :
  wpAny M A (checkBuiltinCall "BaseException.__getattribute__" ⟨[.ref a,nv],[]⟩) Q E ⟨h,g,d,t,os⟩:=by
 have k1:builtinKind "BaseException.__getattribute__" = some .slot:=by decide +kernel
 have k2:splitId "BaseException.__getattribute__" = some ("BaseException","__getattribute__"):=by decide +kernel
 have k3:=F.args_bexc_ga (.ref a) nv
 have LM:=looks_mroIn (M:=M) X k.mb
 simp only[checkBuiltinCall,k1,k2]
 refine wpAny_bind ?_
 unfold isInstance
 repeat (first|(with_reducible refine wpAny_loadPart_at hx ?_;rw[hc])|with_reducible refine LM.at ?_|wp_step)
 exact q
theorem qqg{tk:Tok}{Q:Fin->Shared->Prop}(X:K.In h)(k:ExcK K C)(hx:h.get? a=some o)(hc:o.cls=.ref C)(hn:notCls o=true)(hd:o.dict=none)(q:Q (.done (.ret (.ref C))) ⟨h,g,d,t,os⟩) :
  wpAny (model prog w) A (Builtin.«object.__getattribute__» ⟨[.ref a,.str "__class__" tk],[]⟩) Q E ⟨h,g,d,t,os⟩:=by
 have hT5:(⟨h,g,d,t,os⟩:Shared).TypeIs (.builtin "object.__class__") "getset_descriptor" := F.typeOf_object_class
 have f5:=F.typeOf_object_class
 have f6:=F.slot_gs_get.lookup
 have f7:=F.slot_gs_set.lookup
 have L1:=looks_findIn (M:=model prog w) X k.gc
 repeat (any_goals (first|assumption|(with_reducible refine wpAny_loadPart_at hx ?_;rw[hc])|with_reducible refine L1.at ?_|wp_step))
 refine class_get (s:=⟨h,g,d,t,os⟩) (ox:=o) (od:=none) X ⟨hx,hc,hn,by rw[hd];trivial⟩ k.mo ?_
 repeat (any_goals (first|assumption|wp_step))
theorem qz1{tk:Tok}{Q:Value->Shared->Prop}(X:K.In h)(k:ExcK K C)(hx:h.get? a=some o)(hc:o.cls=.ref C)(hn:notCls o=true)(hd:o.dict=none)(q:Q (.ref C) ⟨h,g,d,t,os⟩) :
  wpAny (model prog w) A (getAttrBy (.ref a) (.str "__class__" tk) false) Q E ⟨h,g,d,t,os⟩:=by
 have L1:=looks_findIn (M:=model prog w) X k.ga
 have L2:=looks_findIn (M:=model prog w) X k.gn
 have f3:=F.attrBase_ValueError.ga.bind (.ref a)
 have e2:(Value.builtin "BaseException.__getattribute__"==Value.builtin "object.__getattribute__")=false:=by decide +kernel
 have e1:(onTheHeap (Value.ref C)&&Value.builtin "BaseException.__getattribute__"==Value.builtin "object.__getattribute__")=false:=by rw[e2];rfl
 repeat (any_goals (first|assumption|(with_reducible refine wpAny_loadPart_at hx ?_;rw[hc])|with_reducible refine L1.at ?_|with_reducible refine L2.at ?_|wp_step))
 refine codeAny_call_builtin F.attrBase_ValueError.ga.plain F.entry_bexc_ga (qqe X k hx hc (qqg X k hx hc hn hd ?_))
 repeat (any_goals (first|assumption|wp_step))
theorem qqf{Q:Option Value->Shared->Prop}(X:K.In h)(k:ExcK K C)(hx:h.get? a=some o)(hc:o.cls=.ref C)(hn:notCls o=true)(hd:o.dict=none)(q:Q (some (.ref C)) ⟨h,g,d,t+1,os⟩) :
  wpAny (model prog w) A (getAttr? (.ref a) "__class__") Q E ⟨h,g,d,t,os⟩:=by
 unfold getAttr? getAttrBy?
 repeat (any_goals (first|assumption|with_reducible apply qz1 X k hx hc hn hd|wp_step))
end
theorem qu6{K:Frag}{C:Addr}(k:hasDictIn K C=true):∃c d cd sl,K.lookup C=some ⟨c,d,.cls cd,sl⟩:=by
 obtain⟨cd,e,_⟩:=any_some k
 unfold clsIn at e
 split at e
 ·rename_i look
  exact⟨_,_,_,_,look⟩
 ·cases e
theorem qnn{K:Frag}{a C:Addr}(k:ExcK K C):KitX K (.ref a) (.ref C) (λh=>∃o,h.get? a=some o/\(o.cls=.ref C/\o.dict=none)/\notCls o=true) where
 ty:=λM h _ ⟨o,e,c,_⟩=>c.1▸(Looks.ld e).andThen .now
 it:=λM h X _=>by
  obtain⟨c,d,cd,sl,look⟩:=qu6 k.hd
  intro A Q E s kk q
  unfold isType loadHead
  exact wpAny_bind (wpAny_loadPart (kk _ _ (X _ _ look)) (wpAny_pure q))
 ne:=λh tp dd its n sl X e=>by
  obtain⟨c,d,cd,sl',look⟩:=qu6 k.hd
  refine Bool.eq_false_iff.mpr λq=>?_
  have z:C=tp:=Value.ref.inj (beq_iff_eq.mp q)
  subst z
  have y:=(X _ _ look).symm.trans e
  cases y
 ca:=λ{prog w A E Q s} X ⟨o,e,c,n⟩ q=>by
  obtain⟨h,g,d,t,os⟩:=s
  exact qqf X k e c.1 n c.2 q
section
variable {X:Cx}
theorem qfz:CallR X (.builtin "isinstance") (λxs H Q=>∃a C x c b,xs=[.ref a,x]/\H a=some (excO a C)/\ExcK X.K C/\(∀u,RelV x u->u=c)/\kitOne X.K (.ref C) c=some b/\Q (.bl b) H):=by
 intro pins s σ H xs us Q I r h
 obtain⟨a,C,x,c,b,rfl,ea,k,hc,e,q⟩:=h
 obtain⟨u,v,rfl,ru,rv⟩:=vals2 r
 cases (show u=Value.ref a from ru)
 cases hc v rv
 obtain⟨p,_,_⟩:=(show ObjOk X.prog X.w H s.heap a (excO a C) from I.hok a _ ea)
 exact kia_one (qnn k) I.kIn p e (λz=>nomatch z) λtk=>⟨.bl b,H,I.tok tk,rfl,q⟩
theorem qii:CallR X (.builtin "isinstance") (λxs H Q=>∃a C tp vs cs b,xs=[.ref a,.ref tp]/\H a=some (excO a C)/\H tp=some (.tup vs)/\ExcK X.K C/\(∀us,Vals vs us->us=cs)/\kitAny X.K (.ref C) cs=some b/\Q (.bl b) H):=by
 intro pins s σ H xs us Q I r h
 obtain⟨a,C,tp,vs,cs,b,rfl,ea,et,k,hc,e,q⟩:=h
 obtain⟨u,v,rfl,ru,rv⟩:=vals2 r
 cases (show u=Value.ref a from ru)
 cases (show v=Value.ref tp from rv)
 obtain⟨p,_,_⟩:=(show ObjOk X.prog X.w H s.heap a (excO a C) from I.hok a _ ea)
 obtain⟨_,its,rt,ob,hb,hcl,n,hdat⟩:=(show ObjOk X.prog X.w H s.heap tp (.tup vs) from I.hok tp _ et)
 cases hc its rt
 obtain⟨oc,od,oda,osl⟩:=ob
 dsimp only at hcl hdat
 subst hcl hdat
 exact kia_tup (qnn k) I.kIn p hb e (λz=>nomatch z) λtk=>⟨.bl b,H,I.tok tk,rfl,q⟩
end
structure RoomH(k:Nat)(A:Around):Prop where
 dp:A.depth+3*k+5<recursionLimit
 un:A.units+16*k+200<cLine
structure FnOkH(P:Program)(w:World)(K:Frag)(mg:Str->Option Value)(base:Heap)(CX:CXT)(k:Nat)(f:Addr)(fd:FuncData)(ps:List Str)(sp:Sp):Prop where
 len:∀vs H Q E,sp vs H Q E->vs.length=ps.length
 run:∀(A:Around) (outer:List Env) (s:Shared) (H:Hp) (args:Args) (us:List Value) (vs:List V) (Q:VK) (E:XK),RoomH k A->Env0 P w K mg base A outer s H->BindsTo s fd args (ps.zip us)->Vals vs us->sp vs H Q E ->
  codeAny (model P w) A (.call (.ref f) args) (CR CX outer P w H s Q E) s
section
variable {P:Program} {w:World} {K:Frag} {mg:Str->Option Value} {base:Heap} {CX:CXT} {k:Nat} {f:Addr}
end
inductive CalH(P:Program)(w:World)(K:Frag)(mg:Str->Option Value)(base:Heap)(k:Nat)(x:Str)(ps:List Str)(sp:Sp):Prop where
|mk {f:Addr} {fd:FuncData} (F:FnOkH P w K mg base CX0 k f fd ps sp) (hm:mg x=some (.ref f)) (hk:keepIn K (.ref f)=true) (hb:Binds K fd ps [])
section
variable {X:Cx} {k:Nat} {ps:List Str} {sp:Sp} {x:Str} {p pos:Pos} {e:Expr} {es:List Expr} {t:TA}
end
end L2
namespace L2
open PySem PySem.Spec PyProof.Rows
section
variable {X:Cx} {o i e f value a b:Expr} {pos pos' tpos apos cpos:Pos} {td ty tv tx:TE}
theorem qyk(hu:X.A.units+1<cLine)(ho:QE X o td)(hi:QE X i ty)(hs:NoSl i:=by exact λ_ _=>rfl):QE X (.Subscript o i pos) (q2b td ty):=⟨qx0 hu ho.u hi.u hs⟩
theorem qrr(hu:X.A.units+1<cLine)(hi:QE X i ty)(ho:QE X o td)(hm:behindInMarks .NotIn o=false:=by with_unfolding_all rfl):QE X (.Compare i [.NotIn] [o] pos) (qmp ty td):=⟨q00 (qks hu hi.u ho.u) hm⟩
theorem q1w(hu:X.A.units+1<cLine)(hi:QE X i ty)(ho:QE X o td)(hm:behindInMarks .In o=false:=by with_unfolding_all rfl):QT X (.Compare i [.In] [o] pos) (tB (tDIn ty td)):=⟨qvr (q0w hu hi.u ho.u) hm⟩
theorem qru(hu:X.A.units+1<cLine)(hi:QE X i ty)(ho:QE X o td)(hm:behindInMarks .NotIn o=false:=by with_unfolding_all rfl):QT X (.Compare i [.NotIn] [o] pos) (tB (qmp ty td)):=⟨qvr (qks hu hi.u ho.u) hm⟩
theorem qyn(hu:X.A.units+1<cLine)(ho:QE X o td)(hi:QE X i ty)(hv:QE X value tv)(hs:swapsWith value (some (.Subscript o i pos')) pos.line X.env=pure false:=by rfl) :
  QS X (.Assign [.Subscript o i pos'] value pos) (q18 td ty tv):=⟨qyb hu ho.u hi.u hv.u hs⟩
theorem qt1:QE X (.Dict [] [] pos) qwa:=⟨qtr⟩
theorem qtz(hu:X.A.units+1<cLine)(ho:QE X o td)(he:QE X e ty)(m:M1 X o "get" apos e cpos):QE X (.Call (.Attribute o "get" apos) [e] [] cpos) (qv9 td ty):=⟨qtp hu ho.u he.u m⟩
end
end L2
namespace L2
open PySem PySem.Spec PyProof.Rows
inductive D where
|non
|bl (b:Bool)
|int (i:Int)
|str (x:Str)
|tup (xs:List D)
|lst (xs:List D)
|dT (ks:List (List Str)) (ds:List D)
|dK (ks:List Str) (ds:List D)
|scr (ns:List Int)
|kt (ss:List Str)
|exc (n:Str)
|io (c:Addr) (ds:List D)
|ioT (c:Addr) (ks:List (List Str)) (ds:List D)
|ob (c:Addr) (ds:List D)
|adr (c:Addr)
|fT (ks:List (List Str)) (ds:List D)
def clsOf(K:PySem.W.Frag)(n:Str)(C:Addr):Prop:=PySem.W.nsIn K mainGlobals n=some (some (.ref C))
def obN:List Str:=["layers"]
def wK(ws:List Str):List Key:=ws.map Sum.inr
def TupAt(K:PySem.W.Frag)(H:Hp)(a:Addr)(ds:List D)(xs:List V):Prop:=H a=some (.tup xs)\/(SqT K (λ_=>none) a xs/\ds=[.str "folder",.str ""])
mutual
def Rep(K:PySem.W.Frag)(H:Hp):D->V->Prop
|.non,v=>v=.non
|.bl b,v=>v=.bl b
|.int i,v=>v=.int i
|.str x,v=>v=.str x
|.tup ds,v=>∃a xs,v=.ref a/\TupAt K H a ds xs/\Reps K H ds xs
|.lst ds,v=>∃a xs,v=.ref a/\H a=some (.lst xs)/\Reps K H ds xs
|.dT ks ds,v=>∃a kvs,v=.ref a/\Rd H a (.dT kvs)/\kvs.map (·.1)=ks.map wK/\Reps K H ds (kvs.map (·.2))
|.dK ks ds,v=>∃a kvs,v=.ref a/\H a=some (.dK kvs)/\kvs.map (·.1)=ks.map Sum.inr/\Reps K H ds (kvs.map (·.2))
|.scr ns,v=>∃a,v=.ref a/\SqL K H a (ns.map V.int)
|.kt ss,v=>∃a,v=.ref a/\SqT K (λ_=>none) a (ss.map V.str)
|.exc n,v=>∃a C,v=.ref a/\H a=some (excO a C)/\clsOf K n C
|.io c ds,v=>∃xs,v=.ref c/\H c=some (.lst xs)/\Reps K H ds xs
|.ioT c ks ds,v=>∃kvs,v=.ref c/\H c=some (.dT kvs)/\kvs.map (·.1)=ks.map wK/\Reps K H ds (kvs.map (·.2))
|.ob c ds,v=>∃fs,v=.ref c/\(∃C dx,H c=some (.ins C dx fs)/\clsOf K "Glass" C)/\fs.map (·.1)=(obN.take ds.length)/\Reps K H ds (fs.map (·.2))
|.adr c,v=>v=.ref c
|.fT ks ds,v=>∃a kvs,v=.ref a/\(∃o,H a=some (.frz o (.dT kvs)))/\kvs.map (·.1)=ks.map wK/\Reps K H ds (kvs.map (·.2))
def Reps(K:PySem.W.Frag)(H:Hp):List D->List V->Prop
|[],xs=>xs=[]
|d::ds,xs=>∃x r,xs=x::r/\Rep K H d x/\Reps K H ds r
end
noncomputable def eqD(d e:D):Bool:=@decide (d=e) (Classical.propDecidable _)
noncomputable def eqDs(d e:List D):Bool:=@decide (d=e) (Classical.propDecidable _)
theorem eqD_iff{d e:D}:eqD d e=true↔d=e:=@decide_eq_true_iff _ (Classical.propDecidable _)
theorem eqDs_iff{d e:List D}:eqDs d e=true↔d=e:=@decide_eq_true_iff _ (Classical.propDecidable _)
theorem qnc{d e:D}(h:eqD d e=true):d=e:=eqD_iff.mp h
theorem qw3{d e:List D}(h:eqDs d e=true):d=e:=eqDs_iff.mp h
theorem qch(d:D):eqD d d=true:=eqD_iff.mpr rfl
theorem qp5(d:List D):eqDs d d=true:=eqDs_iff.mpr rfl
theorem qcn{a b:Bool}(h:a=true↔b=true):a=b:=by cases a<;>cases b<;>simp_all
theorem qp4(ds es:List D):eqD (.tup ds) (.tup es)=eqDs ds es:=qcn (by rw[eqD_iff,eqDs_iff];exact⟨λh=>D.tup.inj h,λh=>h▸rfl⟩)
theorem qp3(ds es:List D):eqD (.lst ds) (.lst es)=eqDs ds es:=qcn (by rw[eqD_iff,eqDs_iff];exact⟨λh=>D.lst.inj h,λh=>h▸rfl⟩)
def dV:D->Option V
|.non=>some .non
|.bl b=>some (.bl b)
|.int i=>some (.int i)
|.str x=>some (.str x)
|_=>none
def vD:V->D
|.bl b=>.bl b
|.int i=>.int i
|.str x=>.str x
|_=>.non
theorem qzt{d:D}{v:V}(h:dV d=some v):d=vD v:=by
 cases d<;>first|(cases h;rfl)|(cases h;done)
theorem qu7{d e:D}{v:V}(h:dV d=some v)(h':dV e=some v):d=e:=(qzt h).trans (qzt h').symm
theorem qip{d e:D}{v z:V}(h:dV d=some v)(h':dV e=some z):eqD d e=decide (v=z):=qcn (by
 rw[eqD_iff,decide_eq_true_iff]
 exact⟨λq=>by subst q;exact Option.some.inj (h.symm.trans h'),λq=>by subst q;exact qu7 h h'⟩)
mutual
def cmpD:D->D->Bool
|.tup a,.tup b=>qb2 a b
|.lst a,.lst b=>qb2 a b
|.non,.non=>true|.non,.int _=>true|.int _,.non=>true|.non,.bl _=>true|.bl _,.non=>true|.non,.str _=>true|.str _,.non=>true
|.int _,.int _=>true|.bl _,.bl _=>true|.str _,.str _=>true|.int _,.str _=>true|.str _,.int _=>true|.bl _,.str _=>true|.str _,.bl _=>true
|_,_=>false
def qb2:List D->List D->Bool
|x::xs,y::ys=>cmpD x y&&qb2 xs ys
|_,_=>true
end
mutual
def depD:D->Nat
|.tup a=>qbt a+1
|.lst a=>qbt a+1
|_=>0
def qbt:List D->Nat
|[]=>0
|x::xs=>max (depD x) (qbt xs)
end
theorem Same.emp(H:Hp):Same (λ_=>none) H:=λ_ _ h=>by cases h
theorem Same.sqT{K:PySem.W.Frag}{H H':Hp}(sm:Same H H'){a:Addr}{xs:List V}(h:SqT K H a xs):SqT K H' a xs:=by
 rcases h with (h|⟨o,h⟩)|h
 ·exact .inl (.inl (sm _ _ h))
 ·exact .inl (.inr ⟨o,sm _ _ h⟩)
 ·exact .inr h
theorem TupAt.sq{K:PySem.W.Frag}{H:Hp}{a:Addr}{ds:List D}{xs:List V}(h:TupAt K H a ds xs):SqT K H a xs:=h.elim SqT.of λq=>(Same.emp H).sqT q.1
theorem TupAt.same{K:PySem.W.Frag}{H H':Hp}{a:Addr}{ds:List D}{xs:List V}(h:TupAt K H a ds xs)(sm:Same H H'):TupAt K H' a ds xs:=h.elim (λq=>.inl (sm _ _ q)) .inr
section
variable {X:Cx} {pins:List (Addr×Obj)} {σ:St} {H:Hp} {s:Shared}
theorem qc2{d:D}{v:V}(h:Rep X.K H d v){z:V}(e:dV d=some z):v=z:=by
 cases d<;>first|(unfold Rep at h;subst h;exact Option.some.inj e)|(cases e;done)
theorem qji{d e:D}(h:cmpD d e=true)(h0:∀ds,d≠.tup ds)(h1:∀ds,d≠.lst ds):∃v z,dV d=some v/\dV e=some z/\scal v z=true:=by
 unfold cmpD at h
 split at h<;>first|exact⟨_,_,rfl,rfl,rfl⟩|exact absurd rfl (h0 _)|exact absurd rfl (h1 _)|(cases h;done)
theorem qbk{d e:D}{v:V}(h:Rep X.K H d v)(h':Rep X.K H e v)(c:cmpD d e=true)(h0:∀ds,d≠.tup ds/\d≠.lst ds):d=e:=by
 obtain⟨x,y,a,b,_⟩:=qji c (h0 · |>.1) (h0 · |>.2)
 exact qu7 a (by rw[b,←qc2 h a,qc2 h' b])
mutual
theorem Rep.inj(I:Inv X pins σ H s):∀ {d e:D} {v:V},Rep X.K H d v->Rep X.K H e v->cmpD d e=true->d=e
|.non,_,_,h,h',c=>qbk h h' c (by simp)
|.bl _,_,_,h,h',c=>qbk h h' c (by simp)
|.int _,_,_,h,h',c=>qbk h h' c (by simp)
|.str _,_,_,h,h',c=>qbk h h' c (by simp)
|.tup ds,e,v,h,h',hc=>by
  cases e with
 |tup es =>
   unfold Rep at h h'
   obtain⟨a,xs,rfl,ha,hr⟩:=h
   obtain⟨b,ys,z,hb,hs⟩:=h'
   cases z
   cases I.tuple_inj ha.sq hb.sq
   unfold cmpD at hc
   rw[Reps.inj I hr hs hc]
 |_=>unfold cmpD at hc;cases hc
|.lst ds,e,v,h,h',hc=>by
  cases e with
 |lst es =>
   unfold Rep at h h'
   obtain⟨a,xs,rfl,ha,hr⟩:=h
   obtain⟨b,ys,z,hb,hs⟩:=h'
   cases z
   rw[ha] at hb
   cases hb
   unfold cmpD at hc
   rw[Reps.inj I hr hs hc]
 |_=>unfold cmpD at hc;cases hc
|.dT _ _,_,_,h,h',c=>qbk h h' c (by simp)
|.dK _ _,_,_,h,h',c=>qbk h h' c (by simp)
|.scr _,_,_,h,h',c=>qbk h h' c (by simp)
|.kt _,_,_,h,h',c=>qbk h h' c (by simp)
|.exc _,_,_,h,h',c=>qbk h h' c (by simp)
|.io _ _,_,_,h,h',c=>qbk h h' c (by simp)
|.ioT _ _ _,_,_,h,h',c=>qbk h h' c (by simp)
|.ob _ _,_,_,h,h',c=>qbk h h' c (by simp)
|.adr _,_,_,h,h',c=>qbk h h' c (by simp)
|.fT ..,_,_,h,h',c=>qbk h h' c (by simp)
theorem Reps.inj(I:Inv X pins σ H s):∀ {ds es:List D} {xs:List V},Reps X.K H ds xs->Reps X.K H es xs->qb2 ds es=true->ds=es
|[],es,xs,h,h',_=>by
  unfold Reps at h
  subst h
  cases es with
 |nil=>rfl
 |cons e es=>unfold Reps at h';obtain⟨_,_,z,_⟩:=h';cases z
|d::ds,es,xs,h,h',hc=>by
  unfold Reps at h
  obtain⟨x,r,rfl,h1,h2⟩:=h
  cases es with
 |nil=>unfold Reps at h';cases h'
 |cons e es =>
   unfold Reps at h'
   obtain⟨x',r',z,h3,h4⟩:=h'
   cases z
   unfold qb2 at hc
   rw[Bool.and_eq_true] at hc
   rw[Rep.inj I h1 h3 hc.1,Reps.inj I h2 h4 hc.2]
end
end
mutual
theorem Rep.same{K:PySem.W.Frag}{H H':Hp}(sm:Same H H'):∀ {d:D} {v:V},Rep K H d v->Rep K H' d v
|.non,_,h=>h
|.bl _,_,h=>h
|.int _,_,h=>h
|.str _,_,h=>h
|.tup _,_,h=>by
  unfold Rep at h ⊢
  obtain⟨a,xs,e,ha,r⟩:=h
  exact⟨a,xs,e,ha.same sm,Reps.same sm r⟩
|.lst _,_,h=>by
  unfold Rep at h ⊢
  obtain⟨a,xs,e,ha,r⟩:=h
  exact⟨a,xs,e,sm _ _ ha,Reps.same sm r⟩
|.dT _ _,_,h=>by
  unfold Rep at h ⊢
  obtain⟨a,xs,e,ha,k,r⟩:=h
  exact⟨a,xs,e,ha.elim (λq=>.inl (sm _ _ q)) λ⟨o,q⟩=>.inr ⟨o,sm _ _ q⟩,k,Reps.same sm r⟩
|.dK _ _,_,h=>by
  unfold Rep at h ⊢
  obtain⟨a,xs,e,ha,k,r⟩:=h
  exact⟨a,xs,e,sm _ _ ha,k,Reps.same sm r⟩
|.scr _,_,h=>by
  unfold Rep at h ⊢
  obtain⟨a,e,ha⟩:=h
  exact⟨a,e,sm.seq ha⟩
|.kt _,_,h=>h
|.exc _,_,h=>by
  unfold Rep at h ⊢
  obtain⟨a,C,e,ha,hc⟩:=h
  exact⟨a,C,e,sm _ _ ha,hc⟩
|.io _ _,_,h=>by
  unfold Rep at h ⊢
  obtain⟨xs,e,ha,r⟩:=h
  exact⟨xs,e,sm _ _ ha,Reps.same sm r⟩
|.ioT _ _ _,_,h=>by
  unfold Rep at h ⊢
  obtain⟨kvs,e,ha,k,r⟩:=h
  exact⟨kvs,e,sm _ _ ha,k,Reps.same sm r⟩
|.ob _ _,_,h=>by
  unfold Rep at h ⊢
  obtain⟨fs,e,⟨C,dx,ha,hc⟩,k,r⟩:=h
  exact⟨fs,e,⟨C,dx,sm _ _ ha,hc⟩,k,Reps.same sm r⟩
|.adr _,_,h=>h
|.fT _ _,_,h=>by
  unfold Rep at h ⊢
  obtain⟨a,xs,e,⟨o,ha⟩,k,r⟩:=h
  exact⟨a,xs,e,⟨o,sm _ _ ha⟩,k,Reps.same sm r⟩
theorem Reps.same{K:PySem.W.Frag}{H H':Hp}(sm:Same H H'):∀ {ds:List D} {xs:List V},Reps K H ds xs->Reps K H' ds xs
|[],_,h=>h
|_::_,_,h=>by
  unfold Reps at h ⊢
  obtain⟨x,r,e,h1,h2⟩:=h
  exact⟨x,r,e,Rep.same sm h1,Reps.same sm h2⟩
end
theorem Reps.length{K:PySem.W.Frag}{H:Hp}:∀ {ds:List D} {xs:List V},Reps K H ds xs->ds.length=xs.length
|[],xs,h=>by unfold Reps at h;rw[h];rfl
|d::ds,xs,h=>by
  unfold Reps at h
  obtain⟨x,r,rfl,h1,h2⟩:=h
  rw[List.length_cons,List.length_cons,Reps.length h2]
theorem Reps.at{K:PySem.W.Frag}{H:Hp}:∀ {ds:List D} {xs:List V} {j:Nat} {d:D},Reps K H ds xs->ds[j]?=some d->∃x,xs[j]?=some x/\Rep K H d x
|[],xs,j,d,h,e=>by simp at e
|d0::ds,xs,0,d,h,e=>by
  unfold Reps at h
  obtain⟨x,r,rfl,h1,h2⟩:=h
  have e':d0=d:=by simpa using e
  subst e'
  exact⟨x,rfl,h1⟩
|d0::ds,xs,j+1,d,h,e=>by
  unfold Reps at h
  obtain⟨x,r,rfl,h1,h2⟩:=h
  obtain⟨y,h3,h4⟩:=Reps.at (j:=j) (d:=d) h2 (by simpa using e)
  exact⟨y,by simpa using h3,h4⟩
theorem qd8:∀(ds es:List D),((List.range (min ds.length es.length)).all (λj=>eqD (ds.getD j .non) (es.getD j .non))&&ds.length==es.length)=eqDs ds es:=by
 intro ds es
 cases h:eqDs ds es with
|true =>
  have e:=qw3 h
  subst e
  rw[Bool.and_eq_true]
  refine⟨?_,by simp⟩
  rw[List.all_eq_true]
  intro j _
  exact qch _
|false =>
  apply Classical.byContradiction
  intro hn
  have ht:=eq_true_of_ne_false hn
  rw[Bool.and_eq_true,List.all_eq_true] at ht
  obtain⟨h1,h2⟩:=ht
  have hl:ds.length=es.length:=by simpa using h2
  have e:ds=es:=by
   apply List.ext_getElem hl
   intro i hi1 hi2
   have:=qnc (h1 i (by rw[List.mem_range];lia))
   simpa [List.getD_eq_getElem?_getD,hi1,hi2] using this
  rw[e,qp5] at h
  cases h
theorem qm3:∀ {ds es:List D} {j:Nat} {d e:D},qb2 ds es=true->ds[j]?=some d->es[j]?=some e->cmpD d e=true
|[],_,j,d,e,_,h,_=>by simp at h
|_::_,[],j,d,e,_,_,h=>by simp at h
|d0::ds,e0::es,0,d,e,h,h1,h2=>by
  unfold qb2 at h
  rw[Bool.and_eq_true] at h
  have q1:d0=d:=by simpa using h1
  have q2:e0=e:=by simpa using h2
  subst q1 q2
  exact h.1
|d0::ds,e0::es,j+1,d,e,h,h1,h2=>by
  unfold qb2 at h
  rw[Bool.and_eq_true] at h
  exact qm3 (j:=j) h.2 (by simpa using h1) (by simpa using h2)
theorem qm9:∀ {ds:List D} {j:Nat} {d:D},ds[j]?=some d->depD d<=qbt ds
|[],j,d,h=>by simp at h
|d0::ds,0,d,h=>by
  have q:d0=d:=by simpa using h
  subst q
  unfold qbt
  exact Nat.le_max_left _ _
|d0::ds,j+1,d,h=>by
  have:=qm9 (j:=j) (d:=d) (ds:=ds) (by simpa using h)
  unfold qbt
  exact Nat.le_trans this (Nat.le_max_right _ _)
section
variable {X:Cx} {pins:List (Addr×Obj)} {σ:St} {H:Hp} {s:Shared}
theorem qls{d:D}{v:V}(h:dV d=some v):qf4 v=true:=by
 cases d<;>first|(cases h;rfl)|(cases h;done)
theorem qsz{v z:V}(h:scal v z=true)(hv:qf4 v=true):eqV v z=decide (v=z):=by
 cases v<;>cases z<;>first|(cases h;done)|(cases hv;done)|rfl|(simp[eqV];done)|(unfold eqV;exact qcn (by simp))
theorem qgq{A':Around}{ds es:List D}{xs ys:List V}{its its2:List Value}(r1:Reps X.K H ds xs)(r2:Reps X.K H es ys)(v1:Vals xs its)(v2:Vals ys its2)(hc:qb2 ds es=true)
  (ih:∀d∈ds,∀(e:D) (v z:V) (u w:Value),Rep X.K H d v->Rep X.K H e z->RelV v u->RelV z w->cmpD d e=true->SeqAt.EqAt A' s u w (eqD d e)) :
  ∀j (h1:j<its.toArray.size) (h2:j<its2.toArray.size),SeqAt.EqAt A' s its.toArray[j] its2.toArray[j] (eqD (ds.getD j .non) (es.getD j .non)):=λj h1 h2=>by
 have l1:j<ds.length:=by rw[r1.length,v1.length];simpa using h1
 have l2:j<es.length:=by rw[r2.length,v2.length];simpa using h2
 have q1:ds[j]?=some ds[j]:=List.getElem?_eq_getElem l1
 have q2:es[j]?=some es[j]:=List.getElem?_eq_getElem l2
 obtain⟨x,hx,rx⟩:=r1.at q1
 obtain⟨y,hy,ry⟩:=r2.at q2
 obtain⟨ux,hux,rux⟩:=v1.get hx
 obtain⟨uy,huy,ruy⟩:=v2.get hy
 have e1:its.toArray[j]=ux:=by
  have:its[j]?=some its.toArray[j]:=by simp
  rw[hux] at this
  exact(Option.some.inj this).symm
 have e2:its2.toArray[j]=uy:=by
  have:its2[j]?=some its2.toArray[j]:=by simp
  rw[huy] at this
  exact(Option.some.inj this).symm
 have e3:ds.getD j .non=ds[j]:=by simp[List.getD_eq_getElem?_getD,l1]
 have e4:es.getD j .non=es[j]:=by simp[List.getD_eq_getElem?_getD,l2]
 rw[e1,e2,e3,e4]
 exact ih ds[j] (List.getElem_mem l1) es[j] x y ux uy rx ry rux ruy (qm3 hc q1 q2)
theorem qv0{A:Around}(I:Inv X pins σ H s){a b:Addr}{ds es:List D}{xs ys:List V}(ha:SqT X.K H a xs)(hb:SqT X.K H b ys)(r1:Reps X.K H ds xs)(r2:Reps X.K H es ys)(hc:qb2 ds es=true)(hu:A.units<cLine)
  (ih:∀d∈ds,∀(e:D) (v z:V) (u w:Value),Rep X.K H d v->Rep X.K H e z->RelV v u->RelV z w->cmpD d e=true->SeqAt.EqAt A.in1 s u w (eqD d e)):SeqAt.RcAt A s (.ref a) (.ref b) (eqD (.tup ds) (.tup es)):=by
 obtain⟨its,v1,p1,_⟩:=I.tuple ha
 obtain⟨its2,v2,p2,_⟩:=I.tuple hb
 have:=SeqAt.RcAt.tuples (A:=A) (s:=s) (e:=λj=>eqD (ds.getD j .non) (es.getD j .non)) (show s.heap.IsTuple a its.toArray from p1) (show s.heap.IsTuple b its2.toArray from p2) hu (qgq r1 r2 v1 v2 hc ih)
 rw[List.size_toArray,List.size_toArray,←v1.length,←v2.length,←r1.length,←r2.length,qd8] at this
 rw[qp4]
 exact this
theorem qvz{A:Around}(I:Inv X pins σ H s){a b:Addr}{ds es:List D}{xs ys:List V}(ha:H a=some (.lst xs))(hb:H b=some (.lst ys))(r1:Reps X.K H ds xs)(r2:Reps X.K H es ys)(hc:qb2 ds es=true)(hu:A.units<cLine)
  (ih:∀d∈ds,∀(e:D) (v z:V) (u w:Value),Rep X.K H d v->Rep X.K H e z->RelV v u->RelV z w->cmpD d e=true->SeqAt.EqAt A.in1 s u w (eqD d e)):SeqAt.RcAt A s (.ref a) (.ref b) (eqD (.lst ds) (.lst es)):=by
 obtain⟨its,v1,p1,_⟩:=I.list (SqL.of ha)
 obtain⟨its2,v2,p2,_⟩:=I.list (SqL.of hb)
 have er:=qd8 ds es
 rw[qp3]
 by_cases hl:ds.length=es.length
 ·have hz:its.toArray.size=its2.toArray.size:=by rw[List.size_toArray,List.size_toArray,←v1.length,←v2.length,←r1.length,←r2.length,hl]
  have:=SeqAt.RcAt.lists (A:=A) (s:=s) (e:=λj=>eqD (ds.getD j .non) (es.getD j .non)) p1.isList p2.isList hz hu (qgq r1 r2 v1 v2 hc ih)
  rw[List.size_toArray,←v1.length,←r1.length] at this
  rw[←hl,Nat.min_self] at er
  have e2:(ds.length==ds.length)=true:=by simp
  rw[e2,Bool.and_true] at er
  rw[er] at this
  exact this
 ·have e2:(ds.length==es.length)=false:=by simpa using hl
  rw[e2,Bool.and_false] at er
  rw[←er]
  refine SeqAt.RcAt.lists_lengths p1.isList p2.isList ?_ hu
  rw[List.size_toArray,List.size_toArray,←v1.length,←v2.length,←r1.length,←r2.length]
  simpa using hl
theorem qcg{ds:List D}{d:D}(h:d∈ds):depD d<=qbt ds:=by
 obtain⟨j,hj⟩:=List.mem_iff_getElem?.mp h
 exact qm9 hj
theorem qf0(I:Inv X pins σ H s):∀(n:Nat) (A:Around) (d e:D) (v z:V) (u w:Value),sizeOf d<=n->Rep X.K H d v->Rep X.K H e z->RelV v u->RelV z w->cmpD d e=true->A.units+depD d<cLine->SeqAt.EqAt A s u w (eqD d e)
|0,_,d,_,_,_,_,_,hn,_,_,_,_,_,_=>by cases d<;>simp at hn
|n+1,A,d,e,v,z,u,w,hn,hd,he,ru,rw',hc,hu=>by
  have un:A.in1.units=A.units+1:=rfl
  cases d with
 |tup ds =>
   cases e with
  |tup es =>
    have hd':=hd
    have he':=he
    unfold Rep at hd he
    obtain⟨a,xs,rfl,ha,r1⟩:=hd
    obtain⟨b,ys,rfl,hb,r2⟩:=he
    cases ru
    cases rw'
    unfold depD at hu
    by_cases hab:a=b
    ·subst hab
     rw[Rep.inj I hd' he' hc,qch]
     exact SeqAt.EqAt.same _
    ·unfold cmpD at hc
     refine SeqAt.EqAt.of_refs hab (qv0 I ha.sq hb.sq r1 r2 hc (by lia) λd hd e v z u w h1 h2 h3 h4 h5=>qf0 I n A.in1 d e v z u w ?_ h1 h2 h3 h4 h5 ?_)
     ·have:=List.sizeOf_lt_of_mem hd
      simp at hn
      lia
     ·have:=qcg hd
      lia
  |_=>unfold cmpD at hc;cases hc
 |lst ds =>
   cases e with
  |lst es =>
    have hd':=hd
    have he':=he
    unfold Rep at hd he
    obtain⟨a,xs,rfl,ha,r1⟩:=hd
    obtain⟨b,ys,rfl,hb,r2⟩:=he
    cases ru
    cases rw'
    unfold depD at hu
    by_cases hab:a=b
    ·subst hab
     rw[Rep.inj I hd' he' hc,qch]
     exact SeqAt.EqAt.same _
    ·unfold cmpD at hc
     refine SeqAt.EqAt.of_refs hab (qvz I ha hb r1 r2 hc (by lia) λd hd e v z u w h1 h2 h3 h4 h5=>qf0 I n A.in1 d e v z u w ?_ h1 h2 h3 h4 h5 ?_)
     ·have:=List.sizeOf_lt_of_mem hd
      simp at hn
      lia
     ·have:=qcg hd
      lia
  |_=>unfold cmpD at hc;cases hc
 |_ =>
   obtain⟨v',z',q1,q2,q3⟩:=qji hc (λ_ h=>by cases h) (λ_ h=>by cases h)
   have e1:=qc2 hd q1
   have e2:=qc2 he q2
   subst e1 e2
   rw[qip q1 q2,←qsz q3 (qls q1)]
   exact qu9 ru rw' (qls q1) (qls q2)
def rEqD(K:PySem.W.Frag)(g:Bool->Bool):R2:=λx y H Q=>∃d e,Rep K H d x/\Rep K H e y/\cmpD d e=true/\depD d<=50/\Q (.bl (g (eqD d e))) H
theorem qvq(hu:X.A.units+60<cLine):OpR X (compareOp .Eq) (rEqD X.K id):=by
 intro pins s σ H x y v u Q I rx ry h
 obtain⟨d,e,hd,he,hc,hn,q⟩:=h
 have fin:EP X pins σ Q (.bool (eqD d e)) s:=⟨.bl (eqD d e),H,I,rfl,q⟩
 have un:X.A.in1.units=X.A.units+1:=rfl
 cases d with
|tup ds =>
  cases e with
 |tup es =>
   unfold Rep at hd he
   obtain⟨a,xs,rfl,ha,r1⟩:=hd
   obtain⟨b,ys,rfl,hb,r2⟩:=he
   cases rx
   cases ry
   unfold cmpD at hc
   unfold depD at hn
   exact qv0 I ha.sq hb.sq r1 r2 hc (by lia) (λd hd e v z u w h1 h2 h3 h4 h5=>qf0 I _ X.A.in1 d e v z u w (Nat.le_refl _) h1 h2 h3 h4 h5 (by have:=qcg hd;lia)) _ _ _ _ fin
 |_=>unfold cmpD at hc;cases hc
|lst ds =>
  cases e with
 |lst es =>
   unfold Rep at hd he
   obtain⟨a,xs,rfl,ha,r1⟩:=hd
   obtain⟨b,ys,rfl,hb,r2⟩:=he
   cases rx
   cases ry
   unfold cmpD at hc
   unfold depD at hn
   exact qvz I ha hb r1 r2 hc (by lia) (λd hd e v z u w h1 h2 h3 h4 h5=>qf0 I _ X.A.in1 d e v z u w (Nat.le_refl _) h1 h2 h3 h4 h5 (by have:=qcg hd;lia)) _ _ _ _ fin
 |_=>unfold cmpD at hc;cases hc
|_ =>
  obtain⟨v',z',q1,q2,q3⟩:=qji hc (λ_ h=>by cases h) (λ_ h=>by cases h)
  have e1:=qc2 hd q1
  have e2:=qc2 he q2
  subst e1 e2
  have q':Q (.bl (eqD _ _)) H:=q
  rw[qip q1 q2] at q'
  exact q3a pins s σ H _ _ v u Q I rx ry ⟨q3,q'⟩
end
end L2
namespace L2
open PySem PySem.Spec PyProof.Rows
inductive R where
|val (d:D)
|own (d:D)
|peek (d:D)
|exc (n:Str)
def R.d:R->D
|.val d=>d
|.own d=>d
|.peek d=>d
|.exc _=>.scr []
abbrev VSt:=List (Option R)
def ioA:D->Option Addr
|.io c _=>some c
|.ioT c _ _=>some c
|.ob c _=>some c
|_=>none
def OwnAt(K:PySem.W.Frag)(B H:Hp)(d:D)(a:Addr):Prop:=match d with
|.lst ds=>∃xs,H a=some (.lst xs)/\Reps K B ds xs
|.dT ks ds=>∃kvs,H a=some (.dT kvs)/\kvs.map (·.1)=ks.map wK/\Reps K B ds (kvs.map (·.2))
|.dK ks ds=>∃kvs,H a=some (.dK kvs)/\kvs.map (·.1)=ks.map Sum.inr/\Reps K B ds (kvs.map (·.2))
|.io c ds=>∃xs,H a=some (.lst xs)/\a=c/\Reps K B ds xs
|.ioT c ks ds=>∃kvs,H a=some (.dT kvs)/\a=c/\kvs.map (·.1)=ks.map wK/\Reps K B ds (kvs.map (·.2))
|.ob c ds=>∃fs,(∃C dx,H a=some (.ins C dx fs)/\clsOf K "Glass" C)/\a=c/\fs.map (·.1)=(obN.take ds.length)/\Reps K B ds (fs.map (·.2))
|_=>False
def Pk(K:PySem.W.Frag)(B H:Hp)(r:R)(v:V):Prop:=match r with
|.val d=>Rep K B d v
|.own d=>∃a,v=.ref a/\B a=none/\OwnAt K B H d a
|.peek d=>∃a,v=.ref a/\B a=none/\OwnAt K B H d a
|.exc _=>False
def RepR(K:PySem.W.Frag)(B H0 H:Hp)(r:R)(v:V):Prop:=match r with
|.val d=>Rep K B d v
|.own d=>∃a,v=.ref a/\H0 a=none/\B a=none/\OwnAt K B H d a
|.peek d=>∃a,v=.ref a/\B a=none/\OwnAt K B H d a
|.exc _=>False
structure Stp(B H B' H':Hp):Prop where
 b:Same B B'
 h:Same H H'
 s:Same B' H'
 d:∀a,B' a≠none->B a≠none\/H a=none\/∃xs,H a=some (.tup xs)
theorem Stp.refl{B H:Hp}(s:Same B H):Stp B H B H:=⟨Same.refl _,Same.refl _,s,λ_ h=>.inl h⟩
theorem Stp.trans{B H B1 H1 B2 H2:Hp}(p:Stp B H B1 H1)(q:Stp B1 H1 B2 H2):Stp B H B2 H2 :=
 ⟨p.b.trans q.b,p.h.trans q.h,q.s,λa h=>by
  rcases q.d a h with z|z|⟨xs,z⟩
  ·exact p.d a z
  ·exact .inr (.inl (p.h.free z))
  ·cases e:H a with
  |none=>exact .inr (.inl rfl)
  |some o =>
    rw[p.h _ _ e] at z
    exact .inr (.inr ⟨xs,z⟩)⟩
theorem Stp.keep{B H B' H':Hp}(p:Stp B H B' H'){a:Addr}(hb:B a=none)(hh:H a≠none)(nt:∀xs,H a≠some (.tup xs)):B' a=none:=by
 cases e:B' a with
|none=>rfl
|some o =>
  rcases p.d a (by rw[e];exact λz=>by cases z) with z|z|⟨xs,z⟩
  ·exact absurd hb z
  ·exact absurd z hh
  ·exact absurd z (nt xs)
theorem Stp.grow{B H H':Hp}(s:Same B H)(h:Same H H'):Stp B H B H':=⟨Same.refl _,h,s.trans h,λ_ z=>.inl z⟩
theorem Stp.new{B H:Hp}{p:Addr}{o:HO}(s:Same B H)(hp:H p=none):Stp B H (upd B p o) (upd H p o) :=
 ⟨qae (s.free hp) o,qae hp o,λb u e=>by
  unfold upd at e ⊢
  by_cases z:b=p
  ·rw[if_pos z] at e ⊢
   exact e
  ·rw[if_neg z] at e ⊢
   exact s _ _ e,λa h=>by
  by_cases z:a=p
  ·exact .inr (.inl (z▸hp))
  ·rw[qal z] at h
   exact .inl h⟩
section
variable {K:PySem.W.Frag} {B H B' H' H0:Hp} {d:D} {a:Addr} {r:R} {v:V}
theorem OwnAt.some(h:OwnAt K B H d a):H a≠none:=by
 unfold OwnAt at h
 split at h
 ·obtain⟨xs,e,_⟩:=h;rw[e];exact λz=>by cases z
 ·obtain⟨xs,e,_⟩:=h;rw[e];exact λz=>by cases z
 ·obtain⟨xs,e,_⟩:=h;rw[e];exact λz=>by cases z
 ·obtain⟨xs,e,_⟩:=h;rw[e];exact λz=>by cases z
 ·obtain⟨xs,e,_⟩:=h;rw[e];exact λz=>by cases z
 ·obtain⟨xs,⟨C,dx,e,_⟩,_⟩:=h;rw[e];exact λz=>by cases z
 ·exact h.elim
theorem OwnAt.nt(h:OwnAt K B H d a):∀xs,H a≠Option.some (.tup xs):=by
 intro ys
 unfold OwnAt at h
 split at h
 ·obtain⟨xs,e,_⟩:=h;rw[e];exact λz=>by cases z
 ·obtain⟨xs,e,_⟩:=h;rw[e];exact λz=>by cases z
 ·obtain⟨xs,e,_⟩:=h;rw[e];exact λz=>by cases z
 ·obtain⟨xs,e,_⟩:=h;rw[e];exact λz=>by cases z
 ·obtain⟨xs,e,_⟩:=h;rw[e];exact λz=>by cases z
 ·obtain⟨xs,⟨C,dx,e,_⟩,_⟩:=h;rw[e];exact λz=>by cases z
 ·exact h.elim
theorem OwnAt.step(h:OwnAt K B H d a)(b:Same B B')(e:H' a=H a):OwnAt K B' H' d a:=by
 unfold OwnAt at h ⊢
 split at h
 ·obtain⟨xs,q,r⟩:=h;exact⟨xs,by rw[e,q],r.same b⟩
 ·obtain⟨xs,q,k,r⟩:=h;exact⟨xs,by rw[e,q],k,r.same b⟩
 ·obtain⟨xs,q,k,r⟩:=h;exact⟨xs,by rw[e,q],k,r.same b⟩
 ·obtain⟨xs,q,k,r⟩:=h;exact⟨xs,by rw[e,q],k,r.same b⟩
 ·obtain⟨xs,q,z,k,r⟩:=h;exact⟨xs,by rw[e,q],z,k,r.same b⟩
 ·obtain⟨xs,⟨C,dx,q,c⟩,z,k,r⟩:=h;exact⟨xs,⟨C,dx,by rw[e,q],c⟩,z,k,r.same b⟩
 ·exact h.elim
theorem Same.at{a:Addr}(h:Same H H')(n:H a≠none):H' a=H a:=by
 cases e:H a with
|none=>exact absurd e n
|some o=>exact h _ _ e
theorem Pk.step(h:Pk K B H r v)(p:Stp B H B' H'):Pk K B' H' r v:=by
 cases r with
|val d=>exact Rep.same p.b h
|own d =>
  obtain⟨a,e,q,o⟩:=h
  exact⟨a,e,p.keep q o.some o.nt,o.step p.b (p.h.at o.some)⟩
|peek d =>
  obtain⟨a,e,q,o⟩:=h
  exact⟨a,e,p.keep q o.some o.nt,o.step p.b (p.h.at o.some)⟩
|exc n=>exact h.elim
theorem RepR.pk(h:RepR K B H0 H r v):Pk K B H r v:=by
 cases r with
|val d=>exact h
|own d =>
  obtain⟨a,e,_,q,o⟩:=h
  exact⟨a,e,q,o⟩
|peek d=>exact h
|exc n=>exact h
theorem OwnAt.rep(s:Same B H)(h:OwnAt K B H d a):Rep K H d (.ref a):=by
 unfold OwnAt at h
 split at h
 ·obtain⟨xs,q,r⟩:=h;unfold Rep;exact⟨a,xs,rfl,q,r.same s⟩
 ·obtain⟨xs,q,k,r⟩:=h;unfold Rep;exact⟨a,xs,rfl,.inl q,k,r.same s⟩
 ·obtain⟨xs,q,k,r⟩:=h;unfold Rep;exact⟨a,xs,rfl,q,k,r.same s⟩
 ·obtain⟨xs,q,rfl,r⟩:=h;unfold Rep;exact⟨xs,rfl,q,r.same s⟩
 ·obtain⟨xs,q,rfl,k,r⟩:=h;unfold Rep;exact⟨xs,rfl,q,k,r.same s⟩
 ·obtain⟨xs,⟨C,dx,q,c⟩,rfl,k,r⟩:=h;unfold Rep;exact⟨xs,rfl,⟨C,dx,q,c⟩,k,r.same s⟩
 ·exact h.elim
theorem Pk.rep(s:Same B H)(h:Pk K B H r v):Rep K H r.d v:=by
 cases r with
|val d=>exact Rep.same s h
|own d =>
  obtain⟨a,rfl,_,o⟩:=h
  exact o.rep s
|peek d =>
  obtain⟨a,rfl,_,o⟩:=h
  exact o.rep s
|exc n=>exact h.elim
theorem OwnAt.pub(h:OwnAt K B H d a)(hb:B a=none):∃o,H a=Option.some o/\Rep K (upd B a o) d (.ref a):=by
 unfold OwnAt at h
 split at h
 ·obtain⟨xs,q,r⟩:=h
  refine⟨_,q,?_⟩
  unfold Rep
  exact⟨a,xs,rfl,qag,r.same (qae hb _)⟩
 ·obtain⟨xs,q,k,r⟩:=h
  refine⟨_,q,?_⟩
  unfold Rep
  exact⟨a,xs,rfl,.inl qag,k,r.same (qae hb _)⟩
 ·obtain⟨xs,q,k,r⟩:=h
  refine⟨_,q,?_⟩
  unfold Rep
  exact⟨a,xs,rfl,qag,k,r.same (qae hb _)⟩
 ·obtain⟨xs,q,rfl,r⟩:=h
  refine⟨_,q,?_⟩
  unfold Rep
  exact⟨xs,rfl,qag,r.same (qae hb _)⟩
 ·obtain⟨xs,q,rfl,k,r⟩:=h
  refine⟨_,q,?_⟩
  unfold Rep
  exact⟨xs,rfl,qag,k,r.same (qae hb _)⟩
 ·obtain⟨xs,⟨C,dx,q,c⟩,rfl,k,r⟩:=h
  refine⟨_,q,?_⟩
  unfold Rep
  exact⟨xs,rfl,⟨C,dx,qag,c⟩,k,r.same (qae hb _)⟩
 ·exact h.elim
theorem qhc{o:HO}(s:Same B H)(e:H a=Option.some o):Same (upd B a o) H:=λb u q=>by
 unfold upd at q
 by_cases z:b=a
 ·rw[if_pos z] at q
  rw[z,e]
  exact q
 ·rw[if_neg z] at q
  exact s _ _ q
def pubR:R->(D->Prop)->Prop
|.val d,Q=>Q d
|.own d,Q=>Q d
|.peek _,_=>False
|.exc _,_=>False
def exR:R->(R->Prop)->Prop->Prop
|.exc n,Q,_=>Q (.exc n)
|.val _,_,k=>k
|.own _,_,k=>k
|.peek _,_,k=>k
theorem pub{Q:D->Prop}(p:Stp B H B' H')(h:RepR K B' H H' r v)(q:pubR r Q):∃d B2,Stp B H B2 H'/\Same B' B2/\Rep K B2 d v/\Q d:=by
 cases r with
|val d=>exact⟨d,B',p,Same.refl _,h,q⟩
|own d =>
  obtain⟨a,rfl,h0,hb,o⟩:=h
  obtain⟨u,e,rp⟩:=o.pub hb
  refine⟨d,upd B' a u,⟨p.b.trans (qae hb _),p.h,qhc p.s e,λc z=>?_⟩,qae hb _,rp,q⟩
  by_cases w:c=a
  ·exact .inr (.inl (w▸h0))
  ·rw[qal w] at z
   exact p.d c z
|peek d=>exact q.elim
|exc n=>exact q.elim
def FzD(K:PySem.W.Frag)(B:Hp)(d:D)(v:V):Prop:=∃a ks ds kvs o,d=.dT ks ds/\v=.ref a/\B a=some (.frz o (.dT kvs))/\kvs.map (·.1)=ks.map wK/\Reps K B ds (kvs.map (·.2))
mutual
def NewD(H0 B:Hp):D->V->Prop
|.lst ds,v=>∃a xs,v=.ref a/\B a=some (.lst xs)/\H0 a=none/\NewDs H0 B ds xs
|_,_=>True
def NewDs(H0 B:Hp):List D->List V->Prop
|d::ds,x::xs=>NewD H0 B d x/\NewDs H0 B ds xs
|_,_=>True
end
mutual
theorem NewD.same{H0 B B':Hp}(s:Same B B'):∀(d:D) (v:V),NewD H0 B d v->NewD H0 B' d v
|.lst ds,v,h=>by
  unfold NewD at h ⊢
  obtain⟨a,xs,e1,e2,e3,e4⟩:=h
  exact⟨a,xs,e1,s _ _ e2,e3,NewDs.same s ds xs e4⟩
|.non,_,_|.bl _,_,_|.int _,_,_|.str _,_,_|.tup _,_,_|.dT ..,_,_|.dK ..,_,_|.scr _,_,_|.kt _,_,_|.exc _,_,_|.io ..,_,_|.ioT ..,_,_|.ob ..,_,_|.adr _,_,_|.fT ..,_,_=>by unfold NewD;trivial
theorem NewDs.same{H0 B B':Hp}(s:Same B B'):∀(ds:List D) (xs:List V),NewDs H0 B ds xs->NewDs H0 B' ds xs
|d::ds,x::xs,h=>by
  unfold NewDs at h ⊢
  exact⟨NewD.same s d x h.1,NewDs.same s ds xs h.2⟩
|[],_,_=>by unfold NewDs;trivial
|_::_,[],_=>by unfold NewDs;trivial
end
def q26(ds:List D):Prop:=∀d∈ds,match d with
|.lst _=>False
|_=>True
def NewR(H0 B:Hp)(d:D)(v:V):Prop:=match d with
|.tup ds=>q26 ds\/∃a xs,v=.ref a/\B a=some (.tup xs)/\NewDs H0 B ds xs
|_=>NewD H0 B d v
def FzAt(K:PySem.W.Frag)(H0 B:Hp)(d:D)(v:V):Prop:=FzD K B d v\/∃ds,d=.lst ds/\Rep K B d v/\NewD H0 B d v
theorem FzAt.same{H0:Hp}(h:FzAt K H0 B d v)(s:Same B B'):FzAt K H0 B' d v:=by
 rcases h with ⟨a,ks,ds,kvs,o,e1,e2,e3,e4,e5⟩|⟨ds,e,r,n⟩
 ·exact .inl ⟨a,ks,ds,kvs,o,e1,e2,s _ _ e3,e4,e5.same s⟩
 ·exact .inr ⟨ds,e,r.same s,NewD.same s _ _ n⟩
theorem FzAt.rep{H0:Hp}(h:FzAt K H0 B d v):Rep K B d v:=by
 rcases h with ⟨a,ks,ds,kvs,o,rfl,e2,e3,e4,e5⟩|⟨ds,e,r,n⟩
 ·unfold Rep
  exact⟨a,kvs,e2,.inr ⟨o,e3⟩,e4,e5⟩
 ·exact r
structure Slots(K:PySem.W.Frag)(H0 B H:Hp)(τ:VSt)(σ:St):Prop where
 len:σ.length=τ.length
 val:∀(i:Nat) (d:D),τ[i]?=some (some (R.val d))->∃v,σ[i]?=some (some v)/\Rep K B d v
 fz:∀(i:Nat) (d:D),τ[i]?=some (some (R.peek d))->∃v,σ[i]?=some (some v)/\FzAt K H0 B d v
 own:∀(i:Nat) (d:D),τ[i]?=some (some (R.own d))->∃a,σ[i]?=some (some (.ref a))/\H0 a=none/\B a=none/\OwnAt K B H d a
 sep:∀(i j:Nat) (d e:D) (a:Addr),τ[i]?=some (some (R.own d))->τ[j]?=some (some (R.own e))->σ[i]?=some (some (.ref a))->σ[j]?=some (some (.ref a))->i=j
variable {τ:VSt} {σ:St}
theorem Slots.step(S:Slots K H0 B H τ σ)(p:Stp B H B' H'):Slots K H0 B' H' τ σ where
 len:=S.len
 val:=λi d e=>let ⟨v,q,r⟩:=S.val i d e;⟨v,q,r.same p.b⟩
 fz:=λi d e=>let ⟨v,q,r⟩:=S.fz i d e;⟨v,q,r.same p.b⟩
 own:=λi d e=>let ⟨a,q,h0,hb,o⟩:=S.own i d e;⟨a,q,h0,p.keep hb o.some o.nt,o.step p.b (p.h.at o.some)⟩
 sep:=S.sep
theorem qbs{α:Type}{xs:List α}{i j:Nat}{x y:α}(h:(xs.set i x)[j]?=some y):(i=j/\x=y/\i<xs.length)\/(i≠j/\xs[j]?=some y):=by
 by_cases e:i=j
 ·subst e
  by_cases l:i<xs.length
  ·rw[List.getElem?_set_self l] at h
   exact .inl ⟨rfl,Option.some.inj h,l⟩
  ·rw[List.getElem?_eq_none (by rw[List.length_set];lia)] at h
   cases h
 ·rw[List.getElem?_set_ne e] at h
  exact .inr ⟨e,h⟩
theorem Slots.setVal(S:Slots K H0 B H τ σ)(i:Nat)(h:Rep K B d v):Slots K H0 B H (τ.set i (some (.val d))) (σ.set i (some v)) where
 len:=by rw[List.length_set,List.length_set,S.len]
 val:=λj e q=>by
  rcases qbs q with ⟨rfl,z,l⟩|⟨n,q⟩
  ·cases z
   exact⟨v,List.getElem?_set_self (by rw[S.len];exact l),h⟩
  ·obtain⟨w,q,r⟩:=S.val j e q
   exact⟨w,by rw[List.getElem?_set_ne n];exact q,r⟩
 fz:=λj e q=>by
  rcases qbs q with ⟨rfl,z,l⟩|⟨n,q⟩
  ·cases z
  ·obtain⟨w,q,r⟩:=S.fz j e q
   exact⟨w,by rw[List.getElem?_set_ne n];exact q,r⟩
 own:=λj e q=>by
  rcases qbs q with ⟨rfl,z,l⟩|⟨n,q⟩
  ·cases z
  ·obtain⟨w,q,r⟩:=S.own j e q
   exact⟨w,by rw[List.getElem?_set_ne n];exact q,r⟩
 sep:=λj k e f c q1 q2 q3 q4=>by
  rcases qbs q1 with ⟨rfl,z,l⟩|⟨n,q1⟩
  ·cases z
  rcases qbs q2 with ⟨rfl,z,l⟩|⟨n2,q2⟩
  ·cases z
  rw[List.getElem?_set_ne n] at q3
  rw[List.getElem?_set_ne n2] at q4
  exact S.sep j k e f c q1 q2 q3 q4
theorem Slots.setOwn(S:Slots K H0 B H τ σ)(i:Nat)(h0:H0 a=none)(hb:B a=none)(o:OwnAt K B H d a)(nw:∀(j:Nat) (e:D),τ[j]?=some (some (.own e))->σ[j]?≠some (some (.ref a))) :
  Slots K H0 B H (τ.set i (some (.own d))) (σ.set i (some (.ref a))) where
 len:=by rw[List.length_set,List.length_set,S.len]
 val:=λj e q=>by
  rcases qbs q with ⟨rfl,z,l⟩|⟨n,q⟩
  ·cases z
  ·obtain⟨w,q,r⟩:=S.val j e q
   exact⟨w,by rw[List.getElem?_set_ne n];exact q,r⟩
 fz:=λj e q=>by
  rcases qbs q with ⟨rfl,z,l⟩|⟨n,q⟩
  ·cases z
  ·obtain⟨w,q,r⟩:=S.fz j e q
   exact⟨w,by rw[List.getElem?_set_ne n];exact q,r⟩
 own:=λj e q=>by
  rcases qbs q with ⟨rfl,z,l⟩|⟨n,q⟩
  ·cases z
   exact⟨a,List.getElem?_set_self (by rw[S.len];exact l),h0,hb,o⟩
  ·obtain⟨w,q,r⟩:=S.own j e q
   exact⟨w,by rw[List.getElem?_set_ne n];exact q,r⟩
 sep:=λj k e f c q1 q2 q3 q4=>by
  rcases qbs q1 with ⟨rfl,z,l⟩|⟨n,q1⟩
  ·rcases qbs q2 with ⟨rfl,z,l2⟩|⟨n2,q2⟩
   ·rfl
   ·rw[List.getElem?_set_self (by rw[S.len];exact l)] at q3
    cases q3
    rw[List.getElem?_set_ne n2] at q4
    exact absurd q4 (nw k f q2)
  ·rcases qbs q2 with ⟨rfl,z,l2⟩|⟨n2,q2⟩
   ·rw[List.getElem?_set_self (by rw[S.len];exact l2)] at q4
    cases q4
    rw[List.getElem?_set_ne n] at q3
    exact absurd q3 (nw j e q1)
   ·rw[List.getElem?_set_ne n] at q3
    rw[List.getElem?_set_ne n2] at q4
    exact S.sep j k e f c q1 q2 q3 q4
theorem Slots.upd(S:Slots K H0 B H τ σ){i:Nat}{e:D}{o:HO}(hi:τ[i]?=some (some (.own e)))(ha:σ[i]?=some (some (.ref a)))(n:OwnAt K B (upd H a o) d a) :
  Slots K H0 B (upd H a o) (τ.set i (some (.own d))) σ where
 len:=by rw[List.length_set,S.len]
 val:=λj f q=>by
  rcases qbs q with ⟨rfl,z,l⟩|⟨n,q⟩
  ·cases z
  ·exact S.val j f q
 fz:=λj f q=>by
  rcases qbs q with ⟨rfl,z,l⟩|⟨n,q⟩
  ·cases z
  ·exact S.fz j f q
 own:=λj f q=>by
  rcases qbs q with ⟨rfl,z,l⟩|⟨ne,q⟩
  ·cases z
   obtain⟨c,q1,h0,hb,_⟩:=S.own i e hi
   rw[ha] at q1
   cases q1
   exact⟨a,ha,h0,hb,n⟩
  ·obtain⟨c,q1,h0,hb,w⟩:=S.own j f q
   refine⟨c,q1,h0,hb,w.step (Same.refl _) (qal λz=>?_)⟩
   subst z
   exact ne (S.sep i j e f c hi q ha q1)
 sep:=λj k e' f c q1 q2 q3 q4=>by
  have hj:∃e',τ[j]?=some (some (.own e')):=by
   rcases qbs q1 with ⟨rfl,z,l⟩|⟨_,q⟩
   ·exact⟨e,hi⟩
   ·exact⟨_,q⟩
  have hk:∃e',τ[k]?=some (some (.own e')):=by
   rcases qbs q2 with ⟨rfl,z,l⟩|⟨_,q⟩
   ·exact⟨e,hi⟩
   ·exact⟨_,q⟩
  obtain⟨_,hj⟩:=hj
  obtain⟨_,hk⟩:=hk
  exact S.sep j k _ _ c hj hk q3 q4
theorem Stp.upd(p:Stp B H B' H'){o:HO}(h0:H a=none)(hb:B' a=none):Stp B H B' (L2.upd H' a o) :=
 ⟨p.b,p.h.put h0,λb u q=>by
  rw[qal (λz=>by rw[z,hb] at q;cases q)]
  exact p.s _ _ q,p.d⟩
def frz(i:Nat)(τ:VSt):VSt:=match τ[i]? with
|some (some (.own d))=>τ.set i (some (.val d))
|_=>τ
theorem Slots.frz(S:Slots K H0 B' H' τ σ)(p:Stp B H0 B' H')(i:Nat):∃B2,Stp B H0 B2 H'/\Same B' B2/\Slots K H0 B2 H' (frz i τ) σ:=by
 unfold L2.frz
 split
 ·rename_i d e
  obtain⟨a,q,h0,hb,o⟩:=S.own i d e
  obtain⟨u,eu,rp⟩:=o.pub hb
  refine⟨L2.upd B' a u,⟨p.b.trans (qae hb _),p.h,qhc p.s eu,λc z=>?_⟩,qae hb _,?_⟩
  ·by_cases w:c=a
   ·exact .inr (.inl (w▸h0))
   ·rw[qal w] at z
    exact p.d c z
  ·refine⟨by rw[List.length_set,S.len],λj f q'=>?_,λj f q'=>?_,λj f q'=>?_,λj k f g c q1 q2 q3 q4=>?_⟩
   ·rcases qbs q' with ⟨rfl,z,l⟩|⟨n,q'⟩
    ·cases z
     exact⟨_,q,rp⟩
    ·obtain⟨w,q1,r⟩:=S.val j f q'
     exact⟨w,q1,r.same (qae hb _)⟩
   ·rcases qbs q' with ⟨rfl,z,l⟩|⟨n,q'⟩
    ·cases z
    ·obtain⟨w,q1,r⟩:=S.fz j f q'
     exact⟨w,q1,r.same (qae hb _)⟩
   ·rcases qbs q' with ⟨rfl,z,l⟩|⟨n,q'⟩
    ·cases z
    ·obtain⟨c,q1,h0',hb',w⟩:=S.own j f q'
     have ne:c≠a:=λz=>by subst z;exact n (S.sep i j d f c e q' q q1)
     exact⟨c,q1,h0',by rw[qal ne];exact hb',w.step (qae hb _) rfl⟩
   ·rcases qbs q1 with ⟨rfl,z,l⟩|⟨n,q1⟩
    ·cases z
    rcases qbs q2 with ⟨rfl,z,l⟩|⟨n2,q2⟩
    ·cases z
    exact S.sep j k f g c q1 q2 q3 q4
 ·exact⟨B',p,Same.refl _,S⟩
end
end L2
namespace L2
open PySem PySem.Spec PyProof.Rows
abbrev TV:=VSt->(R->Prop)->Prop
abbrev TVT:=VSt->(Bool->Prop)->Prop
inductive AR where
|ok (ds:List D)
|exc (n:Str)
abbrev TVA:=VSt->(AR->Prop)->Prop
abbrev TVG:=D->VSt->(VSt->Prop)->Prop
structure VEnds where
 nx:VSt->Prop
 rt:R->Prop
 bk:VSt->Prop:=λ_=>False
 ct:VSt->Prop:=λ_=>False
 xc:VSt->Str->Prop:=λ_ _=>False
 ro:VSt->R->Prop:=λ_ _=>False
 rn:D->Prop:=λ_=>False
abbrev TVS:=VEnds->VSt->Prop
section
variable (K:PySem.W.Frag) (EX:St->XK)
def RfE(te:TE)(t:TV):Prop:=∀(H0 B H:Hp) (τ:VSt) (σ:St) (Q:VK) (Qd:R->Prop),Same B H->Slots K H0 B H τ σ->t τ Qd->(∀n C B' H',Stp B H B' H'->clsOf K n C->Qd (.exc n)->EX σ (.ref C) none H')->(∀r v B' H',Stp B H B' H'->RepR K B' H H' r v->Qd r->Q v H')->te σ H Q
def RfT(te:TT)(t:TVT):Prop:=∀(H0 B H:Hp) (τ:VSt) (σ:St) (Q:Bool->Hp->Prop) (Qd:Bool->Prop),Same B H->Slots K H0 B H τ σ->t τ Qd->(∀b B' H',Stp B H B' H'->Qd b->Q b H')->te σ H Q
def RfA(te:TA)(t:TVA):Prop:=∀(H0 B H:Hp) (τ:VSt) (σ:St) (Q:List V->Hp->Prop) (Qd:AR->Prop),Same B H->Slots K H0 B H τ σ->t τ Qd->(∀n C B' H',Stp B H B' H'->clsOf K n C->Qd (.exc n)->EX σ (.ref C) none H')->(∀ds vs B' H',Stp B H B' H'->Reps K B' ds vs->Qd (.ok ds)->Q vs H')->te σ H Q
def RfO(r:R2)(rd:R->R->(R->Prop)->Prop):Prop:=∀(B H:Hp) (x y:V) (rx ry:R) (Q:VK) (Qd:R->Prop),Same B H->Pk K B H rx x->Pk K B H ry y->rd rx ry Qd->(∀r v B' H',Stp B H B' H'->RepR K B' H H' r v->Qd r->Q v H')->r x y H Q
def RfC(r:List V->Hp->VK->Prop)(rd:R->(R->Prop)->Prop):Prop:=∀(B H:Hp) (x:V) (rx:R) (Q:VK) (Qd:R->Prop),Same B H->Pk K B H rx x->rd rx Qd->(∀r v B' H',Stp B H B' H'->RepR K B' H H' r v->Qd r->Q v H')->r [x] H Q
def Kp(τ:VSt)(σ:St)(τ':VSt)(σ':St):Prop:=∀(j:Nat) (e:D),τ'[j]?=some (some (R.own e))->τ[j]?=some (some (R.own e))/\σ'[j]?=σ[j]?
def RfG(g:TG)(t:TVG):Prop:=∀(H0 B H:Hp) (τ:VSt) (σ:St) (x:V) (d:D) (Q:St->Hp->Prop) (Qd:VSt->Prop),Same B H->Slots K H0 B H τ σ->Rep K B d x->t d τ Qd->(∀τ' σ',Slots K H0 B H τ' σ'->Kp τ σ τ' σ'->Qd τ'->Q σ' H)->g x σ H Q
def RfGs(g:TGs)(t:List D->VSt->(VSt->Prop)->Prop):Prop:=∀(H0 B H:Hp) (τ:VSt) (σ:St) (xs:List V) (ds:List D) (Q:St->Hp->Prop) (Qd:VSt->Prop),Same B H->Slots K H0 B H τ σ->Reps K B ds xs->t ds τ Qd->(∀τ' σ',Slots K H0 B H τ' σ'->Kp τ σ τ' σ'->Qd τ'->Q σ' H)->g xs σ H Q
def ItOk(B:Hp)(J:It)(ds:List D):Prop:=∀(i:Nat) (B2 H:Hp),Same B B2->Same B2 H->(∀d,ds[i]?=some d->J.go i H/\∀x H',J.yld i H x H'->∃B3,Stp B2 H B3 H'/\Rep K B3 d x)/\(ds[i]?=none->J.stop i H)
def RfI(wi:TI)(vi:TVA):Prop:=∀(H0 B H:Hp) (τ:VSt) (σ:St) (Q:It->Hp->Prop) (Qd:AR->Prop),Same B H->Slots K H0 B H τ σ->vi τ Qd->(∀n C B' H',Stp B H B' H'->clsOf K n C->Qd (.exc n)->EX σ (.ref C) none H')->(∀J ds B' H',Stp B H B' H'->ItOk K B' J ds->Qd (.ok ds)->Q J H')->wi σ H Q
def RfF(ti:TF)(t:TVT):Prop:=∀(H0 B H:Hp) (τ:VSt) (σ:St) (Y N:Hp->Prop) (Qd:Bool->Prop),Same B H->Slots K H0 B H τ σ->t τ Qd->(∀b B' H',Stp B H B' H'->Qd b->if b=true then Y H' else N H')->ti σ H Y N
structure EndsOk(B0 H0:Hp)(Dv:VEnds)(Dh:Ends):Prop where
 nx:∀B H τ σ,Stp B0 H0 B H->Slots K H0 B H τ σ->Dv.nx τ->Dh.nx σ H
 rt:∀r v B H,Stp B0 H0 B H->RepR K B H0 H r v->Dv.rt r->Dh.rt v H
 bk:∀B H τ σ,Stp B0 H0 B H->Slots K H0 B H τ σ->Dv.bk τ->Dh.bk σ H
 ct:∀B H τ σ,Stp B0 H0 B H->Slots K H0 B H τ σ->Dv.ct τ->Dh.ct σ H
 xc:∀B H τ σ n C,Stp B0 H0 B H->Slots K H0 B H τ σ->clsOf K n C->Dv.xc τ n->EX σ (.ref C) none H
 ro:∀r v B H τ σ,Stp B0 H0 B H->Slots K H0 B H τ σ->RepR K B H0 H r v->(∀(d e:D) (i:Nat) (c:Addr),r=R.own d->τ[i]?=some (some (R.own e))->ioA e=some c->v≠.ref c)->Dv.ro τ r->Dh.rt v H
 rn:∀d v B H,Stp B0 H0 B H->Rep K B d v->NewR H0 B d v->Dv.rn d->Dh.rt v H
def RfS(ts:TS)(t:TVS):Prop:=∀(B0 H0 B H:Hp) (τ:VSt) (σ:St) (Dv:VEnds) (Dh:Ends),Stp B0 H0 B H->Slots K H0 B H τ σ->t Dv τ->EndsOk K EX B0 H0 Dv Dh->ts Dh σ H
end
section
structure VE(X:Cx)(EX:St->XK)(e:Expr)(t:TV):Prop where
 u:∃te,QE X e te/\RfE X.K EX te t
structure VC(X:Cx)(EX:St->XK)(e:Expr)(t:TV):Prop where
 u:∃te,QC X e te/\RfE X.K EX te t
structure VT(X:Cx)(EX:St->XK)(e:Expr)(t:TVT):Prop where
 u:∃te,QT X e te/\RfT X.K te t
structure VW(X:Cx)(EX:St->XK)(e:Expr)(t:TVT):Prop where
 u:∃te,QW X e te/\RfT X.K te t
structure VA(X:Cx)(EX:St->XK)(es:List Expr)(t:TVA):Prop where
 u:∃te,QA X es te/\RfA X.K EX te t
structure VI(X:Cx)(EX:St->XK)(tg e:Expr)(t:TVA):Prop where
 u:∃wi,QI X tg e wi/\RfI X.K EX wi t
structure VFs(X:Cx)(EX:St->XK)(ifs:List Expr)(t:TVT):Prop where
 u:∃ti,QF X ifs ti/\RfF X.K ti t
structure VS(X:Cx)(EX:St->XK)(st:Stmt)(t:TVS):Prop where
 u:∃ts,QS X st ts/\RfS X.K EX ts t
structure VSs(X:Cx)(EX:St->XK)(st:List Stmt)(t:TVS):Prop where
 u:∃ts,QSs X st ts/\RfS X.K EX ts t
end
section
variable (X:Cx)
structure VO(f:Value->Value->Sem Value)(rd:R->R->(R->Prop)->Prop):Prop where
 u:∃r,OpR X f r/\RfO X.K r rd
structure VX(rd:R->R->(R->Prop)->Prop):Prop where
 u:∃r,IxR X r/\RfO X.K r rd
structure VF(f:Value)(rd:R->(R->Prop)->Prop):Prop where
 u:∃r,CallR X f r/\RfC X.K r rd
structure VG(tg:Expr)(t:TVG):Prop where
 u:∃g,QG X tg g/\RfG X.K g t
structure VGs(ts:List Expr)(t:List D->VSt->(VSt->Prop)->Prop):Prop where
 u:∃g,QGs X ts g/\RfGs X.K g t
end
section
variable {X:Cx} {EX:St->XK} {K:PySem.W.Frag} {a b c e o i:Expr} {es:List Expr} {pos pos' p p2 apos cpos:Pos} {x:Str} {ta tb tc te:TV} {tA:TVA} {tT tU:TVT} {B H B' H' H0 H1 H2:Hp} {r:R} {v:V}
theorem RepR.back(h:RepR K B H1 H2 r v)(s:Same H H1):RepR K B H H2 r v:=by
 cases r with
|val d=>exact h
|own d =>
  obtain⟨a,e,h0,q⟩:=h
  exact⟨a,e,s.free h0,q⟩
|peek d=>exact h
|exc n=>exact h
theorem Pk.scal{z:V}(h:Pk K B H r v)(e:dV r.d=some z):v=z:=by
 cases r with
|val d =>
  have e':dV d=some z:=e
  have h':Rep K B d v:=h
  cases d<;>first|(unfold Rep at h';subst h';exact Option.some.inj e')|(cases e';done)
|own d =>
  obtain⟨a,_,_,q⟩:=h
  have e':dV d=some z:=e
  cases d<;>first|(cases e';done)|exact q.elim
|peek d =>
  obtain⟨a,_,_,q⟩:=h
  have e':dV d=some z:=e
  cases d<;>first|(cases e';done)|exact q.elim
|exc n=>exact h.elim
theorem Pk.tup{ds:List D}(h:Pk K B H r v)(e:r.d=.tup ds):∃a xs,v=.ref a/\TupAt K B a ds xs/\Reps K B ds xs:=by
 cases r with
|val d =>
  cases (show d=_ from e)
  have h':Rep K B (.tup ds) v:=h
  unfold Rep at h'
  exact h'
|own d=>cases (show d=_ from e);obtain⟨_,_,_,q⟩:=h;exact q.elim
|peek d=>cases (show d=_ from e);obtain⟨_,_,_,q⟩:=h;exact q.elim
|exc n=>exact h.elim
theorem Pk.lst{ds:List D}(s:Same B H)(h:Pk K B H r v)(e:r.d=.lst ds):∃a xs,v=.ref a/\H a=some (.lst xs)/\Reps K B ds xs:=by
 cases r with
|val d =>
  cases (show d=_ from e)
  have h':Rep K B (.lst ds) v:=h
  unfold Rep at h'
  obtain⟨a,xs,rfl,q,rp⟩:=h'
  exact⟨a,xs,rfl,s _ _ q,rp⟩
|own d=>cases (show d=_ from e);obtain⟨a,rfl,_,xs,q,rp⟩:=h;exact⟨a,xs,rfl,q,rp⟩
|peek d=>cases (show d=_ from e);obtain⟨a,rfl,_,xs,q,rp⟩:=h;exact⟨a,xs,rfl,q,rp⟩
|exc n=>exact h.elim
theorem Pk.scr{ns:List Int}(s:Same B H)(h:Pk K B H r v)(e:r.d=.scr ns):∃a,v=.ref a/\SqL K H a (ns.map V.int):=by
 cases r with
|val d =>
  cases (show d=_ from e)
  have h':Rep K B (.scr ns) v:=h
  unfold Rep at h'
  obtain⟨a,rfl,q⟩:=h'
  exact⟨a,rfl,s.seq q⟩
|own d=>cases (show d=_ from e);obtain⟨_,_,_,q⟩:=h;exact q.elim
|peek d=>cases (show d=_ from e);obtain⟨_,_,_,q⟩:=h;exact q.elim
|exc n=>exact h.elim
theorem qh7{d:D}{z:V}(e:dV d=some z):Rep K B d z:=by
 cases d<;>first|(cases e;done)|(unfold Rep;exact(Option.some.inj e).symm)
theorem repV{d:D}{z:V}(e:dV d=some z):RepR K B H0 H (.val d) z:=qh7 e
theorem xst{B1:Hp}{σ:St}{P:Str->Prop}(x:∀n C B' H',Stp B H B' H'->clsOf K n C->P n->EX σ (.ref C) none H')(p:Stp B H B1 H1):∀n C B' H',Stp B1 H1 B' H'->clsOf K n C->P n->EX σ (.ref C) none H':=λn C B' H' q c h=>x n C B' H' (p.trans q) c h
theorem xno{σ:St}{P:Str->Prop}(h:∀n,¬ P n):∀n C B' H',Stp B H B' H'->clsOf K n C->P n->EX σ (.ref C) none H':=λn _ _ _ _ _ q=>absurd q (h n)
def vVar(i:Nat):TV:=λτ Q=>match τ[i]? with
|some (some (.val d))=>Q (.val d)
|some (some (.own d))=>Q (.peek d)
|some (some (.peek d))=>Q (.val d)
|_=>False
theorem q15{i:Nat}:RfE K EX (tVar i) (vVar i):=λH0 B H τ σ Q Qd s S h _ k=>by
 unfold vVar at h
 split at h
 ·rename_i d e
  obtain⟨v,q,rp⟩:=S.val i d e
  exact⟨v,q,k (.val d) v B H (.refl s) rp h⟩
 ·rename_i d e
  obtain⟨a,q,_,hb,ow⟩:=S.own i d e
  exact⟨.ref a,q,k (.peek d) (.ref a) B H (.refl s) ⟨a,rfl,hb,ow⟩ h⟩
 ·rename_i d e
  obtain⟨v,q,rp⟩:=S.fz i d e
  exact⟨v,q,k (.val d) v B H (.refl s) rp.rep h⟩
 ·exact h.elim
theorem vv(i:Nat)(hN:X.N[i]?=some x:=by rfl)(hv:Vis X.env.scope x:=by first|exact Or.inl rfl|exact Or.inr (Or.inl rfl)|exact Or.inr (Or.inr rfl))(hd:(x==("__debug__" : Str))=false:=by decide)
  (hcd:(x==("__classdict__" : Str))=false:=by decide):VE X EX (.Name x pos) (vVar i):=⟨_,qv i hN hv hd hcd,q15⟩
def vC(d:D):TV:=λ_ Q=>Q (.val d)
theorem rf_c{d:D}{z:V}(e:dV d=some z):RfE K EX (tC z) (vC d):=λ_ B H _ _ _ _ s _ h _ k=>k (.val d) z B H (.refl s) (qh7 e) h
theorem qab{k:Int}{j:Nat}:VE X EX (.Constant (.int k) j pos) (vC (.int k)):=⟨_,qvt,rf_c rfl⟩
theorem qk9{k:Bool}{j:Nat}:VE X EX (.Constant (.bool k) j pos) (vC (.bl k)):=⟨_,qhu,rf_c rfl⟩
theorem q2n{j:Nat}:VE X EX (.Constant .none j pos) (vC .non):=⟨_,qvu,rf_c rfl⟩
theorem qak{z:Str}{j:Nat}:VE X EX (.Constant (.str z) j pos) (vC (.str z)):=⟨_,qvw,rf_c rfl⟩
theorem RepR.ok{Q:R->Prop}{k:Prop}(h:RepR K B H0 H r v)(q:exR r Q k):k:=by
 cases r with
|exc n=>exact h.elim
|val d=>exact q
|own d=>exact q
|peek d=>exact q
def vOp(rd:R->R->(R->Prop)->Prop)(ta tb:TV):TV:=λτ Q=>ta τ λrx=>exR rx Q (tb τ λry=>exR ry Q (rd rx ry Q))
theorem qub{rr:R2}{rd:R->R->(R->Prop)->Prop}{ea eb:TE}(hr:RfO K rr rd)(ha:RfE K EX ea ta)(hb:RfE K EX eb tb):RfE K EX (tOp rr ea eb) (vOp rd ta tb):=λH0 B H τ σ Q Qd s S h xc k =>
 ha H0 B H τ σ _ _ s S h xc λrx x B1 H1 p1 q1 h1=>hb H0 B1 H1 τ σ _ _ p1.s (S.step p1) (q1.ok h1) (xst xc p1) λry y B2 H2 p2 q2 h2 =>
  hr B2 H2 x y rx ry _ _ p2.s (q1.pk.step p2) q2.pk (q2.ok h2) λr v B3 H3 p3 q3 h3=>k r v B3 H3 (p1.trans (p2.trans p3)) (q3.back (p1.trans p2).h) h3
theorem qau{op:Operator}{rd:R->R->(R->Prop)->Prop}(hr:VO X (binaryOp op) rd)(ha:VE X EX a ta)(hb:VE X EX b tb):VE X EX (.BinOp a op b pos) (vOp rd ta tb) :=
 let ⟨_,h1,h2⟩:=hr.u;let ⟨_,a1,a2⟩:=ha.u;let ⟨_,b1,b2⟩:=hb.u;⟨_,q3o h1 a1 b1,qub h2 a2 b2⟩
theorem qsf{op:CmpOp}{rd:R->R->(R->Prop)->Prop}(hr:VO X (compareOp op) rd)(ha:VE X EX a ta)(hb:VE X EX b tb)(hm:behindInMarks op b=false:=by with_unfolding_all rfl):VE X EX (.Compare a [op] [b] pos) (vOp rd ta tb) :=
 let ⟨_,h1,h2⟩:=hr.u;let ⟨_,a1,a2⟩:=ha.u;let ⟨_,b1,b2⟩:=hb.u;⟨_,qyj h1 a1 b1 hm,qub h2 a2 b2⟩
theorem qbd{rd:R->R->(R->Prop)->Prop}(hr:VX X rd)(ha:VE X EX a ta)(hb:VE X EX b tb)(hs:qlg b:=by exact λ_ _=>rfl):VE X EX (.Subscript a b pos) (vOp rd ta tb) :=
 let ⟨_,h1,h2⟩:=hr.u;let ⟨_,a1,a2⟩:=ha.u;let ⟨_,b1,b2⟩:=hb.u;⟨_,q1n h1 a1 b1 hs,qub h2 a2 b2⟩
def vBl(t:TV):TVT:=λτ Q=>t τ λr=>match r.d with
|.bl b=>Q b
|_=>False
theorem qua{ea:TE}(ha:RfE K EX ea ta):RfT K (tB ea) (vBl ta):=λH0 B H τ σ Q Qd s S h k=>ha H0 B H τ σ _ _ s S h (xno λ_ q=>q) λr v B' H' p q h1=>by
 split at h1
 ·rename_i bb e
  exact⟨bb,q.pk.scal (by rw[e];rfl),k bb B' H' p h1⟩
 ·exact h1.elim
theorem qds(ha:VE X EX e ta)(he:∀whole,isTrue e X.env whole=(do let v ←whole;standAt e.pos;holding [v] (truthy v)):=by intro _;rfl):VT X EX e (vBl ta) :=
 let ⟨_,a1,a2⟩:=ha.u;⟨_,qkx a1 he,qua a2⟩
theorem qa7{op:CmpOp}{rd:R->R->(R->Prop)->Prop}(hr:VO X (compareOp op) rd)(ha:VE X EX a ta)(hb:VE X EX b tb)(hm:behindInMarks op b=false:=by with_unfolding_all rfl):VT X EX (.Compare a [op] [b] pos) (vBl (vOp rd ta tb)) :=
 let ⟨_,h1,h2⟩:=hr.u;let ⟨_,a1,a2⟩:=ha.u;let ⟨_,b1,b2⟩:=hb.u;⟨_,qja h1 a1 b1 hm,qua (qub h2 a2 b2)⟩
def qe9(t u:TVT):TVT:=λτ Q=>t τ λc=>if c=true then u τ Q else Q false
def vOrT(t u:TVT):TVT:=λτ Q=>t τ λc=>if c=true then Q true else u τ Q
def qft(t:TVT):TVT:=λτ Q=>t τ λc=>Q (!c)
theorem q14{e1:TT}(h1:RfT K e1 tT):RfT K (tNot e1) (qft tT):=λH0 B H τ σ Q Qd s S h k=>h1 H0 B H τ σ _ _ s S h λb B' H' p q=>k _ B' H' p q
theorem q11{e1 e2:TT}(h1:RfT K e1 tT)(h2:RfT K e2 tU):RfT K (tAnd e1 e2) (qe9 tT tU):=λH0 B H τ σ Q Qd s S h k=>h1 H0 B H τ σ _ _ s S h λb B' H' p q=>by
 cases b with
|true=>exact iteT (h2 H0 B' H' τ σ _ _ p.s (S.step p) (by rw[if_pos rfl] at q;exact q) λb2 B2 H2 p2 q2=>k b2 B2 H2 (p.trans p2) q2)
|false=>exact iteF (k false B' H' p (by rw[if_neg Bool.false_ne_true] at q;exact q))
theorem q3t{e1 e2:TT}(h1:RfT K e1 tT)(h2:RfT K e2 tU):RfT K (tOr e1 e2) (vOrT tT tU):=λH0 B H τ σ Q Qd s S h k=>h1 H0 B H τ σ _ _ s S h λb B' H' p q=>by
 cases b with
|true=>exact iteT (k true B' H' p (by rw[if_pos rfl] at q;exact q))
|false=>exact iteF (h2 H0 B' H' τ σ _ _ p.s (S.step p) (by rw[if_neg Bool.false_ne_true] at q;exact q) λb2 B2 H2 p2 q2=>k b2 B2 H2 (p.trans p2) q2)
theorem qfe(h:VT X EX a tT):VT X EX (.UnaryOp .Not a pos) (qft tT):=let ⟨_,a1,a2⟩:=h.u;⟨_,qkw a1,q14 a2⟩
theorem qc6(h:VT X EX a tT):VW X EX (.BoolOp .And [a] pos) tT:=let ⟨_,a1,a2⟩:=h.u;⟨_,qyo a1,a2⟩
theorem qho(h:VT X EX a tT):VW X EX (.BoolOp .Or [a] pos) tT:=let ⟨_,a1,a2⟩:=h.u;⟨_,qvy a1,a2⟩
theorem qeh(ha:VT X EX a tT)(hb:VW X EX (.BoolOp .And (b::es) pos) tU):VW X EX (.BoolOp .And (a::b::es) pos) (qe9 tT tU):=let ⟨_,a1,a2⟩:=ha.u;let ⟨_,b1,b2⟩:=hb.u;⟨_,q1x a1 b1,q11 a2 b2⟩
theorem qj0(ha:VT X EX a tT)(hb:VW X EX (.BoolOp .Or (b::es) pos) tU):VW X EX (.BoolOp .Or (a::b::es) pos) (vOrT tT tU):=let ⟨_,a1,a2⟩:=ha.u;let ⟨_,b1,b2⟩:=hb.u;⟨_,q1y a1 b1,q3t a2 b2⟩
theorem vw_t(h:VW X EX e tT):VT X EX e tT:=let ⟨_,a1,a2⟩:=h.u;⟨_,qw_t a1,a2⟩
def qmr(ta tb:TV):TV:=λτ Q=>ta τ λr=>match r.d with
|.bl c=>if c=true then tb τ Q else Q (.val (.bl false))
|_=>False
def vOrE(ta tb:TV):TV:=λτ Q=>ta τ λr=>match r.d with
|.bl c=>if c=true then Q (.val (.bl true)) else tb τ Q
|_=>False
def qut(ta:TV):TV:=λτ Q=>ta τ λr=>match r.d with
|.bl c=>Q (.val (.bl (!c)))
|_=>False
theorem qsh{op:BoolOp}(h:VE X EX a ta):VE X EX (.BoolOp op [a] pos) ta:=let ⟨_,a1,a2⟩:=h.u;⟨_,qvv a1,a2⟩
theorem qoa(ha:VE X EX a ta)(hb:VE X EX (.BoolOp .And (b::es) pos) tb):VE X EX (.BoolOp .And (a::b::es) pos) (qmr ta tb) :=
 let ⟨_,a1,a2⟩:=ha.u;let ⟨_,b1,b2⟩:=hb.u;⟨_,qvs a1 b1,λH0 B H τ σ Q Qd s S h xc k=>a2 H0 B H τ σ _ _ s S h (xno λ_ q=>q) λr v B' H' p q h1=>by
  split at h1
  ·rename_i c e
   refine⟨c,q.pk.scal (by rw[e];rfl),?_⟩
   cases c with
  |true=>exact iteT (b2 H0 B' H' τ σ _ _ p.s (S.step p) (by rw[if_pos rfl] at h1;exact h1) (xst xc p) λr2 v2 B2 H2 p2 q2 h2=>k r2 v2 B2 H2 (p.trans p2) (q2.back p.h) h2)
  |false=>exact iteF (k (.val (.bl false)) _ B' H' p (repV (d:=.bl false) rfl) (by rw[if_neg Bool.false_ne_true] at h1;exact h1))
  ·exact h1.elim⟩
theorem q2o(ha:VE X EX a ta):VE X EX (.UnaryOp .Not a pos) (qut ta) :=
 let ⟨_,a1,a2⟩:=ha.u;⟨_,q1q a1,λH0 B H τ σ Q Qd s S h xc k=>a2 H0 B H τ σ _ _ s S h (xno λ_ q=>q) λr v B' H' p q h1=>by
  split at h1
  ·rename_i c e
   exact⟨c,q.pk.scal (by rw[e];rfl),k (.val (.bl (!c))) _ B' H' p (repV (d:=.bl (!c)) rfl) h1⟩
  ·exact h1.elim⟩
def vIfE(tT:TVT)(ta tb:TV):TV:=λτ Q=>tT τ λc=>if c=true then ta τ Q else tb τ Q
theorem quw(hc:VT X EX c tT)(ha:VE X EX a ta)(hb:VE X EX b tb):VE X EX (.IfExp c a b pos) (vIfE tT ta tb) :=
 let ⟨_,c1,c2⟩:=hc.u;let ⟨_,a1,a2⟩:=ha.u;let ⟨_,b1,b2⟩:=hb.u;⟨_,qt2 c1 a1 b1,λH0 B H τ σ Q Qd s S h xc k=>c2 H0 B H τ σ _ _ s S h λcb B' H' p q=>by
  cases cb with
 |true=>exact iteT (a2 H0 B' H' τ σ _ _ p.s (S.step p) (by rw[if_pos rfl] at q;exact q) (xst xc p) λr2 v2 B2 H2 p2 q2 h2=>k r2 v2 B2 H2 (p.trans p2) (q2.back p.h) h2)
 |  false=>exact iteF (b2 H0 B' H' τ σ _ _ p.s (S.step p) (by rw[if_neg Bool.false_ne_true] at q;exact q) (xst xc p) λr2 v2 B2 H2 p2 q2 h2=>k r2 v2 B2 H2 (p.trans p2) (q2.back p.h) h2)⟩
def exA:AR->(R->Prop)->(List D->Prop)->Prop
|.ok ds,_,k=>k ds
|.exc n,Q,_=>Q (.exc n)
def vNil:TVA:=λ_ Q=>Q (.ok [])
def qxk(d:D):AR->AR
|.ok ds=>.ok (d::ds)
|.exc n=>.exc n
def excA:R->(AR->Prop)->Prop->Prop
|.exc n,Q,_=>Q (.exc n)
|.val _,_,k=>k
|.own _,_,k=>k
|.peek _,_,k=>k
theorem RepR.okA{Q:AR->Prop}{k:Prop}(h:RepR K B H0 H r v)(q:excA r Q k):k:=by
 cases r with
|exc n=>exact h.elim
|val d=>exact q
|own d=>exact q
|peek d=>exact q
def qaa(te:TV)(tA:TVA):TVA:=λτ Q=>te τ λr=>excA r Q (pubR r λd=>tA τ λa=>Q (qxk d a))
theorem qah:VA X EX [] vNil:=⟨_,qaq,λ_ B H _ _ _ _ s _ h _ k=>k [] [] B H (.refl s) (by unfold Reps;rfl) h⟩
theorem vac(ha:VE X EX e te)(hr:VA X EX es tA)(hs:qa2 e=true:=by rfl):VA X EX (e::es) (qaa te tA) :=
 let ⟨_,a1,a2⟩:=ha.u;let ⟨_,b1,b2⟩:=hr.u;⟨_,qac a1 b1 hs,λH0 B H τ σ Q Qd s S h xc k=>a2 H0 B H τ σ _ _ s S h xc λr v B1 H1 p q h1=>by
  obtain⟨d,B2,p2,_,rp,h2⟩:=pub p q (q.okA h1)
  exact b2 H0 B2 H1 τ σ _ _ p2.s (S.step p2) h2 (xst xc p2) λds vs B3 H3 p3 q3 h3=>k (d::ds) (v::vs) B3 H3 (p2.trans p3) (by unfold Reps;exact⟨v,vs,rfl,rp.same p3.b,q3⟩) h3⟩
def vTup(tA:TVA):TV:=λτ Q=>tA τ λa=>exA a Q λds=>ds.length<=sizeLine/\Q (.val (.tup ds))
def vLst(tA:TVA):TV:=λτ Q=>tA τ λa=>exA a Q λds=>ds.length<=sizeLine/\Q (.own (.lst ds))
theorem qjb{ds:List D}{xs:List V}{q:Addr}(h:Reps K B ds xs)(hb:B q=none):Rep K (upd B q (.tup xs)) (.tup ds) (.ref q):=by
 unfold Rep
 exact⟨q,xs,rfl,.inl qag,h.same (qae hb _)⟩
theorem qdg{ds:List D}{xs:List V}{q:Addr}(h:Reps K B ds xs):OwnAt K B (upd H q (.lst xs)) (.lst ds) q:=⟨xs,qag,h⟩
theorem qa4{k:Nat}(h:VA X EX es tA):VE X EX (.Tuple es k pos) (vTup tA) :=
 let ⟨_,a1,a2⟩:=h.u;⟨_,qvx a1,λH0 B H τ σ Q Qd s S h xc k=>a2 H0 B H τ σ _ _ s S h xc λds vs B1 H1 p q h1 =>
  ⟨by rw[←q.length];exact h1.1,λad had=>k (.val (.tup ds)) _ (upd B1 ad (.tup vs)) _ (p.trans (.new p.s had)) (qjb q (p.s.free had)) h1.2⟩⟩
theorem qla(h:VA X EX es tA):VE X EX (.List es pos) (vLst tA) :=
 let ⟨_,a1,a2⟩:=h.u;⟨_,qg5 a1,λH0 B H τ σ Q Qd s S h xc k=>a2 H0 B H τ σ _ _ s S h xc λds vs B1 H1 p q h1 =>
  ⟨by rw[←q.length];exact h1.1,λad had=>k (.own (.lst ds)) _ B1 _ (p.trans (.grow p.s (qae had _))) ⟨ad,rfl,p.h.free had,p.s.free had,qdg q⟩ h1.2⟩⟩
abbrev DP:=List D->(R->Prop)->Prop
def spOf(K:PySem.W.Frag)(g:DP):Sp:=λvs H Q E=>∃ds B Qd,Same B H/\Reps K B ds vs/\g ds Qd/\(∀n C B' H',Qd (.exc n)->Stp B H B' H'->clsOf K n C->E (.ref C) none H')/\∀r v B' H',Qd r->Stp B H B' H'->RepR K B' H H' r v->Q v H'
def qse(g:DP)(tA:TVA):TV:=λτ Q=>tA τ λa=>exA a Q λds=>g ds Q
def qar(g:DP)(tA:TVA):TV:=λτ Q=>tA τ λa=>exA a Q λds=>g ds λr=>exR r (λ_=>False) (Q r)
theorem qas{k:Nat}{ps:List Str}{g:DP}(C:Cal X.prog X.w X.K X.mg X.base k x ps (spOf X.K g))(hr:Room k X.A)(hg:Gl X x)(ha:VA X EX (e::es) tA)(hp:(e::es).all qa2=true:=by rfl)(hdb:(x==("__debug__" : Str))=false:=by decide) :
  VE X EX (.Call (.Name x p) (e::es) [] pos) (qar g tA) :=
 let ⟨_,a1,a2⟩:=ha.u;⟨_,qdm C hr hg a1 hp hdb,λH0 B H τ σ Q Qd s S h xc k=>a2 H0 B H τ σ _ _ s S h xc λds vs B1 H1 p q h1 =>
  ⟨ds,B1,_,p.s,by rw[List.append_nil];exact q,h1,λn C B' H' hq _ _=>hq.elim,λr v B2 H2 hq p2 q2=>k r v B2 H2 (p.trans p2) (q2.back p.h) (q2.ok hq)⟩⟩
def vF1(rd:R->(R->Prop)->Prop)(te:TV):TV:=λτ Q=>te τ λr=>exR r Q (rd r Q)
theorem q12{rr:List V->Hp->VK->Prop}{rd:R->(R->Prop)->Prop}{ea:TE}(hr:RfC K rr rd)(ha:RfE K EX ea te):RfE K EX (tCB rr (qcm ea tNil)) (vF1 rd te):=λH0 B H τ σ Q Qd s S h xc k =>
 ha H0 B H τ σ _ _ s S h xc λrx x B1 H1 p1 q1 h1=>hr B1 H1 x rx _ _ p1.s q1.pk (q1.ok h1) λr v B2 H2 p2 q2 h2=>k r v B2 H2 (p1.trans p2) (q2.back p1.h) h2
theorem qeu{id:String}{rd:R->(R->Prop)->Prop}(hc:VF X (.builtin id) rd)(hg:Gl X x)(hm:X.mg x=none)(hv:bootBuiltins x=some (.builtin id))(ha:VE X EX e te)(hp:qa2 e=true:=by rfl)(hn:x≠"__name__" := by decide)
  (hdb:(x==("__debug__" : Str))=false:=by decide):VE X EX (.Call (.Name x p) [e] [] pos) (vF1 rd te) :=
 let ⟨_,c1,c2⟩:=hc.u;let ⟨_,a1,a2⟩:=ha.u;⟨_,qcb c1 hg hm hv (qac a1 qaq hp) (by simp[hp]) hn hdb,q12 c2 a2⟩
theorem qy6{T:String}{rd:R->(R->Prop)->Prop}(hc:VF X (.type T) rd)(hg:Gl X x)(hm:X.mg x=none)(hv:bootBuiltins x=some (.type T))(ha:VE X EX e te)(hp:qa2 e=true:=by rfl)(hn:x≠"__name__" := by decide)
  (hdb:(x==("__debug__" : Str))=false:=by decide):VE X EX (.Call (.Name x p) [e] [] pos) (vF1 rd te) :=
 let ⟨_,c1,c2⟩:=hc.u;let ⟨_,a1,a2⟩:=ha.u;⟨_,qct c1 hg hm hv (qac a1 qaq hp) (by simp[hp]) hn hdb,q12 c2 a2⟩
end
end L2
namespace L2
open PySem PySem.Spec PyProof.Rows
section
variable {X:Cx} {EX:St->XK} {K:PySem.W.Frag} {B H B' H' H0:Hp}
theorem op_catP:OpR X (binaryOp .Add) (λx y H Q=>∃a b xs ys,x=.ref a/\y=.ref b/\SqT X.K H a xs/\SqT X.K H b ys/\xs.length+ys.length<=sizeLine/\(xs=[]->Q (.ref b) H)/\(xs≠[]->ys=[]->Q (.ref a) H) /\
  (xs≠[]->ys≠[]->∀p,H p=none->Q (.ref p) (upd H p (.tup (xs++ys))))):=by
 intro pins s σ H x y v u Q I rx ry h
 obtain⟨a,b,xs,ys,rfl,rfl,ha,hb,hz,q1,q2,q3⟩:=h
 by_cases hx:xs=[]
 ·subst hx
  cases rx
  cases ry
  obtain⟨its,r1,p1,_⟩:=I.tuple ha
  obtain⟨its2,r2,p2,_⟩:=I.tuple hb
  obtain⟨⟨cls,dd,data,sl⟩,ho,hc,n,hd⟩:=id p1
  obtain⟨⟨cls2,dd2,data2,sl2⟩,ho2,hc2,n2,hd2⟩:=id p2
  simp only at hc hd hc2 hd2
  subst hc hd hc2 hd2
  have e1:its=[]:=r1.nil_iff.mpr rfl
  exact concat_meets ⟨_,ho,rfl⟩ ⟨_,ho2,rfl⟩ noFill_tuple_add seq_tuple_add PySem.F.slot_tuple_add PySem.F.entry_tuple_add (PySem.F.args_tuple_add_2 _ _)
   (tuple_addW0 a b its.toArray its2.toArray n n2 dd dd2 sl sl2 (by simp[e1])) ⟨ho,ho2,⟨.ref b,H,I,rfl,q1 rfl⟩⟩
 ·exact qxp pins s σ H (.ref a) (.ref b) v u Q I rx ry ⟨a,b,xs,ys,rfl,rfl,ha,hb,hx,hz,λe=>q2 hx e,λe p hp=>q3 hx e p hp⟩
theorem sl_tupP:SlR X (λx lo hi H Q=>∃a xs,x=.ref a/\SqT X.K H a xs/\((HT.sIx xs.length 0 lo=0/\HT.sIx xs.length xs.length hi=xs.length)->Q (.ref a) H) /\
  (¬ (HT.sIx xs.length 0 lo=0/\HT.sIx xs.length xs.length hi=xs.length)->∀p,H p=none->Q (.ref p) (upd H p (.tup (cutV xs lo hi))))):=by
 intro pins s σ H x v vl vu lo hi sl Q I rx hs pl pu h
 obtain⟨a,xs,rfl,hx,q1,q2⟩:=h
 by_cases hw:HT.sIx xs.length 0 lo=0/\HT.sIx xs.length xs.length hi=xs.length
 ·cases rx
  obtain⟨its,r,ht,hz⟩:=I.tuple hx
  have hlen:its.toArray.size=xs.length:=by rw[List.size_toArray];exact r.length.symm
  refine⟨"tuple",_,PyProof.Rows.slot_tuple_getitem.lookup,ht.typeIs,?_⟩
  exact HT.getItem_tuple_whole ht hs pl pu (by rw[hlen];exact hw) ⟨.ref a,H,I,rfl,q1 hw⟩
 ·exact q2a pins s σ H (.ref a) v vl vu lo hi sl Q I rx hs pl pu ⟨a,xs,rfl,hx,hw,q2 hw⟩
theorem Reps.append{ds es:List D}{xs ys:List V}(h1:Reps K B ds xs)(h2:Reps K B es ys):Reps K B (ds++es) (xs++ys):=by
 induction ds generalizing xs with
|nil=>unfold Reps at h1;subst h1;exact h2
|cons d ds ih =>
  unfold Reps at h1
  obtain⟨x,r,rfl,q1,q2⟩:=h1
  show Reps K B (d::(ds++es)) (x::(r++ys))
  unfold Reps
  exact⟨x,r++ys,rfl,q1,ih q2⟩
theorem Reps.nil:Reps K B [] []:=by unfold Reps;rfl
theorem Reps.cons{d:D}{ds:List D}{x:V}{xs:List V}(h1:Rep K B d x)(h2:Reps K B ds xs):Reps K B (d::ds) (x::xs):=by unfold Reps;exact⟨x,xs,rfl,h1,h2⟩
theorem Reps.one{d:D}{x:V}(h:Rep K B d x):Reps K B [d] [x]:=.cons h .nil
theorem Reps.drop:∀(n:Nat) {ds:List D} {xs:List V},Reps K B ds xs->Reps K B (ds.drop n) (xs.drop n)
|0,_,_,h=>h
|n+1,[],_,h=>by unfold Reps at h;subst h;exact .nil
|n+1,d::ds,_,h=>by
  unfold Reps at h
  obtain⟨x,r,rfl,q1,q2⟩:=h
  exact Reps.drop n q2
theorem Reps.take:∀(n:Nat) {ds:List D} {xs:List V},Reps K B ds xs->Reps K B (ds.take n) (xs.take n)
|0,_,_,_=>.nil
|n+1,[],_,h=>by unfold Reps at h;subst h;exact .nil
|n+1,d::ds,_,h=>by
  unfold Reps at h
  obtain⟨x,r,rfl,q1,q2⟩:=h
  exact .cons q1 (Reps.take n q2)
theorem Reps.cut{ds:List D}{xs:List V}(lo hi:Option Int)(h:Reps K B ds xs):Reps K B (cutL ds lo hi) (cutV xs lo hi):=by
 unfold cutL cutV
 rw[h.length]
 exact(h.drop _).take _
theorem Reps.ints(ns:List Int):Reps K B (ns.map D.int) (ns.map V.int):=by
 induction ns with
|nil=>exact .nil
|cons n ns ih=>exact .cons (qh7 (d:=.int n) rfl) ih
theorem Reps.strs:∀ {ss:List Str} {xs:List V},Reps K B (ss.map D.str) xs->xs=ss.map V.str
|[],_,h=>by unfold Reps at h;exact h
|s::ss,_,h=>by
  have h':Reps K B (.str s::ss.map D.str) _:=h
  unfold Reps at h'
  obtain⟨x,r,rfl,q1,q2⟩:=h'
  unfold Rep at q1
  rw[q1,Reps.strs q2]
  rfl
theorem Reps.atI{ds:List D}{xs:List V}{i:Int}{d:D}(h:Reps K B ds xs)(e:L2.atI ds i=some d):∃x,L2.atI xs i=some x/\Rep K B d x:=by
 unfold L2.atI at e ⊢
 rw[←h.length]
 cases q:ixN ds.length i with
|none=>rw[q] at e;cases e
|some j =>
  rw[q] at e
  exact h.at e
def vAdd(rx ry:R)(Q:R->Prop):Prop:=match rx.d,ry.d with
|.int i,.int j=>Q (.val (.int (i+j)))
|.str a,.str b=>a.length+b.length<=sizeLine/\Q (.val (.str (a++b)))
|.tup a,.tup b=>a.length+b.length<=sizeLine/\Q (.val (.tup (a++b)))
|.lst a,.lst b=>a.length+b.length<=sizeLine/\Q (.own (.lst (a++b)))
|_,_=>False
theorem qba:VO X (binaryOp .Add) vAdd:=by
 refine⟨_,op_add.or (op_add_str.or (op_catP.or q0p)),λB H x y rx ry Q Qd s px py h k=>?_⟩
 unfold vAdd at h
 split at h
 ·rename_i i j e1 e2
  exact .inl ⟨i,j,px.scal (by rw[e1];rfl),py.scal (by rw[e2];rfl),k _ _ B H (.refl s) (repV rfl) h⟩
 ·rename_i i j e1 e2
  exact .inr (.inl ⟨i,j,px.scal (by rw[e1];rfl),py.scal (by rw[e2];rfl),h.1,k _ _ B H (.refl s) (repV rfl) h.2⟩)
 ·rename_i ds es e1 e2
  obtain⟨a,xs,rfl,h1,r1⟩:=px.tup e1
  obtain⟨b,ys,rfl,h2,r2⟩:=py.tup e2
  refine .inr (.inr (.inl ⟨a,b,xs,ys,rfl,rfl,s.sqT h1.sq,s.sqT h2.sq,by rw[←r1.length,←r2.length];exact h.1,λz=>?_,λ_ z=>?_,λ_ _ p hp=>?_⟩))
  ·refine k _ _ B H (.refl s) ?_ h.2
   show Rep X.K B (.tup (ds++es)) _
   have e:ds=[]:=List.eq_nil_of_length_eq_zero (by rw[r1.length,z];rfl)
   unfold Rep
   exact⟨b,ys,rfl,by rw[e];exact h2,by rw[e];exact r2⟩
  ·refine k _ _ B H (.refl s) ?_ h.2
   show Rep X.K B (.tup (ds++es)) _
   have e:es=[]:=List.eq_nil_of_length_eq_zero (by rw[r2.length,z];rfl)
   unfold Rep
   exact⟨a,xs,rfl,by rw[e,List.append_nil];exact h1,by rw[e,List.append_nil];exact r1⟩
  ·exact k (.val (.tup (ds++es))) _ (upd B p (.tup (xs++ys))) _ (.new s hp) (qjb (r1.append r2) (s.free hp)) h.2
 ·rename_i ds es e1 e2
  obtain⟨a,xs,rfl,h1,r1⟩:=px.lst s e1
  obtain⟨b,ys,rfl,h2,r2⟩:=py.lst s e2
  exact .inr (.inr (.inr ⟨a,b,xs,ys,rfl,rfl,h1,h2,by rw[←r1.length,←r2.length];exact h.1,λp hp=>k (.own (.lst (ds++es))) _ B _ (.grow s (qae hp _)) ⟨p,rfl,hp,s.free hp,qdg (r1.append r2)⟩ h.2⟩))
 ·exact h.elim
def vI2(C:Int->Int->Prop)(f:Int->Int->D)(rx ry:R)(Q:R->Prop):Prop:=match rx.d,ry.d with
|.int i,.int j=>C i j/\Q (.val (f i j))
|_,_=>False
def vI2'(f:Int->Int->D)(rx ry:R)(Q:R->Prop):Prop:=match rx.d,ry.d with
|.int i,.int j=>Q (.val (f i j))
|_,_=>False
theorem qux{g:Value->Value->Sem Value}{C:Int->Int->Prop}{f:Int->Int->D}{f':Int->Int->V}(hf:∀i j,dV (f i j)=some (f' i j))(h:OpR X g (rI C f')):VO X g (vI2 C f):=by
 refine⟨_,h,λB H x y rx ry Q Qd s px py h k=>?_⟩
 unfold vI2 at h
 split at h
 ·rename_i i j e1 e2
  exact⟨i,j,px.scal (by rw[e1];rfl),py.scal (by rw[e2];rfl),h.1,k _ _ B H (.refl s) (repV (hf i j)) h.2⟩
 ·exact h.elim
theorem qwh{g:Value->Value->Sem Value}{f:Int->Int->D}{f':Int->Int->V}(hf:∀i j,dV (f i j)=some (f' i j))(h:OpR X g (rI0 f')):VO X g (vI2' f):=by
 refine⟨_,h,λB H x y rx ry Q Qd s px py h k=>?_⟩
 unfold vI2' at h
 split at h
 ·rename_i i j e1 e2
  exact⟨i,j,px.scal (by rw[e1];rfl),py.scal (by rw[e2];rfl),k _ _ B H (.refl s) (repV (hf i j)) h⟩
 ·exact h.elim
abbrev vSub:=vI2' λi j=>.int (i-j)
abbrev vMul:=vI2 CMul λi j=>.int (i*j)
abbrev vDiv:=vI2 CDiv λi j=>.int (i / j)
abbrev vMod:=vI2 (λ_ j=>0<j) λi j=>.int (i%j)
abbrev vPow:=vI2 CPow λi j=>.int (i ^ j.toNat)
abbrev vLt:=vI2' λi j=>.bl (decide (i<j))
abbrev vLe:=vI2' λi j=>.bl (decide (i<=j))
abbrev vGt:=vI2' λi j=>.bl (decide (j<i))
abbrev vGe:=vI2' λi j=>.bl (decide (j<=i))
theorem qsk:VO X (binaryOp .Mult) vMul:=qux (λ_ _=>rfl) q0s
theorem qid:VO X (binaryOp .FloorDiv) vDiv:=qux (λ_ _=>rfl) qxq
theorem qb6:VO X (binaryOp .Mod) vMod:=qux (λ_ _=>rfl) q0r
theorem qsl:VO X (binaryOp .Pow) vPow:=qux (λ_ _=>rfl) q0u
theorem q2u:VO X (compareOp .Lt) vLt:=qwh (λ_ _=>rfl) q3b
theorem q2s:VO X (compareOp .Gt) vGt:=qwh (λ_ _=>rfl) q0q
def vEq(rx ry:R)(Q:R->Prop):Prop:=cmpD rx.d ry.d=true/\depD rx.d<=50/\Q (.val (.bl (eqD rx.d ry.d)))
theorem qfw(hu:X.A.units+64<cLine):VO X (compareOp .Eq) vEq :=
 ⟨_,qvq (by lia),λB H x y rx ry Q Qd s px py h k=>⟨rx.d,ry.d,px.rep s,py.rep s,h.1,h.2.1,k _ _ B H (.refl s) (repV rfl) h.2.2⟩⟩
def vNe(rx ry:R)(Q:R->Prop):Prop:=match dV rx.d,dV ry.d with
|some u,some w=>scal u w=true/\Q (.val (.bl (!decide (u=w))))
|_,_=>False
def vSlR(rx:R)(lo hi:Option Int)(Q:R->Prop):Prop:=match rx.d with
|.str z=>z.length<=sizeLine/\Q (.val (.str (Txt.slice z lo hi)))
|.tup ds=>Q (.val (.tup (cutL ds lo hi)))
|.lst ds=>Q (.own (.lst (cutL ds lo hi)))
|.scr ns=>Q (.own (.lst ((cutL ns lo hi).map D.int)))
|_=>False
abbrev TVO:=VSt->(Option Int->Prop)->Prop
def qdk:TVO:=λ_ Q=>Q none
def qjv(te:TV):TVO:=λτ Q=>te τ λr=>match r.d with
|.int i=>Q (some i)
|_=>False
def RfOp(K:PySem.W.Frag)(to:TO)(t:TVO):Prop:=∀(H0 B H:Hp) (τ:VSt) (σ:St) (Q:Option Int->Hp->Prop) (Qd:Option Int->Prop),Same B H->Slots K H0 B H τ σ->t τ Qd->(∀o B' H',Stp B H B' H'->Qd o->Q o H')->to σ H Q
structure VPt(X:Cx)(EX:St->XK)(e:Option Expr)(t:TVO):Prop where
 u:∃to,QO X e to/\RfOp X.K to t
variable {e:Expr} {te ta:TV} {es:List Expr} {lo hi:Option Expr} {tl th:TVO} {pos p p2 apos cpos:Pos} {x:Str}
theorem qfx:VPt X EX none qdk:=⟨_,qi8,λ_ B H _ _ _ _ s _ h k=>k _ B H (.refl s) h⟩
theorem qfy(h:VE X EX e te):VPt X EX (some e) (qjv te):=let ⟨_,a1,a2⟩:=h.u;⟨_,qi9 a1,λH0 B H τ σ Q Qd s S h k=>a2 H0 B H τ σ _ _ s S h (xno λ_ q=>q) λr v B' H' p q h1=>by
  split at h1
  ·rename_i i e
   exact⟨i,q.pk.scal (by rw[e];rfl),k _ B' H' p h1⟩
  ·exact h1.elim⟩
def qfa(te:TV)(tl th:TVO):TV:=λτ Q=>te τ λr=>exR r Q (tl τ λl=>th τ λu=>vSlR r l u Q)
theorem qee(he:VE X EX e te)(hl:VPt X EX lo tl)(hh:VPt X EX hi th):VE X EX (.Subscript e (.Slice lo hi none p2) pos) (qfa te tl th) :=
 let ⟨_,a1,a2⟩:=he.u;let ⟨_,b1,b2⟩:=hl.u;let ⟨_,c1,c2⟩:=hh.u;⟨_,qga (sl_str.or (sl_tupP.or qjj)) a1 b1 c1,λH0 B H τ σ Q Qd s S h xc k =>
  a2 H0 B H τ σ _ _ s S h xc λr v B1 H1 p1 q1 h1=>b2 H0 B1 H1 τ σ _ _ p1.s (S.step p1) (q1.ok h1) λl B2 H2 p2 h2=>c2 H0 B2 H2 τ σ _ _ p2.s (S.step (p1.trans p2)) h2 λu B3 H3 p3 h3=>by
   have p12:=p1.trans p2
   have pp:=p12.trans p3
   have pk:=(q1.pk.step p2).step p3
   unfold vSlR at h3
   split at h3
   ·rename_i z ez
    cases pk.scal (z:=.str z) (by rw[ez];rfl)
    exact .inl ⟨z,rfl,h3.1,k _ _ B3 H3 pp (repV rfl) h3.2⟩
   ·rename_i ds ed
    obtain⟨a,xs,rfl,h1,r1⟩:=pk.tup ed
    refine .inr (.inl ⟨a,xs,rfl,p3.s.sqT h1.sq,λw=>?_,λw p hp=>?_⟩)
    ·refine k _ _ B3 H3 pp ?_ h3
     show Rep X.K B3 (.tup (cutL ds l u)) _
     unfold Rep
     have hc:cutL ds l u=ds:=by
      unfold cutL
      rw[r1.length,w.1,w.2,List.drop_zero,Nat.sub_zero,←r1.length,List.take_length]
     rw[hc]
     exact⟨a,xs,rfl,h1,r1⟩
    ·exact k (.val (.tup (cutL ds l u))) _ (upd B3 p (.tup (cutV xs l u))) _ (pp.trans (.new p3.s hp)) (qjb (r1.cut l u) (p3.s.free hp)) h3
   ·rename_i ds ed
    obtain⟨a,xs,rfl,h1,r1⟩:=pk.lst p3.s ed
    exact .inr (.inr ⟨a,xs,rfl,SqL.of h1,λp hp=>k (.own _) _ B3 _ (pp.trans (.grow p3.s (qae hp _))) ⟨p,rfl,pp.h.free hp,p3.s.free hp,qdg (r1.cut l u)⟩ h3⟩)
   ·rename_i ns en
    obtain⟨a,rfl,h1⟩:=pk.scr p3.s en
    refine .inr (.inr ⟨a,_,rfl,h1,λp hp=>k (.own _) _ B3 _ (pp.trans (.grow p3.s (qae hp _))) ⟨p,rfl,pp.h.free hp,p3.s.free hp,?_⟩ h3⟩)
    rw[qim]
    exact qdg (.ints _)
   ·exact h3.elim⟩
def vIxR(rx ry:R)(Q:R->Prop):Prop:=match rx.d,ry.d with
|.str z,.int i=>z.length<=sizeLine/\∃c,atI z.cps.toList i=some c/\Q (.val (.str ⟨#[c]⟩))
|.tup ds,.int i=>∃d,atI ds i=some d/\Q (.val d)
|.lst ds,.int i=>∃d,atI ds i=some d/\Q (.val d)
|.scr ns,.int i=>∃n,atI ns i=some n/\Q (.val (.int n))
|_,_=>False
theorem qat:VX X vIxR:=by
 refine⟨_,ix_str.or (ix_tup.or qqq),λB H x y rx ry Q Qd s px py h k=>?_⟩
 unfold vIxR at h
 split at h
 ·rename_i z i e1 e2
  obtain⟨hz,c,hc,q⟩:=h
  exact .inl ⟨z,i,c,px.scal (by rw[e1];rfl),py.scal (by rw[e2];rfl),hz,hc,k _ _ B H (.refl s) (repV rfl) q⟩
 ·rename_i ds i e1 e2
  obtain⟨d,hd,q⟩:=h
  obtain⟨a,xs,rfl,h1,r1⟩:=px.tup e1
  obtain⟨w,hw,rw'⟩:=r1.atI hd
  exact .inr (.inl ⟨a,xs,i,w,rfl,py.scal (by rw[e2];rfl),s.sqT h1.sq,hw,k (.val d) _ B H (.refl s) rw' q⟩)
 ·rename_i ds i e1 e2
  obtain⟨d,hd,q⟩:=h
  obtain⟨a,xs,rfl,h1,r1⟩:=px.lst s e1
  obtain⟨w,hw,rw'⟩:=r1.atI hd
  exact .inr (.inr ⟨a,xs,i,w,rfl,py.scal (by rw[e2];rfl),SqL.of h1,hw,k (.val d) _ B H (.refl s) rw' q⟩)
 ·rename_i ns i e1 e2
  obtain⟨n,hn,q⟩:=h
  obtain⟨a,rfl,h1⟩:=px.scr s e1
  exact .inr (.inr ⟨a,_,i,_,rfl,py.scal (by rw[e2];rfl),h1,qhx hn,k _ _ B H (.refl s) (repV rfl) q⟩)
 ·exact h.elim
def vLen(rx:R)(Q:R->Prop):Prop:=match rx.d with
|.str z=>z.length<=sizeLine/\Q (.val (.int z.length))
|.tup ds=>Q (.val (.int ds.length))
|.lst ds=>Q (.val (.int ds.length))
|.scr ns=>Q (.val (.int ns.length))
|_=>False
theorem qdo:VF X (.builtin "len") vLen:=by
 refine⟨_,call_len_str.or qke,λB H x rx Q Qd s px h k=>?_⟩
 unfold vLen at h
 split at h
 ·rename_i z e1
  exact .inl ⟨z,by rw[px.scal (z:=.str z) (by rw[e1];rfl)],h.1,k _ _ B H (.refl s) (repV rfl) h.2⟩
 ·rename_i ds e1
  obtain⟨a,xs,rfl,h1,r1⟩:=px.tup e1
  exact .inr ⟨a,xs,rfl,.inr (s.sqT h1.sq),k _ _ B H (.refl s) (repV rfl) (by rw[r1.length] at h;exact h)⟩
 ·rename_i ds e1
  obtain⟨a,xs,rfl,h1,r1⟩:=px.lst s e1
  exact .inr ⟨a,xs,rfl,.inl (SqL.of h1),k _ _ B H (.refl s) (repV rfl) (by rw[r1.length] at h;exact h)⟩
 ·rename_i ns e1
  obtain⟨a,rfl,h1⟩:=px.scr s e1
  exact .inr ⟨a,_,rfl,.inl h1,k (.val (.int ns.length)) _ B H (.refl s) (by rw[List.length_map];exact repV rfl) h⟩
 ·exact h.elim
def q2j(rx:R)(Q:R->Prop):Prop:=match rx.d with
|.tup ds=>Q (.own (.lst ds))
|.lst ds=>Q (.own (.lst ds))
|.scr ns=>Q (.own (.lst (ns.map D.int)))
|_=>False
def qwg(rx:R)(Q:R->Prop):Prop:=match rx.d with
|.tup ds=>Q (.val (.tup ds))
|.lst ds=>Q (.val (.tup ds))
|_=>False
def vStr(rx:R)(Q:R->Prop):Prop:=match rx.d with
|.int i=>i.natAbs.log2<1920/\Q (.val (.str (toString i)))
|_=>False
theorem q2p:VF X (.type "str") vStr:=by
 refine⟨_,qkg,λB H x rx Q Qd s px h k=>?_⟩
 unfold vStr at h
 split at h
 ·rename_i i e1
  exact⟨i,by rw[px.scal (z:=.int i) (by rw[e1];rfl)],h.1,k _ _ B H (.refl s) (repV rfl) h.2⟩
 ·exact h.elim
def vAll(g:List Bool->Bool)(rx:R)(Q:R->Prop):Prop:=∃bs:List Bool,rx.d=.lst (bs.map D.bl)/\Q (.val (.bl (g bs)))
inductive Ty5 where
|str|tuple|list|int|bool
def Ty5.nm:Ty5->String
|.str=>"str"|.tuple=>"tuple"|.list=>"list"|.int=>"int"|.bool=>"bool"
def isTy:Ty5->D->Option Bool
|_,.non=>some false
|c,.bl _=>some (match c with|.bool=>true|.int=>true|_=>false)
|c,.int _=>some (match c with|.int=>true|_=>false)
|c,.str _=>some (match c with|.str=>true|_=>false)
|c,.tup _=>some (match c with|.tuple=>true|_=>false)
|c,.lst _=>some (match c with|.list=>true|_=>false)
|_,_=>none
def nmTy:D->String
|.non=>"NoneType"|.bl _=>"bool"|.int _=>"int"|.str _=>"str"|.tup _=>"tuple"|_=>"list"
theorem qs7{d:D}{c:Ty5}{b:Bool}(h:isTy c d=some b):PySem.W.kitOne K (.type (nmTy d)) (.type c.nm)=some b:=by
 cases d<;>cases c<;>first|(cases h;with_unfolding_all rfl;done)|(cases h;exact qs8;done)|(cases h;done)
theorem qs5{pins:List (Addr×Obj)}{s:Shared}{σ:St}{H:Hp}{v:V}{u:Value}{d:D}{c:Ty5}{b:Bool}{A:Around}{Q:Value->Shared->Prop}{E:Value->Shared->Prop}(I:Inv X pins σ H s)(rx:RelV v u)(h:Rep X.K H d v)(e:isTy c d=some b)
  (q:∀tk,Q (.bool b) { s with toks:=tk }):wpAny (model X.prog X.w) A (call (.builtin "isinstance") [u,.type c.nm]) Q E s:=by
 have kt:=qs7 (K:=X.K) e
 cases d with
|non=>unfold Rep at h;subst h;exact qdz I rx .non kt q
|bl b=>unfold Rep at h;subst h;exact qdz I rx (.bl _) kt q
|int b=>unfold Rep at h;subst h;exact qdz I rx (.int _) kt q
|str b=>unfold Rep at h;subst h;exact qdz I rx (.str _) kt q
|tup ds =>
  unfold Rep at h
  obtain⟨a,xs,rfl,ha,_⟩:=h
  cases (show u=Value.ref a from rx)
  obtain⟨its,_,⟨o,h1,h2,_⟩,_⟩:=I.tuple ha.sq
  exact PySem.W.kia_one PySem.W.kitx_tuple I.kIn ⟨o,h1,h2⟩ kt (λz=>nomatch z) q
|lst ds =>
  unfold Rep at h
  obtain⟨a,xs,rfl,ha,_⟩:=h
  exact qdz I rx (.lst ha) kt q
|dT _ _=>cases e
|dK _ _=>cases e
|scr _=>cases e
|kt _=>cases e
|exc _=>cases e
|io _ _=>cases e
|ioT _ _ _=>cases e
|ob _ _=>cases e
|adr _=>cases e
|fT _ _=>cases e
theorem qsw(c:Ty5):CallR X (.builtin "isinstance") (λxs H Q=>∃x d b,xs=[x,.ty c.nm]/\Rep X.K H d x/\isTy c d=some b/\Q (.bl b) H):=by
 intro pins s σ H xs us Q I r h
 obtain⟨x,d,b,rfl,ty,e,q⟩:=h
 obtain⟨u,v,rfl,ru,rv⟩:=vals2 r
 cases (show v=Value.type c.nm from rv)
 exact qs5 I ru ty e λtk=>⟨.bl b,H,I.tok tk,rfl,q⟩
def qju(c:Ty5)(ta:TV):TV:=λτ Q=>ta τ λr=>exR r (λ_=>False) <| match isTy c r.d with
|some b=>Q (.val (.bl b))
|none=>False
theorem qfu{a:Expr}{pb:Pos}{y:Str}(c:Ty5)(hg:Gl X "isinstance")(hm:X.mg "isinstance" = none)(hgy:Gl X y)(hmy:X.mg y=none)(hby:bootBuiltins y=some (.type c.nm))(ha:VE X EX a ta)(hp:qa2 a=true:=by rfl)(hny:y≠"__name__" := by decide)(hdy:(y==("__debug__" : Str))=false:=by decide) :
  VE X EX (.Call (.Name "isinstance" p) [a,.Name y pb] [] pos) (qju c ta) :=
 let ⟨_,a1,a2⟩:=ha.u;⟨_,qcb (qsw c) hg hm PyProof.Rows.Boot.«isinstance» (qac a1 (qac (qrq (v:=.ty c.nm) hgy hmy hby rfl hny hdy) qaq rfl) hp) (by rw[List.all_cons,hp];rfl),λH0 B H τ σ Q Qd s S h xc k=>a2 H0 B H τ σ _ _ s S h (xno λ_ q=>q) λr v B1 H1 p1 q1 h1=>by
   have h1:=q1.ok h1
   split at h1
   ·rename_i b eb
    exact⟨v,r.d,b,rfl,q1.pk.rep p1.s,eb,k _ _ B1 H1 p1 (repV rfl) h1⟩
   ·exact h1.elim⟩
end
end L2
namespace L2
open PySem PySem.Spec PyProof.Rows
section
variable {X:Cx} {EX:St->XK} {K:PySem.W.Frag} {B H B' H' H0 B0 B1 H1:Hp} {st:Stmt} {rest:List Stmt} {t u:TVS} {e a c o:Expr} {te ta:TV} {tT:TVT} {tA:TVA} {es:List Expr} {pos pos' p p2 apos cpos:Pos} {x:Str} {τ:VSt} {σ:St}
theorem Stp.base(p:Stp B0 H0 B1 H1)(q:Stp B1 H0 B' H'):Stp B0 H0 B' H':=⟨p.b.trans q.b,q.h,q.s,λa h=>(q.d a h).elim (p.d a) .inr⟩
theorem Stp.here(p:Stp B0 H0 B1 H1):Stp B1 H0 B1 H1:=⟨Same.refl _,p.h,p.s,λ_ h=>.inl h⟩
theorem EndsOk.base{Dv:VEnds}{Dh:Ends}(E:EndsOk K EX B0 H0 Dv Dh)(p:Stp B0 H0 B1 H1):EndsOk K EX B1 H0 Dv Dh :=
 ⟨λB H τ σ q=>E.nx B H τ σ (p.base q),λr v B H q=>E.rt r v B H (p.base q),λB H τ σ q=>E.bk B H τ σ (p.base q),λB H τ σ q=>E.ct B H τ σ (p.base q),λB H τ σ n C q=>E.xc B H τ σ n C (p.base q),λr v B H τ σ q=>E.ro r v B H τ σ (p.base q),λd v B H q=>E.rn d v B H (p.base q)⟩
def exS(τ:VSt)(Dv:VEnds):R->Prop->Prop
|.exc n,_=>Dv.xc τ n
|.val _,k=>k
|.own _,k=>k
|.peek _,k=>k
theorem RepR.okS{r:R}{v:V}{τ:VSt}{Dv:VEnds}{k:Prop}(h:RepR K B H0 H r v)(q:exS τ Dv r k):k:=by
 cases r with
|exc n=>exact h.elim
|val d=>exact q
|own d=>exact q
|peek d=>exact q
theorem EndsOk.raised{Dv:VEnds}{Dh:Ends}(E:EndsOk K EX B0 H0 Dv Dh)(p:Stp B0 H0 B H)(S:Slots K H0 B H τ σ):∀n C B' H',Stp B H B' H'->clsOf K n C->Dv.xc τ n->EX σ (.ref C) none H':=λn C B' H' q c h=>E.xc B' H' τ σ n C (p.trans q) (S.step q) c h
def qcz:TVS:=λDv τ=>Dv.nx τ
def vSeq(t u:TVS):TVS:=λDv τ=>t { Dv with nx:=u Dv } τ
theorem qbe:VSs X EX [] qcz:=⟨_,qcv,λB0 H0 B H τ σ Dv Dh p S h E=>E.nx B H τ σ p S h⟩
theorem qaj(h:VS X EX st t):VSs X EX [st] t:=let ⟨_,a1,a2⟩:=h.u;⟨_,qaw a1,a2⟩
theorem qaf(h:VS X EX st t)(r:VSs X EX rest u):VSs X EX (st::rest) (vSeq t u) :=
 let ⟨_,a1,a2⟩:=h.u;let ⟨_,b1,b2⟩:=r.u;⟨_,qam a1 b1,λB0 H0 B H τ σ Dv Dh p S h E=>a2 B0 H0 B H τ σ _ _ p S h ⟨λB H τ σ p S h=>b2 B0 H0 B H τ σ _ _ p S h E,E.rt,E.bk,E.ct,E.xc,E.ro,E.rn⟩⟩
def vFrz(i:Nat)(t:TVS):TVS:=λDv τ=>t Dv (frz i τ)
theorem qza(i:Nat)(h:VSs X EX rest t):VSs X EX rest (vFrz i t) :=
 let ⟨_,a1,a2⟩:=h.u;⟨_,a1,λB0 H0 B H τ σ Dv Dh p S h E=>by
  obtain⟨B2,p2,_,S2⟩:=S.frz p i
  exact a2 B0 H0 B2 H _ σ _ _ p2 S2 h E⟩
def vIfS(c:TVT)(t u:TVS):TVS:=λDv τ=>c τ λb=>if b=true then t Dv τ else u Dv τ
theorem qda{sa sb:List Stmt}(hc:VT X EX c tT)(ha:VSs X EX sa t)(hb:VSs X EX sb u):VS X EX (.If c sa sb pos) (vIfS tT t u) :=
 let ⟨_,c1,c2⟩:=hc.u;let ⟨_,a1,a2⟩:=ha.u;let ⟨_,b1,b2⟩:=hb.u;⟨_,qf5 c1 a1 b1,λB0 H0 B H τ σ Dv Dh p S h E=>c2 H0 B H τ σ _ _ p.s S h λcb B' H' q hq=>by
  cases cb with
 |true=>exact iteT (a2 B0 H0 B' H' τ σ _ _ (p.trans q |> λz=>⟨z.b,z.h,z.s,z.d⟩) (S.step q) (by rw[if_pos rfl] at hq;exact hq) E)
 |  false=>exact iteF (b2 B0 H0 B' H' τ σ _ _ (p.trans q) (S.step q) (by rw[if_neg Bool.false_ne_true] at hq;exact hq) E)⟩
def vRet(te:TV):TVS:=λDv τ=>te τ λr=>exS τ Dv r (pubR r λ_=>Dv.rt r)
theorem qbq(h:VE X EX e te):VS X EX (.Return (some e) pos) (vRet te) :=
 let ⟨_,a1,a2⟩:=h.u;⟨_,qck a1,λB0 H0 B H τ σ Dv Dh p S h E=>a2 H0 B H τ σ _ _ p.s S h (E.raised p S) λr v B' H' q hr hq=>by
  cases r with
 |val d=>exact E.rt (.val d) v B' H' (p.trans q) hr hq
 |own d=>exact E.rt (.own d) v B' H' (p.trans q) (hr.back p.h) hq
 |peek d=>exact hq.elim
 |  exc n=>exact hr.elim⟩
def qk7(i:Nat):TVS:=λDv τ=>match τ[i]? with
|some (some (.own d))=>Dv.rt (.own d)
|some (some (.val d))=>Dv.rt (.val d)
|_=>False
theorem qmv(i:Nat)(hN:X.N[i]?=some x:=by rfl)(hv:Vis X.env.scope x:=by first|exact Or.inl rfl|exact Or.inr (Or.inl rfl)|exact Or.inr (Or.inr rfl))(hd:(x==("__debug__" : Str))=false:=by decide)
  (hcd:(x==("__classdict__" : Str))=false:=by decide):VS X EX (.Return (some (.Name x pos')) pos) (qk7 i) :=
 ⟨_,qck (qv i hN hv hd hcd),λB0 H0 B H τ σ Dv Dh p S h E=>by
  unfold qk7 at h
  split at h
  ·rename_i d e
   obtain⟨a,q,h0,hb,ow⟩:=S.own i d e
   exact⟨.ref a,q,E.rt (.own d) _ B H p ⟨a,rfl,h0,hb,ow⟩ h⟩
  ·rename_i d e
   obtain⟨v,q,rp⟩:=S.val i d e
   exact⟨v,q,E.rt (.val d) _ B H p rp h⟩
  ·exact h.elim⟩
def q2k:TVS:=λDv _=>Dv.rt (.val .non)
def q2h(te:TV):TVS:=λDv τ=>te τ λr=>exS τ Dv r (Dv.nx τ)
def vSet(i:Nat)(te:TV):TVS:=λDv τ=>te τ λr=>exS τ Dv r (pubR r λd=>Dv.nx (τ.set i (some (.val d))))
theorem qv4{i:Nat}{ee:TE}(h:RfE K EX ee te):RfS K EX (tAsg ee (qb1 i)) (vSet i te):=λB0 H0 B H τ σ Dv Dh p S hh E=>h H0 B H τ σ _ _ p.s S hh (E.raised p S) λr v B' H' q hr hq=>by
 obtain⟨d,B2,q2,_,rp,hd⟩:=pub q hr (hr.okS hq)
 exact E.nx B2 H' _ _ (p.trans q2) ((S.step q2).setVal i rp) hd
def qes(i:Nat)(te:TV):TVS:=λDv τ=>te τ λr=>exS τ Dv r (pubR r λ_=>Dv.nx (τ.set i (some r)))
theorem qyt{i:Nat}{ee:TE}(h:RfE K EX ee te):RfS K EX (tAsg ee (qb1 i)) (qes i te):=λB0 H0 B H τ σ Dv Dh p S hh E=>h H0 B H τ σ _ _ p.s S hh (E.raised p S) λr v B' H' q hr hq=>by
 cases r with
|val d=>exact E.nx B' H' _ _ (p.trans q) ((S.step q).setVal i hr) hq
|own d =>
  obtain⟨a,rfl,h0,hb,ow⟩:=hr
  refine E.nx B' H' _ _ (p.trans q) ((S.step q).setOwn i (p.h.free h0) hb ow λj e he z=>?_) hq
  obtain⟨c,qc,_,_,oc⟩:=S.own j e he
  rw[z] at qc
  cases qc
  exact oc.some h0
|peek d=>exact hq.elim
|exc n=>exact hr.elim
theorem qa5{i:Nat}(hN:X.N.Nodup)(hi:X.N[i]?=some x)(hx:Loc X.env.scope x)(h:VE X EX e te)(hs:swapsWith e (some (.Name x pos')) pos.line X.env=pure false:=by rfl)
  (hf:X.fn x=true\/X.env.scope.names.lookup x=some .local:=by first|exact .inl rfl|exact .inr rfl|assumption):VS X EX (.Assign [.Name x pos'] e pos) (vSet i te):=let ⟨_,a1,a2⟩:=h.u;⟨_,qc9 hN hi hx a1 hs hf,qv4 a2⟩
theorem qdl{i:Nat}(hN:X.N.Nodup)(hi:X.N[i]?=some x)(hx:Loc X.env.scope x)(h:VE X EX e te)(hs:swapsWith e (some (.Name x pos')) pos.line X.env=pure false:=by rfl)
  (hf:X.fn x=true\/X.env.scope.names.lookup x=some .local:=by first|exact .inl rfl|exact .inr rfl|assumption):VS X EX (.Assign [.Name x pos'] e pos) (qes i te):=let ⟨_,a1,a2⟩:=h.u;⟨_,qc9 hN hi hx a1 hs hf,qyt a2⟩
theorem qy9{i:Nat}(hN:X.N.Nodup)(hi:X.N[i]?=some x)(hx:Loc X.env.scope x)(h:VC X EX e te)(hs:swapsWith e (some (.Name x pos')) pos.line X.env=pure true:=by rfl)
  (hf:X.fn x=true\/X.env.scope.names.lookup x=some .local:=by first|exact .inl rfl|exact .inr rfl|assumption):VS X EX (.Assign [.Name x pos'] e pos) (vSet i te):=let ⟨_,a1,a2⟩:=h.u;⟨_,qrt hN hi hx a1 hs hf,qv4 a2⟩
def qa9(i:Nat):TVG:=λd τ Q=>Q (τ.set i (some (.val d)))
theorem q0e{i:Nat}{d:D}{v:V}:Kp τ σ (τ.set i (some (.val d))) (σ.set i (some v)):=λj e h=>by
 rcases qbs h with ⟨rfl,z,l⟩|⟨n,h⟩
 ·cases z
 ·exact⟨h,List.getElem?_set_ne n⟩
theorem Kp.trans{τ1 τ2 τ3:VSt}{σ1 σ2 σ3:St}(h1:Kp τ1 σ1 τ2 σ2)(h2:Kp τ2 σ2 τ3 σ3):Kp τ1 σ1 τ3 σ3:=λj e h=>let ⟨a,b⟩:=h2 j e h;let ⟨c,d⟩:=h1 j e a;⟨c,b.trans d⟩
theorem qa3{i:Nat}(hN:X.N.Nodup)(hi:X.N[i]?=some x)(hx:Loc X.env.scope x)(hf:X.fn x=true\/X.env.scope.names.lookup x=some .local:=by first|exact .inl rfl|exact .inr rfl|assumption):VG X (.Name x pos) (qa9 i) :=
 ⟨_,qd1 hN hi hx hf,λH0 B H τ σ v d Q Qd s S rp h k=>k _ _ (S.setVal i rp) q0e h⟩
def qpe:List D->VSt->(VSt->Prop)->Prop:=λds τ Q=>ds=[]/\Q τ
def qdp(g:TVG)(gs:List D->VSt->(VSt->Prop)->Prop):List D->VSt->(VSt->Prop)->Prop:=λds τ Q=>match ds with
|d::r=>g d τ λτ'=>gs r τ' Q
|[]=>False
theorem qmu:VGs X [] qpe:=⟨_,qyl,λH0 B H τ σ xs ds Q Qd s S rp h k=>by
 obtain⟨rfl,h⟩:=h
 unfold Reps at rp
 exact⟨rp,k τ σ S (λj e h=>⟨h,rfl⟩) h⟩⟩
theorem qcr{g:TVG}{gs:List D->VSt->(VSt->Prop)->Prop}(h1:VG X e g)(h2:VGs X es gs)(hs:(assignEach (e::es) X.env).map (·.2)=assign e X.env::(assignEach es X.env).map (·.2):=by rfl):VGs X (e::es) (qdp g gs) :=
 let ⟨_,a1,a2⟩:=h1.u;let ⟨_,b1,b2⟩:=h2.u;⟨_,qt4 a1 b1 hs,λH0 B H τ σ xs ds Q Qd s S rp h k=>by
  cases ds with
 |nil=>exact h.elim
 |cons d ds =>
   unfold Reps at rp
   obtain⟨v,r,rfl,r1,r2⟩:=rp
   exact⟨v,r,rfl,a2 H0 B H τ σ v d _ _ s S r1 h λτ' σ' S' kp h'=>b2 H0 B H τ' σ' r ds _ _ s S' r2 h' λτ2 σ2 S2 kp2 h2=>k τ2 σ2 S2 (kp.trans kp2) h2⟩⟩
def qpf(n:Nat)(gs:List D->VSt->(VSt->Prop)->Prop):TVG:=λd τ Q=>match d with
|.tup ds=>ds.length=n/\gs ds τ Q
|_=>False
theorem qsj{k:Nat}{gs:List D->VSt->(VSt->Prop)->Prop}{n:Nat}(hc:X.calm=true)(h:VGs X es gs)(hn:(assignEach es X.env).length=n:=by rfl)(hst:(assignEach es X.env).findIdx? (·.1)=none:=by rfl):VG X (.Tuple es k pos) (qpf n gs) :=
 let ⟨_,a1,a2⟩:=h.u;⟨_,q1r hc a1 hn hst,λH0 B H τ σ v d Q Qd s S rp h k=>by
  cases d with
 |tup ds =>
   unfold Rep at rp
   obtain⟨a,xs,rfl,ha,r⟩:=rp
   exact⟨a,xs,rfl,s.sqT ha.sq,by rw[←r.length];exact h.1,a2 H0 B H τ σ xs ds _ _ s S r h.2 k⟩
 |  _=>exact h.elim⟩
def vAsg(te:TV)(g:TVG):TVS:=λDv τ=>te τ λr=>exS τ Dv r (pubR r λd=>g d τ Dv.nx)
end
section
variable {X:Cx} {tg l e:Expr}
def iAny(K:PySem.W.Frag)(tl:TE):TI:=λσ H R=>tl σ H λx H1=>(∃a,x=.ref a/\(∃xs,SqL K H1 a xs)/\R (Itl K a) H1)\/(∃a,x=.ref a/\(∃xs,SqT K H1 a xs)/\R (Itt K a) H1)\/∃z,x=.str z/\R (Its z) H1
theorem q1b{tl:TE}(hl:PE X l tl):PI X tg l (iAny X.K tl):=by
 intro pins s σ H R I h
 refine thn (hl pins s σ H _ I h) λv s1 ⟨x,H1,I1,r1,q1⟩=>?_
 rcases q1 with ⟨a,rfl,⟨xs,hq⟩,q⟩|⟨a,rfl,⟨xs,hq⟩,q⟩|⟨z,rfl,q⟩
 ·cases r1
  obtain⟨its,rv,pl,hz⟩:=I1.list hq
  refine wpAny_pyIter_list pl.isList ⟨s1.heap.objs.size,[s1.heap.objs.size],_,_,H1,rfl,I1.kept (t':=s1.toks) λb o e=>Heap.get?_push_of_some _ e,qk6 a _,⟨_,Heap.get?_push_size _ rfl,rfl,rfl⟩,λb hb=>?_,q⟩
  cases (by simpa using hb:b=s1.heap.objs.size)
  exact I1.fpOk (Nat.le_refl _) (I1.hok.fresh (Nat.le_refl _))
 ·cases r1
  obtain⟨its,rv,pl,hz⟩:=I1.tuple hq
  refine wpAny_pyIter_tuple (show s1.heap.IsTuple a its.toArray from pl) ⟨s1.heap.objs.size,[s1.heap.objs.size],_,_,H1,rfl,I1.kept (t':=s1.toks) λb o e=>Heap.get?_push_of_some _ e,qpc a _,⟨_,Heap.get?_push_size _ rfl,rfl,rfl⟩,λb hb=>?_,q⟩
  cases (by simpa using hb:b=s1.heap.objs.size)
  exact I1.fpOk (Nat.le_refl _) (I1.hok.fresh (Nat.le_refl _))
 ·obtain⟨t,rfl⟩:=r1
  have fp:∀b∈[s1.heap.objs.size],FpOk X pins H1 b:=λb hb=>by
   cases (by simpa using hb:b=s1.heap.objs.size)
   exact I1.fpOk (Nat.le_refl _) (I1.hok.fresh (Nat.le_refl _))
  cases ha:z.cps.all (·<128)
  ·exact wpAny_pyIter_wide ha ⟨s1.heap.objs.size,[s1.heap.objs.size],_,_,H1,rfl,I1.kept (t':=s1.toks) λb o e=>Heap.get?_push_of_some _ e,qsc _ z t,⟨_,Heap.get?_push_size _ rfl,rfl,rfl⟩,fp,q⟩
  ·exact wpAny_pyIter_ascii ha ⟨s1.heap.objs.size,[s1.heap.objs.size],_,_,H1,rfl,I1.kept (t':=s1.toks) λb o e=>Heap.get?_push_of_some _ e,qpa _ z t,⟨_,Heap.get?_push_size _ rfl,rfl,rfl⟩,fp,q⟩
theorem q1t{tl:TE}(h:QE X e tl):QI X tg e (iAny X.K tl):=⟨q1b h.u⟩
end
section
variable {X:Cx} {EX:St->XK} {K:PySem.W.Frag} {B H B' H' H0 B0 B1 H1:Hp} {st:Stmt} {rest:List Stmt} {t u:TVS} {e a c o:Expr} {te ta:TV} {tT:TVT} {tA:TVA} {es:List Expr} {pos pos' p p2 apos cpos:Pos} {x:Str} {τ:VSt} {σ:St}
def qcx(te:TV):TVA:=λτ Q=>te τ λr=>excA r Q <| pubR r λd=>match d with
|.lst ds=>Q (.ok ds)
|.tup ds=>Q (.ok ds)
|.scr ns=>Q (.ok (ns.map D.int))
|.str z=>Q (.ok (z.cps.toList.map λc=>.str ⟨#[c]⟩))
|_=>False
theorem qnl{ad:Addr}{ds:List D}{xs:List V}(h:SqL K B ad xs)(r:Reps K B ds xs):ItOk K B (Itl K ad) ds:=λi B2 H sb s2=>by
 have s:=sb.trans s2
 refine⟨λd e=>?_,λe=>⟨xs,s.seq h,by rw[←r.length];exact List.getElem?_eq_none_iff.mp e⟩⟩
 obtain⟨w,hw,rw'⟩:=r.at e
 refine⟨⟨xs,w,s.seq h,hw⟩,λy H' q=>⟨B2,by rw[q.1];exact .refl s2,?_⟩⟩
 have:=q.2 xs (s.seq h)
 rw[hw] at this
 cases this
 exact rw'.same sb
theorem qz9{ad:Addr}{ds:List D}{xs:List V}(h:SqT K B ad xs)(r:Reps K B ds xs):ItOk K B (Itt K ad) ds:=λi B2 H sb s2=>by
 have s:=sb.trans s2
 refine⟨λd e=>?_,λe=>⟨xs,s.sqT h,by rw[←r.length];exact List.getElem?_eq_none_iff.mp e⟩⟩
 obtain⟨w,hw,rw'⟩:=r.at e
 refine⟨⟨xs,w,s.sqT h,hw⟩,λy H' q=>⟨B2,by rw[q.1];exact .refl s2,?_⟩⟩
 have:=q.2 xs (s.sqT h)
 rw[hw] at this
 cases this
 exact rw'.same sb
theorem qz8(z:Str):ItOk K B (Its z) (z.cps.toList.map λc=>.str ⟨#[c]⟩):=λi B2 H sb s2=>by
 have s:=sb.trans s2
 refine⟨λd e=>?_,λe=>?_⟩
 ·rw[List.getElem?_map] at e
  cases hc:z.cps.toList[i]? with
 |none=>rw[hc] at e;cases e
 |some ch =>
   rw[hc] at e
   cases e
   have hc':z.cps[i]?=some ch:=by simpa using hc
   refine⟨?_,λy H' q=>⟨B2,by rw[q.1];exact .refl s2,?_⟩⟩
   ·show i<z.cps.size
    exact(Array.getElem?_eq_some_iff.mp hc').1
   ·obtain⟨c2,h2,rfl⟩:=q.2
    rw[hc'] at h2
    cases h2
    exact qh7 (d:=.str ⟨#[ch]⟩) rfl
 ·show z.cps.size<=i
  have:=List.getElem?_eq_none_iff.mp e
  simpa using this
theorem qd6{tg:Expr}(h:VE X EX e te):VI X EX tg e (qcx te) :=
 let ⟨_,a1,a2⟩:=h.u;⟨_,q1t a1,λH0 B H τ σ Q Qd s S h xc k=>a2 H0 B H τ σ _ _ s S h xc λr v B' H' q hr hq=>by
  obtain⟨d,B2,q2,_,rp,hd⟩:=pub q hr (hr.okA hq)
  split at hd
  ·unfold Rep at rp
   obtain⟨ad,xs,rfl,ha,r1⟩:=rp
   exact .inl ⟨ad,rfl,⟨xs,SqL.of (q2.s _ _ ha)⟩,k _ _ B2 H' q2 (qnl (SqL.of ha) r1) hd⟩
  ·unfold Rep at rp
   obtain⟨ad,xs,rfl,ha,r1⟩:=rp
   exact .inr (.inl ⟨ad,rfl,⟨xs,q2.s.sqT ha.sq⟩,k _ _ B2 H' q2 (qz9 ha.sq r1) hd⟩)
  ·unfold Rep at rp
   obtain⟨ad,rfl,ha⟩:=rp
   exact .inl ⟨ad,rfl,⟨_,q2.s.seq ha⟩,k _ _ B2 H' q2 (qnl ha (.ints _)) hd⟩
  ·rename_i z
   unfold Rep at rp
   exact .inr (.inr ⟨z,rp,k _ _ B2 H' q2 (qz8 z) hd⟩)
  ·exact hd.elim⟩
def rngL(lo:Int)(n:Nat):List D:=(List.range n).map λ(i:Nat)=>.int (lo+i)
theorem qz7(lo:Int)(n:Nat):ItOk K B (Itr lo n) (rngL lo n):=λi B2 H sb s2=>by
 unfold rngL
 refine⟨λd e=>?_,λe=>?_⟩
 ·rw[List.getElem?_map] at e
  by_cases hi:i<n
  ·rw[List.getElem?_range hi] at e
   cases e
   exact⟨hi,λy H' q=>⟨B2,by rw[q.1];exact .refl s2,by rw[q.2];exact qh7 (d:=.int (lo+(i:Nat))) rfl⟩⟩
  ·rw[List.getElem?_eq_none (by rw[List.length_range];lia)] at e
   cases e
 ·have:=List.getElem?_eq_none_iff.mp e
  rw[List.length_map,List.length_range] at this
  exact this
def qjw(te:TV):TVA:=λτ Q=>te τ λr=>match r.d with
|.int j=>-(2 ^ 62)<=j/\j<2 ^ 62/\Q (.ok (rngL 0 j.toNat))
|_=>False
theorem qfv{tg:Expr}(hg:Gl X "range")(hm:X.mg "range" = none)(h:VE X EX a ta)(hp:qa2 a=true:=by rfl):VI X EX tg (.Call (.Name "range" p) [a] [] pos) (qjw ta) :=
 let ⟨_,a1,a2⟩:=h.u;⟨_,qt5 hg hm (qac a1 qaq hp) hp,λH0 B H τ σ Q Qd s S h xc k=>a2 H0 B H τ σ _ _ s S h (xno λ_ q=>q) λr v B' H' q hr hq=>by
  split at hq
  ·rename_i j ej
   exact⟨j,by rw[hr.pk.scal (z:=.int j) (by rw[ej];rfl)],hq.1,hq.2.1,k _ _ B' H' q (qz7 0 j.toNat) hq.2.2⟩
  ·exact hq.elim⟩
def q2l(ta tb:TV):TVA:=λτ Q=>ta τ λrx=>exR rx (λ_=>False) <| tb τ λry=>match rx.d,ry.d with
|.int i,.int j=>(-(2 ^ 62)<=i/\i<2 ^ 62/\-(2 ^ 62)<=j/\j<2 ^ 62)/\Q (.ok (rngL i (j-i).toNat))
|_,_=>False
def forW(g:TVG)(tb:TVS)(Dv:VEnds):List D->VSt->Prop
|[],τ=>Dv.nx τ
|d::ds,τ=>g d τ λτ'=>tb { Dv with nx:=forW g tb Dv ds,ct:=forW g tb Dv ds,bk:=Dv.nx } τ'
def exI(τ:VSt)(Dv:VEnds):AR->(List D->Prop)->Prop
|.ok ds,k=>k ds
|.exc n,_=>Dv.xc τ n
def vFor(vi:TVA)(g:TVG)(tb:TVS):TVS:=λDv τ=>vi τ λa=>exI τ Dv a λds=>forW g tb Dv ds τ
theorem q13{wi:TI}{g:TG}{tb:TS}{vi:TVA}{gv:TVG}{bv:TVS}(hi:RfI K EX wi vi)(hg:RfG K g gv)(hb:RfS K EX tb bv):RfS K EX (tFor wi g tb) (vFor vi gv bv):=λB0 H0 B H τ σ Dv Dh p S h E =>
 hi H0 B H τ σ _ _ p.s S h (E.raised p S) λJ ds B1 H1 q ok hw=>by
  have pq:=p.trans q
  have E1:=E.base pq
  refine⟨λi m σ H=>m=ds.length-i/\i<=ds.length/\∃B2 τ,Stp B1 H0 B2 H/\Slots K H0 B2 H τ σ/\forW gv bv Dv (ds.drop i) τ,⟨ds.length,by lia,Nat.zero_le _,B1,τ,pq.here,S.step q,hw⟩,?_⟩
  rintro i m σ2 H2 ⟨rfl,hi,B2,τ2,p2,S2,w⟩
  by_cases hlt:i<ds.length
  ·have ei:ds[i]?=some ds[i]:=List.getElem?_eq_getElem hlt
   rw[List.drop_eq_getElem_cons hlt] at w
   obtain⟨go,yl⟩:=(ok i B2 H2 p2.b p2.s).1 _ ei
   refine .inr ⟨go,λσ' H'=>∃B2 τ,Stp B1 H0 B2 H'/\Slots K H0 B2 H' τ σ'/\forW gv bv Dv (ds.drop (i+1)) τ,λσ' H' ⟨B3,τ3,a1,a2,a3⟩=>⟨ds.length-(i+1),by lia,rfl,by lia,B3,τ3,a1,a2,a3⟩,λy H' hy=>?_⟩
   obtain⟨B3,q3,rp⟩:=yl y H' hy
   refine hg H0 B3 H' τ2 σ2 y _ _ _ q3.s (S2.step q3) rp w λτ' σ' S' _ h'=>?_
   exact hb B1 H0 B3 H' τ' σ' _ _ (p2.trans q3) S' h' ⟨λB H τ σ a1 a2 a3=>⟨B,τ,a1,a2,a3⟩,E1.rt,λB H τ σ a1 a2 a3=>E1.nx B H τ σ a1 a2 a3,λB H τ σ a1 a2 a3=>⟨B,τ,a1,a2,a3⟩,E1.xc,E1.ro,E1.rn⟩
  ·have ei:ds[i]?=none:=List.getElem?_eq_none (by lia)
   rw[List.drop_eq_nil_of_le (by lia)] at w
   exact .inl ⟨(ok i B2 H2 p2.b p2.s).2 ei,E1.nx B2 H2 τ2 σ2 p2 S2 w⟩
theorem qdr{tg iter:Expr}{body:List Stmt}{vi:TVA}{g:TVG}(hp:PassesOwn (model X.prog X.w) X.A X.env X.xe)(hc:X.calm=true)(hi:VI X EX tg iter vi)(hg:VG X tg g)(hb:VSs X EX body t)
  (hs:∀x,foldedSetIterable iter X.env x=pure x:=by intro _;rfl):VS X EX (.For tg iter body [] pos) (vFor vi g t) :=
 let ⟨_,a1,a2⟩:=hi.u;let ⟨_,b1,b2⟩:=hg.u;let ⟨_,c1,c2⟩:=hb.u;⟨_,qkv hp hc a1 b1 c1 hs,q13 a2 b2 c2⟩
theorem qmt:VFs X EX [] (λ_ Q=>Q true):=⟨_,qi7,λH0 B H τ σ Y N Qd s S h k=>by have:=k true B H (.refl s) h;rw[if_pos rfl] at this;exact this⟩
theorem qsi(h:VT X EX c tT):VFs X EX [c] tT:=let ⟨_,a1,a2⟩:=h.u;⟨_,qym a1,λH0 B H τ σ Y N Qd s S h k=>a2 H0 B H τ σ _ _ s S h k⟩
def qij(τ:VSt)(k:Nat)(g:TVG)(ti:TVT)(te:TV)(Q:R->Prop):List D->List D->Prop
|[],acc=>Q (.own (.lst acc))
|d::ds,acc=>g d (τ++List.replicate k none) λτ2=>(τ2.take τ.length=τ/\τ2.length=τ.length+k)/\ti τ2 λb=>if b=true then te τ2 λr=>pubR r λd'=>acc.length<sizeLine/\qij τ k g ti te Q ds (acc++[d']) else qij τ k g ti te Q ds acc
def qjt(vi:TVA)(g:TVG)(ti:TVT)(te:TV)(k:Nat):TV:=λτ Q=>vi τ λa=>exA a Q λds=>qij τ k g ti te Q ds []
theorem Slots.more(S:Slots K H0 B H τ σ)(k:Nat):Slots K H0 B H (τ++List.replicate k none) (σ++List.replicate k none):=by
 have get:∀(i:Nat) (r:R),(τ++List.replicate k none)[i]?=some (some r)->τ[i]?=some (some r)/\(σ++List.replicate k (none:Option V))[i]?=σ[i]?:=λi r h=>by
  by_cases l:i<τ.length
  ·rw[List.getElem?_append_left l] at h
   exact⟨h,List.getElem?_append_left (by rw[S.len];exact l)⟩
  ·rw[List.getElem?_append_right (by lia)] at h
   by_cases l2:i-τ.length<k
   ·rw[List.getElem?_replicate_of_lt l2] at h;cases h
   ·rw[List.getElem?_eq_none (by rw[List.length_replicate];lia)] at h;cases h
 refine⟨by rw[List.length_append,List.length_append,S.len,List.length_replicate,List.length_replicate],λi d h=>?_,λi d h=>?_,λi d h=>?_,λi j d e a h1 h2 h3 h4=>?_⟩
 ·obtain⟨g1,g2⟩:=get i _ h
  rw[g2]
  exact S.val i d g1
 ·obtain⟨g1,g2⟩:=get i _ h
  rw[g2]
  exact S.fz i d g1
 ·obtain⟨g1,g2⟩:=get i _ h
  rw[g2]
  exact S.own i d g1
 ·obtain⟨g1,g2⟩:=get i _ h1
  obtain⟨g3,g4⟩:=get j _ h2
  rw[g2] at h3
  rw[g4] at h4
  exact S.sep i j d e a g1 g3 h3 h4
theorem Slots.less{τ2:VSt}{k:Nat}(S:Slots K H0 B H τ2 σ)(h1:τ2.take τ.length=τ)(h2:τ2.length=τ.length+k):Slots K H0 B H (τ++List.replicate k none) σ/\∀(j:Nat) (e:D),(τ++List.replicate k none)[j]?=some (some (R.own e))->τ2[j]?=some (some (R.own e)):=by
 have get:∀(i:Nat) (r:R),(τ++List.replicate k none)[i]?=some (some r)->τ2[i]?=some (some r):=λi r h=>by
  by_cases l:i<τ.length
  ·rw[List.getElem?_append_left l,←h1,List.getElem?_take_of_lt l] at h
   exact h
  ·rw[List.getElem?_append_right (by lia)] at h
   by_cases l2:i-τ.length<k
   ·rw[List.getElem?_replicate_of_lt l2] at h;cases h
   ·rw[List.getElem?_eq_none (by rw[List.length_replicate];lia)] at h;cases h
 exact⟨⟨by rw[S.len,h2,List.length_append,List.length_replicate],λi d h=>S.val i d (get i _ h),λi d h=>S.fz i d (get i _ h),λi d h=>S.own i d (get i _ h),λi j d e a q1 q2=>S.sep i j d e a (get i _ q1) (get j _ q2)⟩,λj e=>get j _⟩
theorem Slots.heap(S:Slots K H0 B H τ σ)(h:∀(i:Nat) (d:D) (a:Addr),τ[i]?=some (some (R.own d))->σ[i]?=some (some (.ref a))->H' a=H a):Slots K H0 B H' τ σ :=
 ⟨S.len,S.val,S.fz,λi d e=>let ⟨a,q1,q2,q3,q4⟩:=S.own i d e;⟨a,q1,q2,q3,q4.step (Same.refl _) (h i d a e q1)⟩,S.sep⟩
abbrev EX0:St->XK:=λ_ _ _ _=>False
theorem qys{wi:TI}{g:TG}{ti:TF}{ee:TE}{vi:TVA}{gv:TVG}{tv:TVT}{k:Nat}(hi:RfI K EX wi vi)(hg:RfG K g gv)(hf:RfF K ti tv)(he:RfE K EX0 ee te):RfE K EX (qk4 wi g ti ee k) (qjt vi gv tv te k):=λH0 B H τ σ Q Qd s S h xc kk =>
 hi H0 B H τ σ _ _ s S h xc λJ ds B1 H1 q ok hw p hp=>by
  have S1:=S.step q
  refine⟨λi m σ' xs H'=>m=ds.length-i/\i<=ds.length/\∃B2 acc,Stp B1 H1 B2 H'/\H' p=some (.lst xs)/\B2 p=none/\Reps K B2 acc xs/\Slots K H0 B2 H' (τ++List.replicate k none) σ' /\
    (∀(j:Nat) (e:D),(τ++List.replicate k none)[j]?=some (some (R.own e))->σ'[j]?≠some (some (.ref p)))/\qij τ k gv tv te Qd (ds.drop i) acc,
   ⟨ds.length,by lia,Nat.zero_le _,B1,[],.grow q.s (qae hp _),qag,q.s.free hp,.nil,(S1.more k).heap λi d a h1 h2=>?_,λj e h1 h2=>?_,hw⟩,?_⟩
  ·obtain⟨c,q1,_,_,ow⟩:=(S1.more k).own i d h1
   rw[h2] at q1
   cases q1
   exact qal λz=>ow.some (z▸hp)
  ·obtain⟨c,q1,_,_,ow⟩:=(S1.more k).own j e h1
   rw[h2] at q1
   cases q1
   exact ow.some hp
  rintro i m σ2 xs H2 ⟨rfl,hle,B2,acc,p2,hx,hb,rp,S2,fr,w⟩
  by_cases hlt:i<ds.length
  ·have ei:ds[i]?=some ds[i]:=List.getElem?_eq_getElem hlt
   rw[List.drop_eq_getElem_cons hlt] at w
   obtain⟨go,yl⟩:=(ok i B2 H2 p2.b p2.s).1 _ ei
   refine .inr ⟨go,λy H' hy=>?_⟩
   obtain⟨B3,q3,ry⟩:=yl y H' hy
   replace hb:=q3.keep hb (by rw[hx];exact λz=>by cases z) (by rw[hx];exact λ_ z=>by cases z)
   replace hx:=q3.h _ _ hx
   replace rp:=rp.same q3.b
   replace p2:=p2.trans q3
   replace S2:=S2.step q3
   clear q3
   refine hg H0 B3 H' _ σ2 y _ _ _ p2.s S2 ry w λτ3 σ3 S3 kp h3=>?_
   obtain⟨⟨e1,e2⟩,h3⟩:=h3
   obtain⟨S3',ow3⟩:=S3.less e1 e2
   have fr3:∀(j:Nat) (e:D),(τ++List.replicate k none)[j]?=some (some (R.own e))->σ3[j]?≠some (some (.ref p)):=λj e h z=>by
    obtain⟨g1,g2⟩:=kp j e (ow3 j e h)
    rw[g2] at z
    exact fr j e g1 z
   refine hf H0 B3 H' τ3 σ3 _ _ _ p2.s S3 h3 λb B4 H4 q4 hq4=>?_
   have hx4:H4 p=some (.lst xs):=q4.h _ _ hx
   have hb4:B4 p=none:=q4.keep hb (by rw[hx];exact λz=>by cases z) (by rw[hx];exact λ_ z=>by cases z)
   cases b with
  |false =>
    rw[if_neg Bool.false_ne_true] at hq4 ⊢
    exact⟨ds.length-(i+1),by lia,rfl,by lia,B4,acc,p2.trans q4,hx4,hb4,rp.same q4.b,S3'.step q4,fr3,hq4⟩
  |true =>
    rw[if_pos rfl] at hq4 ⊢
    refine he H0 B4 H4 τ3 σ3 _ _ q4.s (S3.step q4) hq4 (xno λ_ q=>q) λr v B5 H5 q5 hr hq5=>?_
    obtain⟨d',B6,q6,_,rd,hz,hq6⟩:=pub q5 hr hq5
    have hx6:H5 p=some (.lst xs):=q6.h _ _ hx4
    have hb6:B6 p=none:=q6.keep hb4 (by rw[hx4];exact λz=>by cases z) (by rw[hx4];exact λ_ z=>by cases z)
    have qq:=q4.trans q6
    refine⟨hx6,by rw[←rp.length];exact hz,ds.length-(i+1),by lia,rfl,by lia,B6,acc++[d'],(p2.trans qq).upd hp hb6,qag,hb6,(rp.same qq.b).append (.one rd),(S3'.step qq).heap λj d a h1 h2=>?_,fr3,hq6⟩
    exact qal λz=>fr3 j d h1 (z▸h2)
  ·have ei:ds[i]?=none:=List.getElem?_eq_none (by lia)
   rw[List.drop_eq_nil_of_le (by lia)] at w
   exact .inl ⟨(ok i B2 H2 p2.b p2.s).2 ei,kk (.own (.lst acc)) _ B2 H2 (q.trans p2) ⟨p,rfl,q.h.free hp,hb,xs,hx,rp⟩ w⟩
def canE(K:PySem.W.Frag)(t:TV):TE:=λσ H Q=>∃H0 B τ Qd,Same B H/\Slots K H0 B H τ σ/\t τ Qd/\(∀n C B' H',Stp B H B' H'->clsOf K n C->Qd (.exc n)->EX0 σ (.ref C) none H')/\∀r v B' H',Stp B H B' H'->RepR K B' H H' r v->Qd r->Q v H'
def canG(K:PySem.W.Frag)(g:TVG):TG:=λv σ H Q=>∃H0 B τ d Qd,Same B H/\Slots K H0 B H τ σ/\Rep K B d v/\g d τ Qd/\∀τ' σ',Slots K H0 B H τ' σ'->Kp τ σ τ' σ'->Qd τ'->Q σ' H
def canF(K:PySem.W.Frag)(t:TVT):TF:=λσ H Y N=>∃H0 B τ Qd,Same B H/\Slots K H0 B H τ σ/\t τ Qd/\∀b B' H',Stp B H B' H'->Qd b->if b=true then Y H' else N H'
theorem VE.can(h:VE X EX0 e te):QE X e (canE X.K te):=let ⟨_,a1,a2⟩:=h.u;⟨λpins s σ H Q I ⟨H0,B,τ,Qd,q1,q2,q3,q4,q5⟩=>a1.u pins s σ H Q I (a2 H0 B H τ σ Q Qd q1 q2 q3 q4 q5)⟩
theorem VG.can{g:TVG}(h:VG X e g):QG X e (canG X.K g):=let ⟨_,a1,a2⟩:=h.u;⟨λpins s σ H v u Q I r ⟨H0,B,τ,d,Qd,q1,q2,q3,q4,q5⟩=>a1.u pins s σ H v u Q I r (a2 H0 B H τ σ v d Q Qd q1 q2 q3 q4 q5)⟩
theorem VFs.can(h:VFs X EX es tT):QF X es (canF X.K tT):=let ⟨_,a1,a2⟩:=h.u;⟨λpins s σ H Y N I ⟨H0,B,τ,Qd,q1,q2,q3,q4⟩=>a1.u pins s σ H Y N I (a2 H0 B H τ σ Y N Qd q1 q2 q3 q4)⟩
theorem qhl{tg iter elt:Expr}{ifs:List Expr}{csc:Scope}{NB M:List Str}{vi:TVA}{g:TVG}{ti:TVT}(hi:VI X EX tg iter vi)(hc:X.calm=true)(S:CompScope X.env.scope X.N NB M csc)
  (hg:∀cl C s₀ H₀ fp pn,VG (cxC X NB csc cl C s₀ H₀ fp pn) tg g) (hf:∀cl C s₀ H₀ fp pn,VFs (cxC X NB csc cl C s₀ H₀ fp pn) EX0 ifs ti)
  (he:∀cl C s₀ H₀ fp pn,VE (cxC X NB csc cl C s₀ H₀ fp pn) EX0 elt te) (hs:∀x,foldedSetIterable iter X.env x=pure x:=by intro _;rfl):VC X EX (.ListComp elt [⟨tg,iter,ifs,0⟩] csc pos) (qjt vi g ti te M.length) :=
 let ⟨_,a1,a2⟩:=hi.u;⟨_,qi5 (g:=canG X.K g) (ti:=canF X.K ti) (te:=canE X.K te) a1 hc S (λcl C s₀ H₀ fp pn=>(hg cl C s₀ H₀ fp pn).can) (λcl C s₀ H₀ fp pn=>(hf cl C s₀ H₀ fp pn).can) (λcl C s₀ H₀ fp pn=>(he cl C s₀ H₀ fp pn).can) hs,
  qys a2 (λH0 B H τ σ v d Q Qd q1 q2 q3 q4 q5=>⟨H0,B,τ,d,Qd,q1,q2,q3,q4,q5⟩) (λH0 B H τ σ Y N Qd q1 q2 q3 q4=>⟨H0,B,τ,Qd,q1,q2,q3,q4⟩) (λH0 B H τ σ Q Qd q1 q2 q3 q4 q5=>⟨H0,B,τ,Qd,q1,q2,q3,q4,q5⟩)⟩
theorem vc_e(h:VC X EX e te):VE X EX e te:=let ⟨_,a1,a2⟩:=h.u;⟨_,qc_e a1,a2⟩
def ownL(τ:VSt)(i:Nat)(Q:List D->Prop):Prop:=match τ[i]? with
|some (some (.own (.lst ds)))=>Q ds
|_=>False
theorem qxs{i:Nat}{Q:List D->Prop}(h:ownL τ i Q):∃ds,τ[i]?=some (some (.own (.lst ds)))/\Q ds:=by
 unfold ownL at h
 split at h
 ·exact⟨_,by assumption,h⟩
 ·exact h.elim
theorem Slots.lst{i:Nat}{ds es:List D}{ad:Addr}{ys:List V}(S:Slots K H0 B H τ σ)(p:Stp B0 H0 B H)(hi:τ[i]?=some (some (.own (.lst ds))))(ha:σ[i]?=some (some (.ref ad)))(r:Reps K B es ys) :
  Stp B0 H0 B (L2.upd H ad (.lst ys))/\Slots K H0 B (L2.upd H ad (.lst ys)) (τ.set i (some (.own (.lst es)))) σ:=by
 obtain⟨c,q,h0,hb,_⟩:=S.own i _ hi
 rw[ha] at q
 cases q
 exact⟨p.upd h0 hb,S.upd hi ha (qdg r)⟩
theorem Slots.ownL{i:Nat}{Q:List D->Prop}(S:Slots K H0 B H τ σ)(h:L2.ownL τ i Q):∃ds ad xs,τ[i]?=some (some (.own (.lst ds)))/\Q ds/\σ[i]?=some (some (.ref ad))/\H ad=some (.lst xs)/\Reps K B ds xs:=by
 obtain⟨ds,e,q⟩:=qxs h
 obtain⟨a,q1,_,_,xs,q2,q3⟩:=S.own i _ e
 exact⟨ds,a,xs,e,q,q1,q2,q3⟩
def qhj(i:Nat)(te:TV):TVS:=λDv τ=>ownL τ i λds=>te τ λr=>exS τ Dv r (pubR r λd=>ds.length<sizeLine/\Dv.nx (τ.set i (some (.own (.lst (ds++[d]))))))
theorem qlc(i:Nat)(h:VE X EX e te)(hN:X.N[i]?=some x:=by rfl)(hv:Vis X.env.scope x:=by first|exact Or.inl rfl|exact Or.inr (Or.inl rfl)|exact Or.inr (Or.inr rfl))(hd:(x==("__debug__" : Str))=false:=by decide)
  (hcd:(x==("__classdict__" : Str))=false:=by decide) (hp:qa2 e=true:=by rfl)
  (hbase:attributeBase (.Name x p) "append" X.env (eval (.Name x p) X.env)=eval (.Name x p) X.env:=by rfl) (hline:(apos.endLine==cpos.line)=true:=by rfl)
  (hs:swapsWith (.Call (.Attribute (.Name x p) "append" apos) [e] [] cpos) none pos.line X.env=pure false:=by rfl) :
  VS X EX (.Expr (.Call (.Attribute (.Name x p) "append" apos) [e] [] cpos) pos) (qhj i te) :=
 let ⟨_,a1,a2⟩:=h.u;⟨_,qdh (qbm PySem.F.plainAttrs_list PySem.F.slot_list_append PySem.F.type_list_append qb5 (qv i hN hv hd hcd) (qac a1 qaq hp) (by simp[hp]) rfl hbase hline) hs,λB0 H0 B H τ σ Dv Dh p S h E=>by
  obtain⟨ds,ad,xs,e1,h,e2,e3,_⟩:=S.ownL h
  refine⟨.ref ad,e2,.inl ⟨rfl,xs,SqL.of e3⟩,a2 H0 B H τ σ _ _ p.s S h (E.raised p S) λr v B' H' q hr hq=>?_⟩
  obtain⟨d,B2,q2,_,rp,hz,hn⟩:=pub q hr (hr.okS hq)
  have S2:=S.step q2
  obtain⟨a',q1,_,_,xs2,q4,q3⟩:=S2.own i _ e1
  rw[e2] at q1
  cases q1
  refine⟨ad,xs2,v,rfl,rfl,q4,by rw[←q3.length];exact hz,?_⟩
  obtain⟨p3,S3⟩:=S2.lst (p.trans q2) e1 e2 (q3.append (.one rp))
  exact E.nx B2 _ _ σ p3 S3 hn⟩
def qbg(N:List Str)(ds:List D):VSt:=ds.map (λd=>some (R.val d))++List.replicate (N.length-ds.length) none
theorem qh8:∀ {ds:List D} {vs:List V},Reps K B ds vs->Slots K H0 B H (ds.map λd=>some (R.val d)) (vs.map some)
|[],_,h=>by
  unfold Reps at h
  subst h
  exact⟨rfl,λi d e=>by simp at e,λi d e=>by simp at e,λi d e=>by simp at e,λi j d e a h=>by simp at h⟩
|d::ds,_,h=>by
  unfold Reps at h
  obtain⟨v,vs,rfl,h1,h2⟩:=h
  have S:=qh8 h2
  refine⟨by have:=S.len;simp at this ⊢;exact this,λi f e=>?_,λi f e=>?_,λi f e=>?_,λi j f g ad e=>?_⟩
  ·cases i with
  |zero=>simp at e;subst e;exact⟨v,rfl,h1⟩
  |succ i=>simpa using S.val i f (by simpa using e)
  ·cases i with
  |zero=>simp at e
  |succ i=>simpa using S.fz i f (by simpa using e)
  ·cases i with
  |zero=>simp at e
  |succ i=>simpa using S.own i f (by simpa using e)
  ·cases i with
  |zero=>simp at e
  |succ i =>
    simp at e
theorem Fun.okV{P:Program}{w:World}{mg:Str->Option Value}{base:Heap}{x qual:Str}{st:Stmt}{f:Addr}{fd:FuncData}{N ps:List Str}{k:Nat}{g:DP}(F:Fun K x qual st f fd)(S:FnScope N ps (qad st))(len:∀ds Q,g ds Q->ds.length=ps.length)
  (hbody:∀(cdv:Value) (A:Around) (outer:List Env) (s:Shared) (H:Hp) (E:XK),Room k (A.deeper (envOfC qual (qad st) s.heap.objs.size f cdv)) ->
   ∃t,VSs (cxOf CX0 P w K mg base N qual (qad st) f cdv A outer s H E).nox EX0 (qbl st) t/\∀ds Q,g ds Q->t { nx:=λ_=>Q (.val .non),rt:=Q } (qbg N ds)):FnOk P w K mg base CX0 (k+1) f fd ps (spOf K g):=by
 refine F.okQ S (λvs H Q E h=>?_) (λcdv A outer s H vs Q E hr h=>?_)
 ·obtain⟨ds,B,Qd,_,rp,hg,_,_⟩:=h
  rw[←rp.length]
  exact len ds Qd hg
 ·obtain⟨ds,B,Qd,sm,rp,hg,_,kk⟩:=h
  obtain⟨t,⟨ts,q1,q2⟩,ht⟩:=hbody cdv A outer s H E hr
  refine⟨ts,q1,q2 B H B H (qbg N ds) (start N vs) _ _ (.refl sm) ?_ (ht ds Qd hg) ⟨λB' H' τ σ p S h=>kk (.val .non) .non B' H' h p (repV rfl),λr v B' H' p hr h=>kk r v B' H' h p hr,λ_ _ _ _ _ _ h=>h.elim,λ_ _ _ _ _ _ h=>h.elim,λ_ _ _ _ _ _ _ _ _ h=>h.elim,λ_ _ _ _ _ _ _ _ _ _ h=>h.elim,λ_ _ _ _ _ _ _ h=>h.elim⟩⟩
  unfold qbg start
  rw[rp.length]
  exact(qh8 rp).more _
end
end L2
namespace L2
open PySem PySem.Spec PyProof.Rows
section
variable {X:Cx} {EX:St->XK} {K:PySem.W.Frag} {e a b c o:Expr} {te ta tb tc to:TV} {pos p apos cpos:Pos} {x:Str}
def vNeg(ta:TV):TV:=λτ Q=>ta τ λr=>match r.d with
|.int i=>Q (.val (.int (-i)))
|_=>False
theorem qlb(ha:VE X EX a ta):VE X EX (.UnaryOp .USub a pos) (vNeg ta) :=
 let ⟨_,a1,a2⟩:=ha.u;⟨_,q3p q2f a1,λH0 B H τ σ Q Qd s S h xc k=>a2 H0 B H τ σ _ _ s S h (xno λ_ q=>q) λr v B' H' p q h1=>by
  split at h1
  ·rename_i i e
   exact⟨i,q.pk.scal (by rw[e];rfl),k (.val (.int (-i))) _ B' H' p (repV rfl) h1⟩
  ·exact h1.elim⟩
def vIsN(g:Bool->Bool)(rx ry:R)(Q:R->Prop):Prop:=match ry.d with
|.non=>Q (.val (.bl (g (match rx.d with|.non=>true|_=>false))))
|_=>False
theorem q1c{B H:Hp}{r:R}{v:V}(h:Pk K B H r v):decide (v=.non)=(match r.d with|.non=>true|_=>false):=by
 have key:∀d,Rep K B d v->decide (v=.non)=(match d with|.non=>true|_=>false):=λd h=>by
  cases d<;>unfold Rep at h<;>first|(subst h;rfl)|(obtain⟨_,_,rfl,_⟩:=h;rfl)|(obtain⟨_,rfl,_⟩:=h;rfl)
 have key2:∀d,(∃a,v=.ref a/\B a=none/\OwnAt K B H d a)->decide (v=.non)=(match d with|.non=>true|_=>false):=λd ⟨a,e,_,ow⟩=>by
  subst e
  cases d<;>first|rfl|exact ow.elim
 cases r with
|val d=>exact key d h
|own d=>exact key2 d h
|peek d=>exact key2 d h
|exc n=>exact h.elim
theorem quy:VO X (compareOp .IsNot) (vIsN (!·)):=by
 refine⟨_,qri,λB H x y rx ry Q Qd s px py h k=>?_⟩
 unfold vIsN at h
 split at h
 ·rename_i e
  refine⟨py.scal (by rw[e];rfl),?_⟩
  rw[q1c px]
  exact k _ _ B H (.refl s) (repV rfl) h
 ·exact h.elim
def q2i(to te:TV):TV:=λτ Q=>to τ λrs=>match rs.d with
|.str sep=>te τ λrl=>∃ys:List Str,(rl.d=.lst (ys.map D.str)\/rl.d=.tup (ys.map D.str))/\(ys.map (·.length)).sum+ys.length*sep.length<=16777216/\Q (.val (.str (glue sep ys)))
|_=>False
def strsOf:List D->Option (List Str)
|[]=>some []
|.str s::ds=>(strsOf ds).map (s::·)
|_::_=>none
theorem qfs(ss:List Str):strsOf (ss.map D.str)=some ss:=by
 induction ss with
|nil=>rfl
|cons s ss ih=>rw[List.map_cons,strsOf,ih];rfl
theorem qhf:∀ {ds:List D} {ss:List Str},strsOf ds=some ss->ds=ss.map D.str
|[],ss,h=>by cases h;rfl
|d::ds,ss,h=>by
  cases d<;>first|(unfold strsOf at h;cases h;done)|skip
  rename_i s
  unfold strsOf at h
  cases q:strsOf ds with
 |none=>rw[q] at h;cases h
 |some r =>
   rw[q] at h
   cases h
   rw[qhf q]
   rfl
def vIn(g:Bool->Bool)(rx ry:R)(Q:R->Prop):Prop:=match rx.d,ry.d with
|.str x,.str y=>Q (.val (.bl (g (!(Builtin.Str.occurrences y x 0 y.length 1).isEmpty))))
|.str x,.tup ds=>∃ss,strsOf ds=some ss/\Q (.val (.bl (g (decide (x∈ss)))))
|.str x,.lst ds=>∃ss,strsOf ds=some ss/\Q (.val (.bl (g (decide (x∈ss)))))
|.str x,.kt ss=>Q (.val (.bl (g (decide (x∈ss)))))
|_,_=>False
theorem qf8(x:Str):∀(ss:List Str),inV (.str x) (ss.map V.str)=decide (x∈ss)
|[]=>rfl
|y::ss=>by
  have:=qf8 x ss
  unfold inV at this ⊢
  rw[List.map_cons,List.any_cons,this]
  apply qcn
  rw[Bool.or_eq_true,decide_eq_true_iff,decide_eq_true_iff,List.mem_cons]
  rw[show eqV (V.str y) (V.str x)=(y==x) from rfl,beq_iff_eq]
  exact⟨λh=>h.imp Eq.symm id,λh=>h.imp Eq.symm id⟩
theorem qgm(ss:List Str):(ss.map V.str).all qf4=true:=by rw[List.all_map];simp[qf4]
theorem Pk.kt{B H:Hp}{r:R}{v:V}{ss:List Str}(h:Pk K B H r v)(e:r.d=.kt ss):∃a,v=.ref a/\SqT K (λ_=>none) a (ss.map V.str):=by
 cases r with
|val d =>
  cases (show d=_ from e)
  have h':Rep K B (.kt ss) v:=h
  unfold Rep at h'
  exact h'
|own d=>cases (show d=_ from e);obtain⟨_,_,_,q⟩:=h;exact q.elim
|peek d=>cases (show d=_ from e);obtain⟨_,_,_,q⟩:=h;exact q.elim
|exc n=>exact h.elim
theorem q2t:VO X (compareOp .In) (vIn id):=by
 refine⟨_,op_in_str.or qrh,λB H x y rx ry Q Qd s px py h k=>?_⟩
 unfold vIn at h
 split at h
 ·rename_i u w e1 e2
  exact .inl ⟨u,w,px.scal (by rw[e1];rfl),py.scal (by rw[e2];rfl),k _ _ B H (.refl s) (repV rfl) h⟩
 ·rename_i u ds e1 e2
  obtain⟨ss,hs,q⟩:=h
  cases qhf hs
  cases px.scal (z:=.str u) (by rw[e1];rfl)
  obtain⟨a,xs,rfl,h1,r1⟩:=py.tup e2
  cases r1.strs
  have q':Qd (.val (.bl (decide (u∈ss)))):=q
  rw[←qf8] at q'
  exact .inr ⟨a,_,rfl,.inr (s.sqT h1.sq),rfl,qgm ss,k _ _ B H (.refl s) (repV rfl) q'⟩
 ·rename_i u ds e1 e2
  obtain⟨ss,hs,q⟩:=h
  cases qhf hs
  cases px.scal (z:=.str u) (by rw[e1];rfl)
  obtain⟨a,xs,rfl,h1,r1⟩:=py.lst s e2
  cases r1.strs
  have q':Qd (.val (.bl (decide (u∈ss)))):=q
  rw[←qf8] at q'
  exact .inr ⟨a,_,rfl,.inl (SqL.of h1),rfl,qgm ss,k _ _ B H (.refl s) (repV rfl) q'⟩
 ·rename_i u ss e1 e2
  cases px.scal (z:=.str u) (by rw[e1];rfl)
  obtain⟨a,rfl,h1⟩:=py.kt e2
  have q':Qd (.val (.bl (decide (u∈ss)))):=h
  rw[←qf8] at q'
  exact .inr ⟨a,_,rfl,.inr ((Same.emp H).sqT h1),rfl,qgm ss,k _ _ B H (.refl s) (repV rfl) q'⟩
 ·exact h.elim
end
end L2
namespace L2
open PySem PySem.Spec PyProof.Rows
theorem v_cut{t u:TVS}{Dv:VEnds}{τ:VSt}(Pv:VSt->Prop)(rest:∀τ,Pv τ->u Dv τ)(now:∀nx:VSt->Prop,(∀τ,Pv τ->nx τ)->t { nx:=nx,rt:=Dv.rt,bk:=Dv.bk,ct:=Dv.ct,xc:=Dv.xc,ro:=Dv.ro,rn:=Dv.rn } τ):vSeq t u Dv τ:=now (u Dv) rest
section
variable {g:TVG} {tb:TVS} {Dv:VEnds} {τ:VSt}
theorem qw4{ds:List D}(Pv:Nat->VSt->Prop)(h0:Pv 0 τ)(hn:∀(i:Nat) (d:D) (τ:VSt),ds[i]?=some d->Pv i τ->∀nx:VSt->Prop,(∀τ',Pv (i+1) τ'->nx τ')->g d τ λτ'=>tb { nx:=nx,rt:=Dv.rt,bk:=Dv.nx,ct:=nx,xc:=Dv.xc,ro:=Dv.ro,rn:=Dv.rn } τ')
  (he:∀τ,Pv ds.length τ->Dv.nx τ):forW g tb Dv ds τ:=by
 have key:∀(n i:Nat) (τ:VSt),ds.length-i=n->i<=ds.length->Pv i τ->forW g tb Dv (ds.drop i) τ:=λn=>by
  induction n with
 |zero =>
   intro i τ h1 h2 h3
   have e:i=ds.length:=by lia
   subst e
   rw[List.drop_length]
   exact he τ h3
 |succ n ih =>
   intro i τ h1 h2 h3
   have l:i<ds.length:=by lia
   rw[List.drop_eq_getElem_cons l]
   exact hn i ds[i] τ (List.getElem?_eq_getElem l) h3 _ λτ' h=>ih (i+1) τ' (by lia) (by lia) h
 have:=key ds.length 0 τ (by lia) (Nat.zero_le _) h0
 rw[List.drop_zero] at this
 exact this
theorem qdx{α:Type}{f:α->D}{xs:List α}(Pv:Nat->VSt->Prop)(h0:Pv 0 τ)(hn:∀(i:Nat) (x:α) (τ:VSt),xs[i]?=some x->Pv i τ->∀nx:VSt->Prop,(∀τ',Pv (i+1) τ'->nx τ')->g (f x) τ λτ'=>tb { nx:=nx,rt:=Dv.rt,bk:=Dv.nx,ct:=nx,xc:=Dv.xc,ro:=Dv.ro,rn:=Dv.rn } τ')
  (he:∀τ,Pv xs.length τ->Dv.nx τ):forW g tb Dv (xs.map f) τ:=by
 refine qw4 Pv h0 (λi d τ e=>?_) (by rw[List.length_map];exact he)
 rw[List.getElem?_map] at e
 cases q:xs[i]? with
|none=>rw[q] at e;cases e
|some x =>
  rw[q] at e
  cases e
  exact hn i x τ q
theorem qgo{lo:Int}{n:Nat}(Pv:Nat->VSt->Prop)(h0:Pv 0 τ)(hn:∀(i:Nat) (τ:VSt),i<n->Pv i τ->∀nx:VSt->Prop,(∀τ',Pv (i+1) τ'->nx τ')->g (.int (lo+i)) τ λτ'=>tb { nx:=nx,rt:=Dv.rt,bk:=Dv.nx,ct:=nx,xc:=Dv.xc,ro:=Dv.ro,rn:=Dv.rn } τ')
  (he:∀τ,Pv n τ->Dv.nx τ):forW g tb Dv (rngL lo n) τ:=by
 unfold rngL
 refine qdx Pv h0 (λi x τ e=>?_) (by rw[List.length_range];exact he)
 by_cases l:i<n
 ·rw[List.getElem?_range l] at e
  cases e
  exact hn i τ l
 ·rw[List.getElem?_eq_none (by rw[List.length_range];lia)] at e
  cases e
end
theorem qhz{α:Type}(xs:List α):xs.filter (λ_=>true)=xs:=List.filter_eq_self.mpr λ_ _=>rfl
section
variable {α:Type} {f:α->D} {τ:VSt} {k:Nat} {g:TVG} {ti:TVT} {te:TV} {Q:R->Prop}
theorem qm7(P:α->D->Prop)(p:α->Bool)(xs:List α)(hz:xs.length<=sizeLine)
  (ok:∀x∈xs,∀(Y:R->Prop) (N:Prop),(p x=true->∀d,P x d->Y (.val d))->(p x=false->N)->g (f x) (τ++List.replicate k none) λτ2=>(τ2.take τ.length=τ/\τ2.length=τ.length+k)/\ti τ2 λb=>if b=true then te τ2 Y else N)
  (fin:∀es:List D,es.length=(xs.filter p).length->(∀(j:Nat) (x:α) (e:D),(xs.filter p)[j]?=some x->es[j]?=some e->P x e)->Q (.own (.lst es))):qij τ k g ti te Q (xs.map f) []:=by
 have key:∀(ys zs:List α) (acc:List D),xs=zs++ys->acc.length=(zs.filter p).length->(∀(j:Nat) (x:α) (e:D),(zs.filter p)[j]?=some x->acc[j]?=some e->P x e)->qij τ k g ti te Q (ys.map f) acc:=by
  intro ys
  induction ys with
 |nil =>
   intro zs acc e h1 h2
   rw[List.append_nil] at e
   subst e
   exact fin acc h1 h2
 |cons y ys ih =>
   intro zs acc e h1 h2
   have hl:acc.length<sizeLine:=by
    have h3:=List.length_filter_le p zs
    have h4:xs.length=zs.length+(ys.length+1):=by rw[e,List.length_append,List.length_cons]
    lia
   refine ok y (by rw[e];simp) _ _ (λhp d hd=>⟨hl,ih (zs++[y]) (acc++[d]) (by rw[e];simp) ?_ λj x e' q1 q2=>?_⟩) (λhp=>ih (zs++[y]) acc (by rw[e];simp) ?_ λj x e' q1 q2=>?_)
   ·rw[List.filter_append,List.length_append,List.length_append,h1]
    simp[hp]
   ·rw[List.filter_append] at q1
    have ef:[y].filter p=[y]:=by simp[hp]
    rw[ef] at q1
    by_cases l:j<(zs.filter p).length
    ·rw[List.getElem?_append_left l] at q1
     rw[List.getElem?_append_left (by lia)] at q2
     exact h2 j x e' q1 q2
    ·rw[List.getElem?_append_right (by lia)] at q1
     rw[List.getElem?_append_right (by lia)] at q2
     have ej:j-(zs.filter p).length=0:=by
      have:=(List.getElem?_eq_some_iff.mp q1).1
      simp at this
      lia
     rw[ej] at q1
     rw[h1,ej] at q2
     cases q1
     cases q2
     exact hd
   ·rw[List.filter_append,List.length_append,h1]
    simp[hp]
   ·rw[List.filter_append] at q1
    have ef:[y].filter p=[]:=by simp[hp]
    rw[ef,List.append_nil] at q1
    exact h2 j x e' q1 q2
 exact key xs [] [] rfl rfl (λj x e q=>by simp at q)
theorem qel(h:α->D)(p:α->Bool)(xs:List α)(hz:xs.length<=sizeLine)
  (ok:∀x∈xs,∀(Y:R->Prop) (N:Prop),(p x=true->Y (.val (h x)))->(p x=false->N)->g (f x) (τ++List.replicate k none) λτ2=>(τ2.take τ.length=τ/\τ2.length=τ.length+k)/\ti τ2 λb=>if b=true then te τ2 Y else N)
  (fin:Q (.own (.lst ((xs.filter p).map h)))):qij τ k g ti te Q (xs.map f) []:=by
 refine qm7 (λx d=>d=h x) p xs hz (λx hx Y N h1 h2=>ok x hx Y N (λz=>h1 z _ rfl) h2) λes hl he=>?_
 have:es=(xs.filter p).map h:=List.ext_getElem (by rw[hl,List.length_map]) λj h1 h2=>by
  rw[List.length_map] at h2
  rw[List.getElem_map]
  exact he j _ _ (List.getElem?_eq_getElem h2) (List.getElem?_eq_getElem h1)
 rw[this]
 exact fin
theorem qm6(h:α->D)(xs:List α)(hz:xs.length<=sizeLine)
  (ok:∀x∈xs,∀(Y:R->Prop) (N:Prop),Y (.val (h x))->g (f x) (τ++List.replicate k none) λτ2=>(τ2.take τ.length=τ/\τ2.length=τ.length+k)/\ti τ2 λb=>if b=true then te τ2 Y else N)
  (fin:Q (.own (.lst (xs.map h)))):qij τ k g ti te Q (xs.map f) []:=by
 refine qel h (λ_=>true) xs hz (λx hx Y N h1 _=>ok x hx Y N (h1 rfl)) ?_
 rw[qhz]
 exact fin
theorem qsx(P:D->Prop)(xs:List α)(hz:xs.length<=sizeLine)
  (ok:∀x∈xs,∀(Y:R->Prop) (N:Prop),(∀d,P d->Y (.val d))->g (f x) (τ++List.replicate k none) λτ2=>(τ2.take τ.length=τ/\τ2.length=τ.length+k)/\ti τ2 λb=>if b=true then te τ2 Y else N)
  (fin:∀es:List D,es.length=xs.length->(∀e∈es,P e)->Q (.own (.lst es))):qij τ k g ti te Q (xs.map f) []:=by
 refine qm7 (λ_ d=>P d) (λ_=>true) xs hz (λx hx Y N h1 _=>ok x hx Y N (h1 rfl)) λes hl he=>fin es ?_ λe hm=>?_
 ·rw[qhz] at hl
  exact hl
 ·obtain⟨j,hj⟩:=List.mem_iff_getElem?.mp hm
  have l:=(List.getElem?_eq_some_iff.mp hj).1
  exact he j _ e (List.getElem?_eq_getElem (by rw[←hl];exact l)) hj
end
def wayD(ws:List Str):D:=.tup (ws.map D.str)
theorem qm4:∀(ss ts:List Str),qb2 (ss.map D.str) (ts.map D.str)=true
|[],_=>by unfold qb2;rfl
|_::_,[]=>by unfold qb2;rfl
|s::ss,t::ts=>by
  show qb2 (.str s::ss.map D.str) (.str t::ts.map D.str)=true
  unfold qb2
  rw[qm4 ss ts]
  rfl
theorem qin:∀(ss:List Str),qbt (ss.map D.str)=0
|[]=>rfl
|s::ss=>by
  show qbt (.str s::ss.map D.str)=0
  unfold qbt
  rw[qin ss]
  rfl
theorem ql3{ss ts:List Str}(h:ss.map D.str=ts.map D.str):ss=ts:=by
 induction ss generalizing ts with
|nil=>cases ts with
 |nil=>rfl
 |cons t ts=>cases h
|cons s ss ih=>cases ts with
 |nil=>cases h
 |cons t ts =>
   injection h with h1 h2
   injection h1 with h1
   rw[h1,ih h2]
theorem eq_int(i j:Int):eqD (.int i) (.int j)=decide (i=j):=qcn (by
 rw[eqD_iff,decide_eq_true_iff]
 exact⟨λh=>D.int.inj h,λh=>h▸rfl⟩)
theorem eq_str(i j:Str):eqD (.str i) (.str j)=decide (i=j):=qcn (by
 rw[eqD_iff,decide_eq_true_iff]
 exact⟨λh=>D.str.inj h,λh=>h▸rfl⟩)
theorem qpu(i j:Int):cmpD (.int i) (.int j)=true:=rfl
theorem qlo(i j:Str):cmpD (.str i) (.str j)=true:=rfl
theorem qp1(i:Int):depD (.int i)=0:=rfl
theorem qp2(i:Str):depD (.str i)=0:=rfl
theorem qei{α β:Type}(f:α->β)(xs:List α)(k:Int):atI (xs.map f) k=(atI xs k).map f:=by
 unfold atI
 rw[List.length_map]
 cases ixN xs.length k with
|none=>rfl
|some j=>simp
theorem qil{α β:Type}(f:α->β)(xs:List α)(lo hi:Option Int):cutL (xs.map f) lo hi=(cutL xs lo hi).map f:=by
 unfold cutL
 rw[List.length_map,List.map_take,List.map_drop]
theorem qum{K:PySem.W.Frag}{H:Hp}{a:Addr}{ns:List Int}{g:DP}(h:g [.scr ns] (λr=>r=.val (.bl true)))(hS:SqL K H a (ns.map V.int)){E:XK}:spOf K g [.ref a] H (λv _=>v=.bl true) E :=
 ⟨[.scr ns],H,_,Same.refl H,.one (by unfold Rep;exact⟨a,rfl,hS⟩),h,(λn C B' H' e _ _=>by cases e),λr v B' H' e p rr=>by
  subst e
  have rr':Rep K B' (.bl true) v:=rr
  unfold Rep at rr'
  exact rr'⟩
theorem qeo(ss ts:List Str):(ss.map D.str=ts.map D.str)=(ss=ts):=propext ⟨ql3,λh=>h▸rfl⟩
theorem qg1(ss ts:List Int):(ss.map D.int=ts.map D.int)=(ss=ts):=propext ⟨λh=>by
 induction ss generalizing ts with
|nil=>cases ts with
 |nil=>rfl
 |cons t ts=>cases h
|cons s ss ih=>cases ts with
 |nil=>cases h
 |cons t ts =>
   injection h with h1 h2
   injection h1 with h1
   rw[h1,ih _ h2],λh=>h▸rfl⟩
theorem qnu{α:Type}(f:α->D)(xs:List α)(x:α):xs.map f++[f x]=(xs++[x]).map f:=by rw[List.map_append];rfl
theorem qn3(xs:List Str)(x:Str):xs.map D.str++[.str x]=(xs++[x]).map D.str:=qnu _ xs x
theorem qn2(xs:List Int)(x:Int):xs.map D.int++[.int x]=(xs++[x]).map D.int:=qnu _ xs x
theorem qps(xs ys:List Str):xs.map D.str++ys.map D.str=(xs++ys).map D.str:=(List.map_append ..).symm
theorem qna(xs:List Str):(xs.map D.str).dropLast=xs.dropLast.map D.str:=by
 rw[←qey,←qey,qil]
theorem qrp(d:D)(Q:D->Prop):pubR (.val d) Q=Q d:=rfl
theorem qro(d:D)(Q:D->Prop):pubR (.own d) Q=Q d:=rfl
theorem qn7(k:Nat)(xs:List Str):(xs.map D.str).take k=(xs.take k).map D.str:=(List.map_take ..).symm
theorem qkj(k:Nat)(xs:List Str):(xs.map D.str).drop k=(xs.drop k).map D.str:=(List.map_drop ..).symm
theorem qpq{α:Type}(xs:List α)(n:Nat):atI xs (no_index (OfNat.ofNat n:Int))=xs[n]?:=by
 show atI xs (n:Int)=xs[n]?
 unfold atI ixN
 rw[if_pos (by lia)]
 by_cases h:(n:Int)<xs.length
 ·rw[if_pos h]
  simp
 ·rw[if_neg h]
  simp
  lia
theorem qmy{α:Type}(xs:List α):atI xs (-1)=xs.getLast?:=by
 unfold atI ixN
 rw[if_neg (by decide)]
 cases xs with
|nil=>rfl
|cons x xs =>
  rw[if_pos (by rw[List.length_cons];lia)]
  rw[List.getLast?_eq_getElem?]
  show (x::xs)[(-1+((x::xs).length:Int)).toNat]?=_
  congr 1
  lia
theorem qvf(d:D)(Q:R->Prop)(k:Prop):exR (.val d) Q k=k:=rfl
theorem qve(d:D)(Q:R->Prop)(k:Prop):exR (.own d) Q k=k:=rfl
theorem qqd(d:D)(Q:R->Prop)(k:Prop):exR (.peek d) Q k=k:=rfl
theorem qvd(n:Str)(Q:R->Prop)(k:Prop):exR (.exc n) Q k=Q (.exc n):=rfl
theorem qp8(d:D)(Q:AR->Prop)(k:Prop):excA (.val d) Q k=k:=rfl
theorem qp7(d:D)(Q:AR->Prop)(k:Prop):excA (.own d) Q k=k:=rfl
theorem qnd(d:D)(Q:AR->Prop)(k:Prop):excA (.peek d) Q k=k:=rfl
theorem qp6(n:Str)(Q:AR->Prop)(k:Prop):excA (.exc n) Q k=Q (.exc n):=rfl
theorem qqc(τ:VSt)(Dv:VEnds)(d:D)(k:Prop):exS τ Dv (.val d) k=k:=rfl
theorem qqb(τ:VSt)(Dv:VEnds)(d:D)(k:Prop):exS τ Dv (.own d) k=k:=rfl
theorem qne(τ:VSt)(Dv:VEnds)(d:D)(k:Prop):exS τ Dv (.peek d) k=k:=rfl
theorem qqa(τ:VSt)(Dv:VEnds)(n:Str)(k:Prop):exS τ Dv (.exc n) k=Dv.xc τ n:=rfl
theorem qvb(ds:List D)(Q:R->Prop)(k:List D->Prop):exA (.ok ds) Q k=k ds:=rfl
theorem qkl(n:Str)(Q:R->Prop)(k:List D->Prop):exA (.exc n) Q k=Q (.exc n):=rfl
theorem qvc(τ:VSt)(Dv:VEnds)(ds:List D)(k:List D->Prop):exI τ Dv (.ok ds) k=k ds:=rfl
theorem qp9(τ:VSt)(Dv:VEnds)(n:Str)(k:List D->Prop):exI τ Dv (.exc n) k=Dv.xc τ n:=rfl
theorem qra(d:D)(ds:List D):qxk d (.ok ds)=.ok (d::ds):=rfl
theorem qnw(d:D)(n:Str):qxk d (.exc n)=.exc n:=rfl
theorem qv3(d:D):(R.val d).d=d:=rfl
theorem qv2(d:D):(R.own d).d=d:=rfl
theorem qrv(d:D):(R.peek d).d=d:=rfl
theorem qv1(n:Str):(R.exc n).d=.scr []:=rfl
theorem qjy{t u:TVS}{Dv:VEnds}{τ:VSt}(h:t { nx:=u Dv,rt:=Dv.rt,bk:=Dv.bk,ct:=Dv.ct,xc:=Dv.xc,ro:=Dv.ro,rn:=Dv.rn } τ):vSeq t u Dv τ:=h
end L2
namespace L2
open PySem PySem.Spec PyProof.Rows
def lkD:List (List Str)->List D->List Str->Option D
|k::ks,d::ds,w=>if k=w then some d else lkD ks ds w
|_,_,_=>none
def lkK:List Str->List D->Str->Option D
|k::ks,d::ds,w=>if k=w then some d else lkK ks ds w
|_,_,_=>none
def rpD:List (List Str)->List D->List Str->D->List D
|k::ks,e::ds,w,d=>(if k=w then d else e)::rpD ks ds w d
|_,_,_,_=>[]
def putD(ks:List (List Str))(ds:List D)(w:List Str)(d:D):D:=if w∈ks then .dT ks (rpD ks ds w d) else .dT (ks++[w]) (ds++[d])
theorem qsn{a b:List Str}(h:wK a=wK b):a=b:=by
 unfold wK at h
 induction a generalizing b with
|nil=>cases b with
 |nil=>rfl
 |cons _ _=>cases h
|cons x a ih=>cases b with
 |nil=>cases h
 |cons y b =>
   injection h with h1 h2
   injection h1 with h1
   rw[h1,ih h2]
theorem qpg(w:List Str):(wK w).map kV=w.map V.str:=by
 unfold wK
 rw[List.map_map]
 rfl
section
variable {K:PySem.W.Frag} {B H:Hp} {d:D} {r:R} {v:V}
theorem DGet.tR{H:Hp}{a b:Addr}{kvs:List (List Key×V)}{k:List Key}(e:Rd H a (.dT kvs))(eb:H b=some (.tup (k.map kV))):DGet H a (.ref b) (valV kvs k):=.inr ⟨kvs,k,b,e,rfl,eb,rfl⟩
theorem Pk.dT{ks:List (List Str)}{ds:List D}(s:Same B H)(h:Pk K B H r v)(e:r.d=.dT ks ds):∃a kvs,v=.ref a/\Rd H a (.dT kvs)/\kvs.map (·.1)=ks.map wK/\Reps K B ds (kvs.map (·.2)):=by
 cases r with
|val d =>
  cases (show d=_ from e)
  have h':Rep K B (.dT ks ds) v:=h
  unfold Rep at h'
  obtain⟨a,xs,rfl,q,k,rp⟩:=h'
  exact⟨a,xs,rfl,q.elim (λq=>.inl (s _ _ q)) λ⟨o,q⟩=>.inr ⟨o,s _ _ q⟩,k,rp⟩
|own d=>cases (show d=_ from e);obtain⟨a,rfl,_,xs,q,k,rp⟩:=h;exact⟨a,xs,rfl,.inl q,k,rp⟩
|peek d=>cases (show d=_ from e);obtain⟨a,rfl,_,xs,q,k,rp⟩:=h;exact⟨a,xs,rfl,.inl q,k,rp⟩
|exc n=>exact h.elim
theorem Pk.dK{ks:List Str}{ds:List D}(s:Same B H)(h:Pk K B H r v)(e:r.d=.dK ks ds):∃a kvs,v=.ref a/\H a=some (.dK kvs)/\kvs.map (·.1)=ks.map Sum.inr/\Reps K B ds (kvs.map (·.2)):=by
 cases r with
|val d =>
  cases (show d=_ from e)
  have h':Rep K B (.dK ks ds) v:=h
  unfold Rep at h'
  obtain⟨a,xs,rfl,q,k,rp⟩:=h'
  exact⟨a,xs,rfl,s _ _ q,k,rp⟩
|own d=>cases (show d=_ from e);obtain⟨a,rfl,_,xs,q,k,rp⟩:=h;exact⟨a,xs,rfl,q,k,rp⟩
|peek d=>cases (show d=_ from e);obtain⟨a,rfl,_,xs,q,k,rp⟩:=h;exact⟨a,xs,rfl,q,k,rp⟩
|exc n=>exact h.elim
theorem qwx{w:List Str}(t:w.map D.str=[.str "folder",.str ""]):w=(["folder",""]:List Str):=by
 cases w with
|nil=>cases t
|cons x w =>
  cases w with
 |nil=>cases t
 |cons y w =>
   cases w with
  |nil =>
    simp only[List.map_cons,List.map_nil,List.cons.injEq,D.str.injEq,and_true] at t
    rw[t.1,t.2]
  |cons z w=>cases t
theorem Pk.wayN{w:List Str}(h:Pk K B H r v)(e:r.d=.tup (w.map D.str))(n:w≠(["folder",""]:List Str)):∃a,v=.ref a/\B a=some (.tup (w.map V.str)):=by
 obtain⟨a,xs,rfl,t,rp⟩:=h.tup e
 refine⟨a,rfl,?_⟩
 rw[←rp.strs]
 rcases t with t|⟨_,t⟩
 ·exact t
 ·exact absurd (qwx t) n
theorem Pk.way{w:List Str}(h:Pk K B H r v)(e:r.d=.tup (w.map D.str))(n:("" : Str)∉w):∃a,v=.ref a/\B a=some (.tup (w.map V.str)):=h.wayN e λq=>n (by rw[q];simp)
theorem qns:∀ {ks:List (List Str)} {ds:List D} {kvs:List (List Key×V)} (w:List Str),kvs.map (·.1)=ks.map wK->Reps K B ds (kvs.map (·.2))->(lkD ks ds w=none/\valV kvs (wK w)=none)\/∃d v,lkD ks ds w=some d/\valV kvs (wK w)=some v/\Rep K B d v
|[],ds,kvs,w,h1,h2=>by
  have e:kvs=[]:=by simpa using h1
  subst e
  exact .inl ⟨by unfold lkD;rfl,rfl⟩
|k::ks,ds,[],w,h1,h2=>by cases h1
|k::ks,[],p::kvs,w,h1,h2=>by
  unfold Reps at h2
  cases h2
|k::ks,d::ds,p::kvs,w,h1,h2=>by
  injection h1 with e1 e2
  have e1:p.1=wK k:=e1
  unfold Reps at h2
  obtain⟨x,r,q,r1,r2⟩:=h2
  injection q with q1 q2
  subst q1 q2
  unfold lkD
  by_cases e:k=w
  ·rw[if_pos e,qfc (by rw[e1,e])]
   exact .inr ⟨d,p.2,rfl,rfl,r1⟩
  ·rw[if_neg e,qfb (λz=>e (qsn (e1.symm.trans z)))]
   exact qns w e2 r2
theorem qit:∀ {ks:List Str} {ds:List D} {kvs:List (Key×V)} (w:Str),kvs.map (·.1)=ks.map Sum.inr->Reps K B ds (kvs.map (·.2))->(lkK ks ds w=none/\valV kvs (Sum.inr w)=none)\/∃d v,lkK ks ds w=some d/\valV kvs (Sum.inr w)=some v/\Rep K B d v
|[],ds,kvs,w,h1,h2=>by
  have e:kvs=[]:=by simpa using h1
  subst e
  exact .inl ⟨by unfold lkK;rfl,rfl⟩
|k::ks,ds,[],w,h1,h2=>by cases h1
|k::ks,[],p::kvs,w,h1,h2=>by
  unfold Reps at h2
  cases h2
|k::ks,d::ds,p::kvs,w,h1,h2=>by
  injection h1 with e1 e2
  have e1:p.1=Sum.inr k:=e1
  unfold Reps at h2
  obtain⟨x,r,q,r1,r2⟩:=h2
  injection q with q1 q2
  subst q1 q2
  unfold lkK
  by_cases e:k=w
  ·rw[if_pos e,qfc (by rw[e1,e])]
   exact .inr ⟨d,p.2,rfl,rfl,r1⟩
  ·rw[if_neg e,qfb (λz=>e (Sum.inr.inj (e1.symm.trans z)))]
   exact qit w e2 r2
theorem qyh{ks:List (List Str)}{ds:List D}{kvs:List (List Key×V)}(w:List Str){d:D}{v:V}(h1:kvs.map (·.1)=ks.map wK)(h2:Reps K B ds (kvs.map (·.2)))(hd:Rep K B d v) :
  ∃ks' ds',putD ks ds w d=.dT ks' ds'/\(putK kvs (wK w) v).map (·.1)=ks'.map wK/\Reps K B ds' ((putK kvs (wK w) v).map (·.2)):=by
 have hany:(kvs.any λkv=>decide (kv.1=wK w))=decide (w∈ks):=by
  apply qcn
  rw[List.any_eq_true,decide_eq_true_iff]
  constructor
  ·rintro⟨p,hp,e⟩
   have:p.1∈kvs.map (·.1):=List.mem_map_of_mem hp
   rw[h1,of_decide_eq_true e] at this
   obtain⟨k,hk,ek⟩:=List.mem_map.mp this
   rw[←qsn ek]
   exact hk
  ·intro hw
   have:wK w∈kvs.map (·.1):=by rw[h1];exact List.mem_map_of_mem hw
   obtain⟨p,hp,e⟩:=List.mem_map.mp this
   exact⟨p,hp,decide_eq_true e⟩
 unfold putD putK
 rw[hany]
 by_cases hw:w∈ks
 ·rw[if_pos hw,if_pos (decide_eq_true hw)]
  refine⟨ks,_,rfl,?_,?_⟩
  ·rw[←h1,List.map_map]
   refine List.map_congr_left λp _=>?_
   show (if p.1=wK w then (p.1,v) else p).1=p.1
   split<;>rfl
  ·clear hany hw
   induction kvs generalizing ks ds with
  |nil =>
    have e:ks=[]:=by simpa using h1.symm
    subst e
    unfold rpD
    exact .nil
  |cons p kvs ih =>
    cases ks with
   |nil=>cases h1
   |cons k ks =>
     cases ds with
    |nil=>unfold Reps at h2;cases h2
    |cons e ds =>
      injection h1 with e1 e2
      have e1:p.1=wK k:=e1
      unfold Reps at h2
      obtain⟨x,r,q,r1,r2⟩:=h2
      injection q with q1 q2
      subst q1 q2
      unfold rpD
      refine .cons ?_ (ih e2 r2)
      by_cases ek:k=w
      ·rw[if_pos ek]
       show Rep K B d (if p.1=wK w then (p.1,v) else p).2
       rw[if_pos (by rw[e1,ek])]
       exact hd
      ·rw[if_neg ek]
       show Rep K B e (if p.1=wK w then (p.1,v) else p).2
       rw[if_neg (λz=>ek (qsn (e1.symm.trans z)))]
       exact r1
 ·rw[if_neg hw,if_neg (by simpa using hw)]
  refine⟨_,_,rfl,?_,?_⟩
  ·rw[List.map_append,List.map_append,h1]
   rfl
  ·rw[List.map_append]
   exact h2.append (.one hd)
end
section
variable {X:Cx} {EX:St->XK} {e a o i:Expr} {te ta to ti:TV} {pos pos' p p2 apos cpos:Pos} {x:Str} {f:Expr} {tf:TV}
def qms(to ti:TV):TV:=λτ Q=>to τ λrx=>exR rx (λ_=>False) <| ti τ λry=>match rx.d,ry.d with
|.dT ks ds,.tup es=>∃w d,es=w.map D.str/\("" : Str)∉w/\lkD ks ds w=some d/\Q (.val d)
|.dK ks ds,.str z=>∃d,lkK ks ds z=some d/\Q (.val d)
|_,_=>False
theorem qjz(hu:X.A.units+64<cLine)(ho:VE X EX o to)(hi:VE X EX i ti)(hs:NoSl i:=by exact λ_ _=>rfl):VE X EX (.Subscript o i pos) (qms to ti) :=
 let ⟨_,a1,a2⟩:=ho.u;let ⟨_,b1,b2⟩:=hi.u;⟨_,qyk (by lia) a1 b1 hs,λH0 B H τ σ Q Qd s S h xc k=>a2 H0 B H τ σ _ _ s S h (xno λ_ q=>q) λrx x B1 H1 p1 q1 h1=>b2 H0 B1 H1 τ σ _ _ p1.s (S.step p1) (q1.ok h1) (xno λ_ q=>by revert q;cases rx.d<;>exact λz=>z) λry y B2 H2 p2 q2 h2=>by
  have px:=q1.pk.step p2
  split at h2
  ·rename_i ks ds es e1 e2
   obtain⟨w,d,rfl,hn,hl,hq⟩:=h2
   obtain⟨ad,kvs,rfl,hd,hk,hr⟩:=px.dT p2.s e1
   obtain⟨b,rfl,hb⟩:=q2.pk.way e2 hn
   rcases qns w hk hr with ⟨z,_⟩|⟨d',v,z,hv,rp⟩
   ·rw[z] at hl;cases hl
   ·rw[z] at hl;cases hl
    exact⟨ad,v,rfl,hv▸DGet.tR hd (by rw[qpg];exact p2.s _ _ hb),k (.val d) _ B2 H2 (p1.trans p2) rp hq⟩
  ·rename_i ks ds z e1 e2
   obtain⟨d,hl,hq⟩:=h2
   obtain⟨ad,kvs,rfl,hd,hk,hr⟩:=px.dK p2.s e1
   cases q2.pk.scal (z:=.str z) (by rw[e2];rfl)
   rcases qit z hk hr with ⟨w,_⟩|⟨d',v,w,hv,rp⟩
   ·rw[w] at hl;cases hl
   ·rw[w] at hl;cases hl
    exact⟨ad,v,rfl,hv▸DGet.k (k:=Sum.inr z) hd,k (.val d) _ B2 H2 (p1.trans p2) rp hq⟩
  ·exact h2.elim⟩
def vDIn(g:Bool->Bool)(ti to:TV):TV:=λτ Q=>ti τ λry=>exR ry (λ_=>False) <| to τ λrx=>match rx.d,ry.d with
|.dT ks ds,.tup es=>∃w,es=w.map D.str/\("" : Str)∉w/\Q (.val (.bl (g (lkD ks ds w).isSome)))
|.dK ks ds,.str z=>Q (.val (.bl (g (lkK ks ds z).isSome)))
|_,_=>False
theorem qq4{K:PySem.W.Frag}{B:Hp}{ks:List (List Str)}{ds:List D}{kvs:List (List Key×V)}(w:List Str)(h1:kvs.map (·.1)=ks.map wK)(h2:Reps K B ds (kvs.map (·.2))):(valV kvs (wK w)).isSome=(lkD ks ds w).isSome:=by
 rcases qns w h1 h2 with ⟨z,y⟩|⟨d',v,z,y,_⟩<;>rw[z,y]<;>rfl
theorem qor{K:PySem.W.Frag}{B:Hp}{ks:List Str}{ds:List D}{kvs:List (Key×V)}(w:Str)(h1:kvs.map (·.1)=ks.map Sum.inr)(h2:Reps K B ds (kvs.map (·.2))):(valV kvs (Sum.inr w)).isSome=(lkK ks ds w).isSome:=by
 rcases qit w h1 h2 with ⟨z,y⟩|⟨d',v,z,y,_⟩<;>rw[z,y]<;>rfl
theorem qry{K:PySem.W.Frag}{eo ei:TE}(g:Bool->Bool)(ho:RfE K EX eo to)(hi:RfE K EX ei ti):RfE K EX (λσ H Q=>ei σ H λy H1=>eo σ H1 λx H2=>∃a o,x=.ref a/\DGet H2 a y o/\Q (.bl (g o.isSome)) H2) (vDIn g ti to):=λH0 B H τ σ Q Qd s S h xc k =>
 hi H0 B H τ σ _ _ s S h (xno λ_ q=>q) λry y B1 H1 p1 q1 h1=>ho H0 B1 H1 τ σ _ _ p1.s (S.step p1) (q1.ok h1) (xno λ_ q=>q) λrx x B2 H2 p2 q2 h2=>by
  have py:=q1.pk.step p2
  split at h2
  ·rename_i ks ds es e1 e2
   obtain⟨w,rfl,hn,hq⟩:=h2
   obtain⟨ad,kvs,rfl,hd,hk,hr⟩:=q2.pk.dT p2.s e1
   obtain⟨b,rfl,hb⟩:=py.way e2 hn
   refine⟨ad,_,rfl,DGet.tR (k:=wK w) hd (by rw[qpg];exact p2.s _ _ hb),?_⟩
   rw[qq4 w hk hr]
   exact k _ _ B2 H2 (p1.trans p2) (repV rfl) hq
  ·rename_i ks ds z e1 e2
   obtain⟨ad,kvs,rfl,hd,hk,hr⟩:=q2.pk.dK p2.s e1
   cases py.scal (z:=.str z) (by rw[e2];rfl)
   refine⟨ad,_,rfl,DGet.k (k:=Sum.inr z) hd,?_⟩
   rw[qor z hk hr]
   exact k _ _ B2 H2 (p1.trans p2) (repV rfl) h2
  ·exact h2.elim
theorem qsg(hu:X.A.units+64<cLine)(hi:VE X EX i ti)(ho:VE X EX o to)(hm:behindInMarks .NotIn o=false:=by with_unfolding_all rfl):VE X EX (.Compare i [.NotIn] [o] pos) (vDIn (!·) ti to) :=
 let ⟨_,a1,a2⟩:=ho.u;let ⟨_,b1,b2⟩:=hi.u;⟨_,qrr (by lia) b1 a1 hm,qry (!·) a2 b2⟩
theorem qsm(hu:X.A.units+64<cLine)(hi:VE X EX i ti)(ho:VE X EX o to)(hm:behindInMarks .In o=false:=by with_unfolding_all rfl):VT X EX (.Compare i [.In] [o] pos) (vBl (vDIn id ti to)) :=
 let ⟨_,a1,a2⟩:=ho.u;let ⟨_,b1,b2⟩:=hi.u;⟨_,q1w (by lia) b1 a1 hm,qua (qry id a2 b2)⟩
theorem qhn(hu:X.A.units+64<cLine)(hi:VE X EX i ti)(ho:VE X EX o to)(hm:behindInMarks .NotIn o=false:=by with_unfolding_all rfl):VT X EX (.Compare i [.NotIn] [o] pos) (vBl (vDIn (!·) ti to)) :=
 let ⟨_,a1,a2⟩:=ho.u;let ⟨_,b1,b2⟩:=hi.u;⟨_,qru (by lia) b1 a1 hm,qua (qry (!·) a2 b2)⟩
def qn8(to ti:TV):TV:=λτ Q=>to τ λrx=>match rx.d with
|.dT ks ds=>ti τ λry=>∃w,ry.d=.tup (w.map D.str)/\("" : Str)∉w/\Q (.val ((lkD ks ds w).getD .non))
|.dK ks ds=>ti τ λry=>∃z,ry.d=.str z/\Q (.val ((lkK ks ds z).getD .non))
|_=>False
theorem quv(hu:X.A.units+64<cLine)(ho:VE X EX o to)(hi:VE X EX e ti)(m:M1 X o "get" apos e cpos:=by exact⟨rfl,rfl,rfl,rfl⟩):VE X EX (.Call (.Attribute o "get" apos) [e] [] cpos) (qn8 to ti) :=
 let ⟨_,a1,a2⟩:=ho.u;let ⟨_,b1,b2⟩:=hi.u;⟨_,qtz (by lia) a1 b1 m,λH0 B H τ σ Q Qd s S h xc k=>a2 H0 B H τ σ _ _ s S h (xno λ_ q=>q) λrx x B1 H1 p1 q1 h1=>by
  split at h1
  ·rename_i ks ds e1
   obtain⟨ad,kvs,rfl,hd,_,_⟩:=q1.pk.dT p1.s e1
   refine⟨ad,rfl,.inr ⟨kvs,hd⟩,b2 H0 B1 H1 τ σ _ _ p1.s (S.step p1) h1 (xno λ_ ⟨_,q,_⟩=>by cases q) λry y B2 H2 p2 q2 h2=>?_⟩
   obtain⟨w,e2,hn,hq⟩:=h2
   obtain⟨ad',kvs',ea,hd',hk,hr⟩:=(q1.pk.step p2).dT p2.s e1
   cases ea
   obtain⟨b,rfl,hb⟩:=q2.pk.way e2 hn
   refine⟨_,DGet.tR (k:=wK w) hd' (by rw[qpg];exact p2.s _ _ hb),?_⟩
   rcases qns w hk hr with ⟨z,y⟩|⟨d',v,z,y,rp⟩
   ·rw[y];rw[z] at hq
    exact k (.val .non) _ B2 H2 (p1.trans p2) (repV rfl) hq
   ·rw[y];rw[z] at hq
    exact k (.val d') _ B2 H2 (p1.trans p2) rp hq
  ·rename_i ks ds e1
   obtain⟨ad,kvs,rfl,hd,_,_⟩:=q1.pk.dK p1.s e1
   refine⟨ad,rfl,.inl ⟨kvs,.inl hd⟩,b2 H0 B1 H1 τ σ _ _ p1.s (S.step p1) h1 (xno λ_ ⟨_,q,_⟩=>by cases q) λry y B2 H2 p2 q2 h2=>?_⟩
   obtain⟨w,e2,hq⟩:=h2
   obtain⟨ad',kvs',ea,hd',hk,hr⟩:=(q1.pk.step p2).dK p2.s e1
   cases ea
   cases q2.pk.scal (z:=.str w) (by rw[e2];rfl)
   refine⟨_,DGet.k (k:=Sum.inr w) hd',?_⟩
   rcases qit w hk hr with ⟨z,y⟩|⟨d',v,z,y,rp⟩
   ·rw[y];rw[z] at hq
    exact k (.val .non) _ B2 H2 (p1.trans p2) (repV rfl) hq
   ·rw[y];rw[z] at hq
    exact k (.val d') _ B2 H2 (p1.trans p2) rp hq
  ·exact h1.elim⟩
def qf3:TV:=λ_ Q=>Q (.own (.dT [] []))
theorem qfd:VE X EX (.Dict [] [] pos) qf3:=⟨_,qt1,λ_ B H _ _ _ _ s _ h _ k p hp=>k (.own (.dT [] [])) _ B _ (.grow s (qae hp _)) ⟨p,rfl,hp,s.free hp,[],qag,rfl,.nil⟩ h⟩
def ownT(τ:VSt)(i:Nat)(Q:List (List Str)->List D->Prop):Prop:=match τ[i]? with
|some (some (.own (.dT ks ds)))=>Q ks ds
|_=>False
theorem qxt{τ:VSt}{i:Nat}{Q:List (List Str)->List D->Prop}(h:ownT τ i Q):∃ks ds,τ[i]?=some (some (.own (.dT ks ds)))/\Q ks ds:=by
 unfold ownT at h
 split at h
 ·exact⟨_,_,by assumption,h⟩
 ·exact h.elim
def qhk(i:Nat)(tk te:TV):TVS:=λDv τ=>ownT τ i λks ds=>te τ λr=>exS τ Dv r <| pubR r λd=>tk τ λrk=>match rk.d with
|.tup es=>∃w,es=w.map D.str/\("" : Str)∉w/\ks.length<sizeLine/\Dv.nx (τ.set i (some (.own (putD ks ds w d))))
|_=>False
theorem qd7{ek:Expr}{tk:TV}(i:Nat)(hu:X.A.units+64<cLine)(hk:VE X EX ek tk)(h:VE X EX e te)(hN:X.N[i]?=some x:=by rfl)(hv:Vis X.env.scope x:=by first|exact Or.inl rfl|exact Or.inr (Or.inl rfl)|exact Or.inr (Or.inr rfl))(hd:(x==("__debug__" : Str))=false:=by decide)
  (hcd:(x==("__classdict__" : Str))=false:=by decide) (hs:swapsWith e (some (.Subscript (.Name x p) ek p2)) pos.line X.env=pure false:=by rfl):VS X EX (.Assign [.Subscript (.Name x p) ek p2] e pos) (qhk i tk te) :=
 let ⟨_,a1,a2⟩:=h.u;let ⟨_,b1,b2⟩:=hk.u;⟨_,qyn (by lia) (qv i hN hv hd hcd) b1 a1 hs,λB0 H0 B H τ σ Dv Dh p S h E=>by
  obtain⟨ks,ds,e1,h⟩:=qxt h
  obtain⟨ad,e2,_,_,_⟩:=S.own i _ e1
  refine a2 H0 B H τ σ _ _ p.s S h (E.raised p S) λr v B' H' q hr hq=>?_
  obtain⟨d,B2,q2,_,rp,hn⟩:=pub q hr (hr.okS hq)
  refine⟨.ref ad,e2,b2 H0 B2 H' τ σ _ _ q2.s (S.step q2) hn (xno λ_ q=>q) λrk vk B3 H3 q3 hk hh=>?_⟩
  split at hh
  ·rename_i es ek
   obtain⟨w,rfl,hne,hz,hn⟩:=hh
   obtain⟨b,rfl,hb⟩:=hk.pk.way ek hne
   have qq:=q2.trans q3
   have S3:=S.step qq
   obtain⟨a',f1,h0,hbb,kvs,f4,f5,f6⟩:=S3.own i _ e1
   rw[e2] at f1
   cases f1
   have hl:kvs.length<sizeLine:=by
    have:kvs.length=ks.length:=by simpa using congrArg List.length f5
    lia
   refine⟨ad,_,rfl,DPut.t (k:=wK w) f4 (by rw[qpg];exact q3.s _ _ hb) hl,?_⟩
   obtain⟨ks',ds',ep,g1,g2⟩:=qyh w f5 f6 (rp.same q3.b)
   rw[ep] at hn
   exact E.nx B3 _ _ σ ((p.trans qq).upd h0 hbb) (S3.upd (d:=.dT ks' ds') e1 e2 ⟨_,qag,g1,g2⟩) hn
  ·exact hh.elim⟩
end
def qap(kds:List (List Str×D)):D:=.dT (kds.map (·.1)) (kds.map (·.2))
def lkP(kds:List (List Str×D))(w:List Str):Option D:=(kds.find? λp=>decide (p.1=w)).map (·.2)
def insP(kds:List (List Str×D))(w:List Str)(d:D):List (List Str×D):=if w∈kds.map (·.1) then kds.map (λp=>if p.1=w then (p.1,d) else p) else kds++[(w,d)]
theorem qbv(kds:List (List Str×D))(w:List Str):lkD (kds.map (·.1)) (kds.map (·.2)) w=lkP kds w:=by
 induction kds with
|nil=>unfold lkP;simp[lkD]
|cons p kds ih =>
  rw[List.map_cons,List.map_cons]
  unfold lkD
  unfold lkP at ih ⊢
  by_cases e:p.1=w
  ·rw[if_pos e,List.find?_cons,decide_eq_true e]
   rfl
  ·rw[if_neg e,ih,List.find?_cons,decide_eq_false e]
theorem qcf(kds:List (List Str×D))(w:List Str)(d:D):putD (kds.map (·.1)) (kds.map (·.2)) w d=qap (insP kds w d):=by
 unfold putD insP qap
 by_cases h:w∈kds.map (·.1)
 ·rw[if_pos h,if_pos h]
  congr 1
  ·rw[List.map_map]
   refine(List.map_congr_left λp _=>?_).symm
   show (if p.1=w then (p.1,d) else p).1=p.1
   split<;>rfl
  ·clear h
   induction kds with
  |nil=>rfl
  |cons p kds ih =>
    rw[List.map_cons,List.map_cons,List.map_cons,List.map_cons]
    unfold rpD
    rw[ih]
    congr 1
    split<;>rfl
 ·rw[if_neg h,if_neg h,List.map_append,List.map_append]
  rfl
end L2
namespace PySem
open PySem Calls PyProof.Rows PyProof.V PySem.Spec
def RawD(h:Heap)(d:Addr)(es:Array DictEntry)(ep:Nat):Prop:=∃o,h.get? d=some o/\o.ExactDict/\o.data=.dict es ep
section
variable {prog:Program} {w:World} {A:Around} {E:Value->Shared->Prop} {s:Shared} {d it:Addr} {es:Array DictEntry} {ep i:Nat}
theorem RawD.typeIs(x:RawD s.heap d es ep):s.TypeIs (.ref d) "dict" := let ⟨o,h1,h2,_⟩:=x;⟨o,h1,h2.1⟩
theorem RawD.keep{h h':Heap}(x:RawD h d es ep)(k:∀o,h.get? d=some o->h'.get? d=some o):RawD h' d es ep:=let ⟨o,h1,r⟩:=x;⟨o,k o h1,r⟩
theorem qt9{Q:Value->Shared->Prop}(no:(d==sysModules)=false)(x:RawD s.heap d es ep)
  (fin:Q (.ref s.heap.objs.size) { s with heap:=s.heap.push { cls:=.type "dict_keyiterator",data:=.fields #[.ref d,.int 0 0,.int es.size 0,.int ep 0] } }):wpAny (model prog w) A (pyIter (.ref d)) Q E s:=by
 have T:=x.typeIs
 obtain⟨o,h1,_,h2⟩:=x
 refine wpAny_pyIter_slot T F.slot_dict_iter (wpAny_call_entry F.slot_dict_iter T F.entry_dict_iter ?_ (F.args_dict_iter_1 _))
 unfold Builtin.«dict.__iter__» Builtin.Dict.dictSlotNone
 refine wpAny_bind (wpAny_bind (wpAny_notOrdered_dict T (show wpAny _ _ (pure (Value.ref d)) _ _ s from wpAny_pure ?_)))
 show wpAny _ _ (Builtin.Dict.showsAll d >>= λ_=>_) _ _ s
 unfold Builtin.Dict.showsAll
 rw[no,if_neg Bool.false_ne_true]
 refine wpAny_bind (wpAny_pure (wpAny_bind (wpAny_dictEntries h1 h2 (wpAny_bind (wpAny_dictEpoch h1 h2 (wpAny_bind (wpAny_newObj_type (wpAny_pure ⟨_,rfl,"dict_keyiterator",_,⟨_,Heap.get?_push_size _ rfl,rfl⟩,F.slot_dict_keyiterator_next.lookup,?_⟩))))))))
 simpa [rawInt] using fin
theorem qd9{Q:String->Shared->Prop}(h:s.TypeIs (.ref it) "dict_keyiterator")(q:Q "dict_keyiterator" s):wpAny (model prog w) A (typeNameOfWhole (.ref it)) Q E s:=wpAny_typeNameOfWhole_keyiter h q
theorem qt8{Q:Option Value->Shared->Prop}{ky:Value}(K:s.heap.IsKeyIter it d i es.size ep)(x:RawD s.heap d es ep)(hk:es[i]?.map (·.key)=some ky)
  (fin:∀h',h'.IsKeyIter it d (i+1) es.size ep->Heap.SameBut it s.heap h'->Q (some ky) { s with heap:=h' }):wpAny (model prog w) A (pyNext (.ref it)) Q E s:=by
 have T:=K.typeIs
 obtain⟨oi,g1,g2,g3⟩:=K
 obtain⟨o,h1,_,h2⟩:=x
 have lt:i<es.size:=by
  apply Classical.byContradiction
  intro z
  rw[Array.getElem?_eq_none (by lia)] at hk
  cases hk
 have ek:es[i].key=ky:=by
  rw[Array.getElem?_eq_getElem lt] at hk
  exact Option.some.inj hk
 have no:Builtin.Dict_items.ownsTuple "dict_keyiterator" = false:=by decide
 unfold pyNext
 refine wpAny_bind (wpAny_attempt (wpAny_callSpecial?_slot (name:=Str.ofString "__next__") T F.slot_dict_keyiterator_next (wpAny_call_entry F.slot_dict_keyiterator_next T F.entry_dict_keyiterator_next (wpAny_bind (wpAny_pure (wpAny_bind (wpAny_bind ?_)))) (F.args_dict_keyiterator_next_1 _))))
 refine wpAny_bind (qd9 T (wpAny_pure (wpAny_bind (wpAny_fieldsOf g1 g3 ?_))))
 simp only[no,Bool.false_eq_true,if_false]
 show wpAny _ _ (ite ((Value.ref d==Value.none)=true) _ _) _ _ s
 rw[if_neg (show ¬ (Value.ref d==Value.none)=true from λz=>by cases z)]
 refine wpAny_bind (wpAny_pure (wpAny_bind (wpAny_dictEntries h1 h2 ?_)))
 rw[if_neg (λz=>by simp at z)]
 refine wpAny_bind (wpAny_pure (wpAny_bind (wpAny_dictEpoch h1 h2 ?_)))
 rw[if_neg (λz=>by simp at z)]
 refine wpAny_pure ?_
 simp only[show ¬ (i:Int)<0 from by lia,if_false,Int.toNat_natCast,Array.getElem?_eq_getElem lt]
 refine wpAny_bind (wpAny_bind (qd9 T (wpAny_pure (wpAny_bind (wpAny_isOneOf_keyiter T ?_)))))
 show wpAny _ _ (setField (.ref it) 1 (rawInt ((i:Int)+1)) >>= λ_=>_) _ _ s
 have K2:(s.heap.update it (Obj.mapFields (·.setIfInBounds 1 (rawInt ((i:Int)+1))))).IsKeyIter it d (i+1) es.size ep:=⟨_,Heap.get?_update_self _ g1 (Obj.isFreed_of_fields (Obj.data_mapFields g3 _)),(Obj.cls_mapFields ..).trans g2,by
  rw[Obj.data_mapFields g3]
  simp[rawInt]⟩
 refine wpAny_bind (wpAny_setField g1 g3 (by simp) (wpAny_bind (wpAny_holding (wpAny_bind (wpAny_isOneOf_keyiter (s:={ s with heap:=s.heap.update it (Obj.mapFields (·.setIfInBounds 1 (rawInt ((i:Int)+1)))) }) K2.typeIs ?_)))))
 show wpAny _ _ (pure (es[i].key)) _ _ _
 rw[ek]
 exact wpAny_pure (wpAny_pure ⟨_,rfl,wpAny_pure (fin _ K2 (Heap.SameBut.update ..))⟩)
theorem qyq{Q:Option Value->Shared->Prop}(hh:A.handled=none)(K:s.heap.IsKeyIter it d i es.size ep)(x:RawD s.heap d es ep)(ge:es.size<=i)(fin:∀h',Heap.ExtBut it s.heap h'->Q none { s with heap:=h' }) :
  wpAny (model prog w) A (pyNext (.ref it)) Q E s:=by
 have T:=K.typeIs
 obtain⟨oi,g1,g2,g3⟩:=K
 obtain⟨o,h1,_,h2⟩:=x
 have no:Builtin.Dict_items.ownsTuple "dict_keyiterator" = false:=by decide
 unfold pyNext
 refine wpAny_bind (wpAny_attempt (wpAny_callSpecial?_slot (name:=Str.ofString "__next__") T F.slot_dict_keyiterator_next (wpAny_call_entry F.slot_dict_keyiterator_next T F.entry_dict_keyiterator_next (wpAny_bind (wpAny_pure (wpAny_bind (wpAny_bind ?_)))) (F.args_dict_keyiterator_next_1 _))))
 refine wpAny_bind (qd9 T (wpAny_pure (wpAny_bind (wpAny_fieldsOf g1 g3 ?_))))
 simp only[no,Bool.false_eq_true,if_false]
 show wpAny _ _ (ite ((Value.ref d==Value.none)=true) _ _) _ _ s
 rw[if_neg (show ¬ (Value.ref d==Value.none)=true from λz=>by cases z)]
 refine wpAny_bind (wpAny_pure (wpAny_bind (wpAny_dictEntries h1 h2 ?_)))
 rw[if_neg (λz=>by simp at z)]
 refine wpAny_bind (wpAny_pure (wpAny_bind (wpAny_dictEpoch h1 h2 ?_)))
 rw[if_neg (λz=>by simp at z)]
 refine wpAny_pure ?_
 simp only[show ¬ (i:Int)<0 from by lia,if_false,Int.toNat_natCast,Array.getElem?_eq_none ge]
 refine wpAny_bind (wpAny_bind (qd9 T (wpAny_pure ?_)))
 show wpAny _ _ (setField (.ref it) 0 .none >>= λ_=>_) _ _ s
 refine wpAny_bind (wpAny_setField g1 g3 (by simp) ?_)
 show wpAny _ _ (newExc (.type "StopIteration") [] >>= λ_=>_) _ _ _
 refine wpAny_bind ?_
 simp only[newExc,newTuple]
 refine wpAny_bind (wpAny_newObj_type (wpAny_bind (m:=firstArgMember _ _) (wpAny_of_eq (a:=Value.none) (by first|rfl|(simp only[firstArgMember];rfl)) (wpAny_newObj_type ?_ (by size_fits)))) (by size_fits))
 simp only[raiseNew]
 refine(wpAny_bind (wpAny_handled ?_))
 rw[(show A.in1.handled=none from hh)]
 refine(wpAny_bind (wpAny_pure (wpAny_throw ?_)))
 exact wpAny_bind (wpAny_isInstance (T:="StopIteration") (b:=true) ⟨_,Heap.get?_push_size _ rfl,rfl⟩ isSubtype_stop (wpAny_pure (fin _ (((Heap.SameBut.update ..).extBut.push _).push _))))
theorem qss(hh:A.handled=none)(I d:Addr)(ne:d≠I)(es:Array DictEntry)(ep:Nat) :
  Walks prog w A I [I,d] [I] es.size (λi v=>es[i]?.map (·.key)=some v) (λi h=>h.IsKeyIter I d i es.size ep/\RawD h d es ep) where
 sub:=λb hb=>by
  cases List.mem_singleton.mp hb
  exact List.mem_cons_self ..
 frame:=λ_ _ _ st k=>⟨st.1.at λo e=>k I (List.mem_cons_self ..) o e,st.2.keep λo e=>k d (by simp) o e⟩
 item:=λi s Q E lt st fin=>by
  have e:es[i]?.map (·.key)=some es[i].key:=by rw[Array.getElem?_eq_getElem lt];rfl
  exact qt8 st.1 st.2 e λh' K' sb=>fin _ h' s.toks e ⟨K',st.2.keep λo z=>sb.extBut d o ne z⟩ λb o nb z=>sb.extBut b o (λy=>nb (by simp[y])) z
 done:=λs Q E st fin=>qyq hh st.1 st.2 (Nat.le_refl _) λh' x=>fin h' s.toks λb o nb z=>x b o (λy=>nb (by simp[y])) z
 self:=λ_ _ _ _ st q=>wpAny_pyIter_keyiter st.1 q
theorem qy0(no:(d==sysModules)=false):PySem.W.KdlSrc prog w "dict" d d es.size (λi v=>es[i]?.map (·.key)=some v) (λh=>RawD h d es ep) where
 type:=λ_ x=>x.typeIs
 there:=λ_ x=>let ⟨_,e,_⟩:=x;⟨Heap.lt_size e,Heap.lt_size e⟩
 keep:=λ_ _ x k=>x.keep λo e=>k d (.inl rfl) o e
 notList:=by decide
 notTuple:=by decide
 hint:=λ_ _ _ _ x q=>PySem.W.kdl_hint_dict x.typeIs q
 iter:=λ_ _ hh x=>⟨_,_,(λ_ _ q=>qt9 no x q),qss hh _ d (let ⟨_,e,_⟩:=x;Nat.ne_of_lt (Heap.lt_size e)) es ep,⟨⟨_,Heap.get?_push_size _ rfl,rfl,rfl⟩,x.keep λ_ e=>Heap.get?_push_of_some _ e⟩⟩
end
end PySem
namespace L2
open PySem PySem.Spec PyProof.Rows
section
variable {X:Cx}
theorem qkr{α β:Type}{F:α->β->Prop}:∀ {l:List α} {m:List β} {i:Nat} {b:β},Paired F l m->m[i]?=some b->∃a,l[i]?=some a/\F a b
|_,_,_,_,.nil,e=>by simp at e
|_,_,0,_,.cons h _,e=>by
  have e':=Option.some.inj e
  subst e'
  exact⟨_,rfl,h⟩
|_,_,i+1,b,.cons _ t,e=>by
  obtain⟨a,h1,h2⟩:=qkr (i:=i) (b:=b) t (by simpa using e)
  exact⟨a,by simpa using h1,h2⟩
theorem qzz{P:Program}{w:World}{H:Hp}{h:Heap}{a:Addr}{kvs:List (List Key×V)}(ok:HOk P w H h)(e:Rd H a (.dT kvs)):kvs.length<=sizeLine/\(a==sysModules)=false/\∃es ep,RawD h a es ep/\es.size=kvs.length /\
  ∀(i:Nat) (u:Value),es[i]?.map (·.key)=some u->∃(b:Addr) (k:List Key),u=.ref b/\kvs[i]?.map (·.1)=some k/\H b=some (.tup (k.map kV)):=by
 obtain⟨z,y,xs,r,o,es,ep,h1,h2,h3,h4,_⟩:=qkk ok e
 have hl:es.size=xs.length:=by rw[←Array.length_toList,h4,List.length_map]
 refine⟨z,y,es,ep,⟨o,h1,h2,h3⟩,by rw[hl,←Paired.length r],λi u q=>?_⟩
 have ei:es[i]?=(xs[i]?).map (entryOfKey (tupleKind (qbi P w))):=by rw[←Array.getElem?_toList,h4,List.getElem?_map]
 rw[ei] at q
 cases hx:xs[i]? with
|none=>rw[hx] at q;cases q
|some p =>
  rw[hx] at q
  have eu:Value.ref p.2.1=u:=Option.some.inj q
  obtain⟨kv,hkv,e1,e2,_⟩:=qkr r hx
  exact⟨p.2.1,kv.1,eu.symm,by rw[hkv];rfl,by rw[e1] at e2 ⊢;exact e2⟩
theorem qkf(hh:X.A.handled=none):CallR X (.type "list") (λxs H Q=>∃a kvs,xs=[.ref a]/\Rd H a (.dT kvs)/\∀(l:Addr) (bs:List Addr),H l=none->bs.length=kvs.length ->
  (∀(i:Nat) (b:Addr),bs[i]?=some b->∃k,kvs[i]?.map (·.1)=some k/\H b=some (.tup (k.map kV)))->Q (.ref l) (upd H l (.lst (bs.map V.ref)))):=by
 intro pins s σ H xs us Q I r h
 obtain⟨a,kvs,rfl,e,q⟩:=h
 obtain⟨u,rfl,ru⟩:=vals1 r
 cases ru
 obtain⟨z,no,es,ep,raw,hs,hk⟩:=qzz I.hok e
 refine PySem.W.kdl_call (qy0 (ep:=ep) (es:=es) no) hh raw (by rw[hs];exact z) λh' tk acc c keep new its=>?_
 have refs:∀vs:List Value,(∀v∈vs,∃b,v=Value.ref b)->∃bs:List Addr,vs=bs.map Value.ref:=λvs=>by
  induction vs with
 |nil=>exact λ_=>⟨[],rfl⟩
 |cons v vs ih =>
   intro hv
   obtain⟨b,rfl⟩:=hv v (List.mem_cons_self ..)
   obtain⟨bs,rfl⟩:=ih λy hy=>hv y (List.mem_cons_of_mem _ hy)
   exact⟨b::bs,rfl⟩
 obtain⟨hsz,hP⟩:=its
 obtain⟨bs,hbs⟩:=refs acc.toList λv hv=>by
  obtain⟨j,hj⟩:=List.mem_iff_getElem?.mp hv
  obtain⟨b,k,eb,_⟩:=hk j v (hP j v (by simpa using hj))
  exact⟨b,eb⟩
 have hacc:acc=(bs.map Value.ref).toArray:=by rw[←hbs]
 have hlen:bs.length=kvs.length:=by
  have:acc.size=bs.length:=by rw[hacc];simp
  lia
 have rel:∀bs:List Addr,Vals (bs.map V.ref) (bs.map Value.ref):=λbs=>by
  induction bs with
 |nil=>exact .nil
 |cons b bs ih=>exact .cons rfl ih
 refine⟨.ref s.heap.objs.size,upd H s.heap.objs.size (.lst (bs.map V.ref)),I.laid (t':=tk) keep (Nat.le_refl _) ⟨by rw[List.length_map];lia,bs.map Value.ref,c,rel bs,by rw[←hacc];exact new⟩,rfl,q _ bs (I.hok.fresh (Nat.le_refl _)) hlen λi b hb=>?_⟩
 obtain⟨b',k,eb,h1,h2⟩:=hk i (.ref b) (hP i (.ref b) (by rw[hacc];simp[hb]))
 cases eb
 exact⟨k,h1,h2⟩
end
section
variable {X:Cx} {K:PySem.W.Frag} {B H:Hp}
theorem Stp.tups(s:Same B H)(bs:List Addr)(h:∀b∈bs,∃xs,H b=some (.tup xs)):Stp B H (λa=>if a∈bs then H a else B a) H:=by
 refine⟨λa o e=>?_,Same.refl _,λa o e=>?_,λa z=>?_⟩
 ·show (if a∈bs then H a else B a)=some o
  split
  ·exact s _ _ e
  ·exact e
 ·have e':(if a∈bs then H a else B a)=some o:=e
  split at e'
  ·exact e'
  ·exact s _ _ e'
 ·by_cases q:a∈bs
  ·exact .inr (.inr (h a q))
  ·have z':(if a∈bs then H a else B a)≠none:=z
   rw[if_neg q] at z'
   exact .inl z'
theorem qky:∀ {ks:List (List Str)} {bs:List Addr},bs.length=ks.length->(∀(i:Nat) (b:Addr) (k:List Str),bs[i]?=some b->ks[i]?=some k->B b=some (.tup (k.map V.str)))->Reps K B (ks.map λw=>.tup (w.map D.str)) (bs.map V.ref)
|[],[],_,_=>.nil
|[],_::_,h,_=>by simp at h
|_::_,[],h,_=>by simp at h
|k::ks,b::bs,h,q=>by
  refine .cons ?_ (qky (by simpa using h) λi b' k' h1 h2=>q (i+1) b' k' (by simpa using h1) (by simpa using h2))
  unfold Rep
  exact⟨b,_,rfl,.inl (q 0 b k rfl rfl),by
   have:∀ss:List Str,Reps K B (ss.map D.str) (ss.map V.str):=λss=>by
    induction ss with
   |nil=>exact .nil
   |cons s ss ih=>exact .cons (qh7 (d:=.str s) rfl) ih
   exact this k⟩
def qic(rx:R)(Q:R->Prop):Prop:=match rx.d with
|.dT ks _=>Q (.own (.lst (ks.map λw=>.tup (w.map D.str))))
|_=>False
theorem qob(hh:X.A.handled=none):VF X (.type "list") qic:=by
 refine⟨_,qkf hh,λB H x rx Q Qd s px h k=>?_⟩
 unfold qic at h
 split at h
 ·rename_i ks ds e1
  obtain⟨ad,kvs,rfl,hd,hk,hr⟩:=px.dT s e1
  refine⟨ad,kvs,rfl,hd,λl bs hl hlen hb=>?_⟩
  have hkl:ks.length=kvs.length:=by simpa using (congrArg List.length hk).symm
  have key:∀(i:Nat) (b:Addr) (k:List Str),bs[i]?=some b->ks[i]?=some k->H b=some (.tup (k.map V.str)):=λi b k h1 h2=>by
   obtain⟨k',h3,h4⟩:=hb i b h1
   have e:(kvs.map (·.1))[i]?=(ks.map wK)[i]?:=by rw[hk]
   rw[List.getElem?_map,List.getElem?_map,h3,h2] at e
   cases e
   rw[qpg] at h4
   exact h4
  have T:=Stp.tups s bs λb hm=>by
   obtain⟨i,hi⟩:=List.mem_iff_getElem?.mp hm
   obtain⟨k',_,h4⟩:=hb i b hi
   exact⟨_,h4⟩
  have hlB:(λa=>if a∈bs then H a else B a) l=none:=by
   show (if l∈bs then H l else B l)=none
   split
   ·exact hl
   ·exact s.free hl
  refine k (.own _) _ _ _ (T.trans (.grow T.s (qae hl (.lst (bs.map V.ref))))) ⟨l,rfl,hl,hlB,qdg (qky (by lia) λi b w h1 h2=>?_)⟩ h
  show (if b∈bs then H b else B b)=_
  rw[if_pos (List.mem_of_getElem? h1)]
  exact key i b w h1 h2
 ·exact h.elim
end
end L2
namespace L2
open PySem PySem.Spec PyProof.Rows
section
variable {X:Cx} {EX:St->XK} {K:PySem.W.Frag} {B H B' H' H0 B0:Hp} {e a:Expr} {es:List Expr} {te ta:TV} {tA:TVA} {pos p np cpos:Pos} {x:Str} {t:TVS} {τ:VSt} {σ:St}
theorem clsOf.inj{n:Str}{C C':Addr}(h:clsOf K n C)(h':clsOf K n C'):C=C':=by
 unfold clsOf at h h'
 rw[h] at h'
 cases h'
 rfl
def qwf(n:Str)(tA:TVA):TVS:=λDv τ=>tA τ λa=>exI τ Dv a λds=>ds.length<=sizeLine/\Dv.xc τ n
def canS(K:PySem.W.Frag)(EX:St->XK)(t:TVS):TS:=λDh σ H=>∃B0 H0 B τ Dv,Stp B0 H0 B H/\Slots K H0 B H τ σ/\t Dv τ/\EndsOk K EX B0 H0 Dv Dh
theorem VSs.can{st:List Stmt}(h:VSs X EX st t):QSs X st (canS X.K EX t):=let ⟨_,a1,a2⟩:=h.u;⟨λpins s σ H D I ⟨B0,H0,B,τ,Dv,q1,q2,q3,q4⟩=>a1.u pins s σ H D I (a2 B0 H0 B H τ σ Dv D q1 q2 q3 q4)⟩
abbrev THD:=Str->TVS
def RfH(K:PySem.W.Frag)(EX:St->XK)(th:TH)(td:THD):Prop:=∀(B0 H0 B H:Hp) (τ:VSt) (σ:St) (n:Str) (C:Addr) (Dv:VEnds) (Dh:Ends),Stp B0 H0 B H->Slots K H0 B H τ σ->clsOf K n C->td n Dv τ->EndsOk K EX B0 H0 Dv Dh->th (.ref C) Dh σ H
structure VH(X:Cx)(EX:St->XK)(hs:List ExceptHandler)(td:THD):Prop where
 u:∃th,QH X hs th/\RfH X.K EX th td
def vTry(t:TVS)(td:THD):TVS:=λDv τ=>t { nx:=Dv.nx,rt:=Dv.rt,bk:=Dv.bk,ct:=Dv.ct,xc:=λτ' n=>td n Dv τ',rn:=Dv.rn } τ
def q2q:THD:=λ_ _ _=>False
theorem q2r:VH X EX [] q2q:=⟨_,q1s,λ_ _ _ _ _ _ _ _ _ _ _ _ _ h=>h.elim⟩
def q20(K:PySem.W.Frag)(mg:Str->Option Value)(x:Str)(yes no:List Str):Prop:=∃c,mg x=some c/\(∀n∈yes,∀C,clsOf K n C->PySem.W.exmOne K (.ref C) c=some true)/\∀n∈no,∀C,clsOf K n C->PySem.W.exmOne K (.ref C) c=some false
def VEnds.calm(Dv:VEnds):VEnds:={ nx:=Dv.nx,rt:=Dv.rt,bk:=Dv.bk,ct:=Dv.ct,ro:=Dv.ro }
def VEnds.wiped(Dv:VEnds):VEnds:={ nx:=λτ=>Dv.nx (List.replicate τ.length none),rt:=Dv.rt,bk:=λτ=>Dv.bk (List.replicate τ.length none),ct:=λτ=>Dv.ct (List.replicate τ.length none),ro:=Dv.ro }
theorem Slots.wiped(S:Slots K H0 B H τ σ):Slots K H0 B H (List.replicate τ.length none) (wipe σ):=by
 have no:∀(i:Nat) (r:R),(List.replicate τ.length (none:Option R))[i]?=some (some r)->False:=λi r h=>by
  by_cases l:i<τ.length
  ·rw[List.getElem?_replicate_of_lt l] at h;cases h
  ·rw[List.getElem?_eq_none (by rw[List.length_replicate];lia)] at h;cases h
 exact⟨by unfold wipe;rw[List.length_replicate,List.length_replicate,S.len],λi d h=>(no i _ h).elim,λi d h=>(no i _ h).elim,λi d h=>(no i _ h).elim,λi j d e a h=>(no i _ h).elim⟩
theorem EndsOk.wiped{Dv:VEnds}{Dh:Ends}(E:EndsOk K EX B0 H0 Dv Dh):EndsOk K EX0 B0 H0 Dv.wiped Dh.wiped :=
 ⟨λB H τ σ p S h=>E.nx B H _ _ p S.wiped h,E.rt,λB H τ σ p S h=>E.bk B H _ _ p S.wiped h,λB H τ σ p S h=>E.ct B H _ _ p S.wiped h,λ_ _ _ _ _ _ _ _ _ h=>h.elim,E.ro,λ_ _ _ _ _ _ _ h=>h.elim⟩
def vhAs(i:Nat)(yes no:List Str)(t:TVS)(td:THD):THD:=λn Dv τ=>(n∈yes/\t Dv.wiped (τ.set i (some (.val (.exc n)))))\/(n∈no/\td n Dv τ)
theorem q3z{b0:Stmt}{suite:List Stmt}{rest:List ExceptHandler}{td:THD}{yes no:List Str}{i:Nat}{m:Str}(hN:X.N.Nodup)(hi:X.N[i]?=some m)(hl:X.env.scope.names.lookup m=some .local)(u:q20 X.K X.mg x yes no)(hg:Gl X x)(hs:∀e pn E,VSs (X.hand e pn E) EX0 (b0::suite) t)
  (hr:VH X EX rest td) (hdb:(x==("__debug__" : Str))=false:=by decide):VH X EX (.ExceptHandler (some (.Name x np)) (some m) (b0::suite) pos::rest) (vhAs i yes no t td):=by
 obtain⟨c,hm,hy,hn⟩:=u
 obtain⟨_,a1,a2⟩:=hr.u
 refine⟨_,q3q (i:=i) (t:=canS X.K EX0 t) hN hi hl hm hg (λe pn E=>(hs e pn E).can) a1 hdb,λB0 H0 B H τ σ n C Dv Dh p S hc h E=>?_⟩
 rcases h with ⟨h1,h2⟩|⟨h1,h2⟩
 ·refine⟨true,hy n h1 C hc,iteT λad Ca ea had=>?_⟩
  cases ea
  have q:Stp B H (upd B ad (excO ad C)) (upd H ad (excO ad C)):=.new p.s had
  refine⟨B0,H0,_,_,_,p.trans q,(S.step q).setVal i (d:=.exc n) ?_,h2,E.wiped⟩
  unfold Rep
  exact⟨ad,C,rfl,qag,hc⟩
 ·exact⟨false,hn n h1 C hc,iteF (a2 B0 H0 B H τ σ n C Dv Dh p S hc h2 E)⟩
def vIsX(yes no:List Str)(ta:TV):TV:=λτ Q=>ta τ λr=>match r.d with
|.exc n=>(n∈yes/\Q (.val (.bl true)))\/(n∈no/\Q (.val (.bl false)))
|_=>False
theorem Pk.exc{r:R}{v:V}{n:Str}(s:Same B H)(h:Pk K B H r v)(e:r.d=.exc n):∃a C,v=.ref a/\H a=some (excO a C)/\clsOf K n C:=by
 have h':=h.rep s
 rw[e] at h'
 unfold Rep at h'
 exact h'
theorem q2m{y:Str}{pb:Pos}{T:String}{yes no:List Str}(u:∀n C,clsOf X.K n C->n∈yes\/n∈no->ExcK X.K C)(hy:∀n∈yes,∀C,clsOf X.K n C->PySem.W.kitOne X.K (.ref C) (.type T)=some true)(hn:∀n∈no,∀C,clsOf X.K n C->PySem.W.kitOne X.K (.ref C) (.type T)=some false)
  (hg:Gl X "isinstance") (hm:X.mg "isinstance" = none) (hgy:Gl X y) (hmy:X.mg y=none) (hby:bootBuiltins y=some (.type T)) (ha:VE X EX a ta) (hp:qa2 a=true:=by rfl) (hny:y≠"__name__" := by decide) (hdy:(y==("__debug__" : Str))=false:=by decide) :
  VE X EX (.Call (.Name "isinstance" p) [a,.Name y pb] [] pos) (vIsX yes no ta) :=
 let ⟨_,a1,a2⟩:=ha.u;⟨_,qcb qfz hg hm PyProof.Rows.Boot.«isinstance» (qac a1 (qac (qrq (v:=.ty T) hgy hmy hby rfl hny hdy) qaq rfl) hp) (by rw[List.all_cons,hp];rfl),λH0 B H τ σ Q Qd s S h xc k=>a2 H0 B H τ σ _ _ s S h (xno λ_ q=>q) λr v B1 H1 p1 q1 h1=>by
   split at h1
   ·rename_i n en
    obtain⟨ad,C,rfl,hx,hc⟩:=q1.pk.exc p1.s en
    rcases h1 with ⟨h1,h2⟩|⟨h1,h2⟩
    ·exact⟨ad,C,_,.type T,true,rfl,hx,u n C hc (.inl h1),λw rw'=>rw',hy n h1 C hc,k _ _ B1 H1 p1 (repV rfl) h2⟩
    ·exact⟨ad,C,_,.type T,false,rfl,hx,u n C hc (.inr h1),λw rw'=>rw',hn n h1 C hc,k _ _ B1 H1 p1 (repV rfl) h2⟩
   ·exact h1.elim⟩
theorem qy8{es:List Expr}{pt:Pos}{kt:Nat}{tA:TA}{cs:List Addr}{yes no:List Str}(u:∀n C,clsOf X.K n C->n∈yes\/n∈no->ExcK X.K C)(hy:∀n∈yes,∀C,clsOf X.K n C->PySem.W.kitAny X.K (.ref C) (cs.map Value.ref)=some true)
  (hn:∀n∈no,∀C,clsOf X.K n C->PySem.W.kitAny X.K (.ref C) (cs.map Value.ref)=some false) (hl:cs.length<=100) (hq:QA X es tA) (ht:∀σ H Q,Q (cs.map V.ref) H->tA σ H Q) (hg:Gl X "isinstance") (hm:X.mg "isinstance" = none) (ha:VE X EX a ta) (hp:qa2 a=true:=by rfl) :
  VE X EX (.Call (.Name "isinstance" p) [a,.Tuple es kt pt] [] pos) (vIsX yes no ta) :=
 let ⟨_,a1,a2⟩:=ha.u;⟨_,qcb qii hg hm PyProof.Rows.Boot.«isinstance» (qac a1 (qac (qvx hq) qaq rfl) hp) (by rw[List.all_cons,hp];rfl),λH0 B H τ σ Q Qd s S h xc k=>a2 H0 B H τ σ _ _ s S h (xno λ_ q=>q) λr v B1 H1 p1 q1 h1=>by
   refine ht σ H1 _ ⟨by rw[List.length_map];exact Nat.le_trans hl (by decide),λtp htp=>?_⟩
   have rel:∀us,Vals (cs.map V.ref) us->us=cs.map Value.ref:=λus=>by
    clear ht hy hn hl
    induction cs generalizing us with
   |nil=>intro r;cases r;rfl
   |cons c cs ih =>
     intro r
     cases r with
    |cons r1 r2 =>
      cases r1
      rw[ih _ r2]
      rfl
   split at h1
   ·rename_i n en
    have g:Stp B1 H1 B1 (upd H1 tp (.tup (cs.map V.ref))):=.grow p1.s (qae htp _)
    obtain⟨ad,C,rfl,hx,hc⟩:=(q1.pk.step g).exc g.s en
    rcases h1 with ⟨h1,h2⟩|⟨h1,h2⟩
    ·exact⟨ad,C,tp,_,_,true,rfl,hx,qag,u n C hc (.inl h1),rel,hy n h1 C hc,k _ _ B1 _ (p1.trans g) (repV rfl) h2⟩
    ·exact⟨ad,C,tp,_,_,false,rfl,hx,qag,u n C hc (.inr h1),rel,hn n h1 C hc,k _ _ B1 _ (p1.trans g) (repV rfl) h2⟩
   ·exact h1.elim⟩
theorem qc0{P:Addr->Prop}:∀n∈([]:List Str),∀C,clsOf K n C->P C:=λ_ h=>by cases h
theorem qek{P:Addr->Prop}{m:Str}{E:Addr}{l:List Str}(k:clsOf K m E)(q:P E)(r:∀n∈l,∀C,clsOf K n C->P C):∀n∈m::l,∀C,clsOf K n C->P C:=λn h C c=>by
 rcases List.mem_cons.mp h with rfl|h
 ·cases clsOf.inj c k
  exact q
 ·exact r n h C c
theorem qwu{P:Addr->Prop}{l m:List Str}(h1:∀n∈l,∀C,clsOf K n C->P C)(h2:∀n∈m,∀C,clsOf K n C->P C):∀n C,clsOf K n C->n∈l\/n∈m->P C:=λn C c h=>h.elim (λz=>h1 n z C c) λz=>h2 n z C c
end
end L2
namespace L2
open PySem PySem.Spec PyProof.Rows Builtin.Str
section
variable {X:Cx}
end
section
variable {X:Cx} {EX:St->XK} {o e:Expr} {to te:TV} {apos cpos:Pos}
end
def sp(c:Nat):List Nat->List (List Nat)
|[]=>[[]]
|x::xs=>if x=c then []::sp c xs else match sp c xs with
 |[]=>[[x]]
 |p::ps=>(x::p)::ps
theorem qyv(a b:Nat):sliceRange a b 1=List.range' a (b-a):=by
 unfold sliceRange
 have e:(if (1:Int)>0 then (if (a:Int)<b then ((b:Int)-a+1-1) / 1 else 0) else (if (a:Int)>b then ((a:Int)-b-1-1) / (-1) else 0)).toNat=b-a:=by
  rw[if_pos (by decide)]
  split
  ·rw[Int.ediv_one];lia
  ·lia
 show (List.range _).map _=_
 rw[e,List.range'_eq_map_range]
 refine List.map_congr_left λk _=>?_
 lia
theorem qw9(l u:Option Int)(n:Nat):strSliceIndices l u 1 n=List.range' (HT.sIx n 0 l) (HT.sIx n n u-HT.sIx n 0 l):=by
 rw[←qyv]
 unfold strSliceIndices
 have c:∀(v:Int),max 0 (min (if v<0 then v+(n:Int) else v) n)=((HT.sIx n 0 (some v):Nat):Int):=λv=>by
  show _=(((if v<0 then (v+(n:Int)).toNat else min v.toNat n):Nat):Int)
  split<;>lia
 have c2:∀(v:Int),HT.sIx n n (some v)=HT.sIx n 0 (some v):=λ_=>rfl
 have go:∀(a b:Int) (x y:Nat),a=x->b=y->sliceRange a b 1=sliceRange x y 1:=λa b x y h1 h2=>by rw[h1,h2]
 cases l with
|none =>
  cases u with
 |none=>exact go _ _ _ _ rfl rfl
 |some v=>exact go _ _ _ _ rfl (by rw[c2,←c v];rfl)
|some v =>
  cases u with
 |none=>exact go _ _ _ _ (by rw[←c v];rfl) rfl
 |some w=>exact go _ _ _ _ (by rw[←c v];rfl) (by rw[c2,←c w];rfl)
theorem qng(xs:Array Nat):∀(m a:Nat),a+m<=xs.size->(List.range' a m).filterMap (xs[·]?)=(xs.toList.drop a).take m
|0,a,_=>by simp
|m+1,a,h=>by
  have hs:a<xs.toList.length:=by show a<xs.size;lia
  rw[List.range'_succ,List.filterMap_cons,Array.getElem?_eq_getElem (show a<xs.size by lia)]
  show xs[a]::_=_
  rw[qng xs m (a+1) (by lia),List.drop_eq_getElem_cons hs,List.take_succ_cons]
  rfl
theorem slice_list(z:Str)(l u:Option Int):(Txt.slice z l u).cps.toList=cutL z.cps.toList l u:=by
 unfold Txt.slice cutL
 have el:z.cps.toList.length=z.length:=rfl
 have h1:=HT.sIx_le z.length 0 (Nat.zero_le _) l
 have h2:=HT.sIx_le z.length z.length (Nat.le_refl _) u
 rw[qw9,el]
 by_cases h:HT.sIx z.length z.length u-HT.sIx z.length 0 l=z.length
 ·rw[if_pos (by simpa using h),h]
  have e0:HT.sIx z.length 0 l=0:=by lia
  rw[e0,List.drop_zero,List.take_of_length_le (Nat.le_of_eq el)]
 ·rw[if_neg (by simpa using h)]
  show List.filterMap _ _=_
  by_cases hz:HT.sIx z.length 0 l<=HT.sIx z.length z.length u
  ·exact qng z.cps _ _ (by show _<=z.length;lia)
  ·rw[show HT.sIx z.length z.length u-HT.sIx z.length 0 l=0 by lia]
   simp
def mkS(l:List Nat):Str:=⟨l.toArray⟩
theorem qnv(z:Str):mkS z.cps.toList=z:=by unfold mkS;simp
theorem qr7{a b:Str}(h:a.cps.toList=b.cps.toList):a=b:=by rw[←qnv a,←qnv b,h]
end L2
namespace L2
open PySem PySem.Spec PyProof.Rows
section
variable {X:Cx} {EX:St->XK} {K:PySem.W.Frag} {o e:Expr} {to te:TV} {apos cpos:Pos} {τ:VSt} {σ:St} {B H H0:Hp}
end
end L2
namespace L2
open PySem PySem.W PyProof.Rows
structure LtOk(n:Nat)(lt:Nat->Nat->Bool):Prop where
 tr:∀a b c,a<n->b<n->c<n->lt b a=false->lt c b=false->lt c a=false
 as:∀a b,a<n->b<n->lt a b=true->lt b a=false
def qca:Bool->Keyed->Array Keyed->Nat->Nat->Nat->StateT SortSt Sem (Option Nat):=sortPriv% PySem.Builtin.gallop
def qej(left:Bool)(key:Keyed)(arr:Array Keyed)(base i:Nat):StateT SortSt Sem (Option Bool):=do
 let x ←elem' arr (base+i)
 if left then lt' x key else return (←lt' key x).map (!·)
def qiq(left:Bool)(key:Keyed)(arr:Array Keyed)(base n lo hi:Nat):StateT SortSt Sem (Option Nat):=do
 let mut lo:=lo
 let mut hi:=hi
 for _ in [0:n] do
  if lo≥hi then break
  let m:=lo+(hi-lo) / 2
  let some more ←qej left key arr base m|return none
  if more then lo:=m+1 else hi:=m
 return some hi
theorem qok(left:Bool)(key:Keyed)(arr:Array Keyed)(base n hint:Nat):qca left key arr base n hint=(do
 let mut lastofs:=0
 let mut ofs:=1
 let mut lo:=0
 let mut hi:=0
 let some right ←qej left key arr base hint|return none
 if right then
  let maxofs:=n-hint
  for _ in [0:n] do
   if ofs≥maxofs then break
   let some more ←qej left key arr base (hint+ofs)|return none
   if !more then break
   lastofs:=ofs
   ofs:=2*ofs+1
  lo:=hint+lastofs+1
  hi:=hint+min ofs maxofs
 else
  let maxofs:=hint+1
  for _ in [0:n] do
   if ofs≥maxofs then break
   let some found ←qej left key arr base (hint-ofs)|return none
   if found then break
   lastofs:=ofs
   ofs:=2*ofs+1
  lo:=hint+1-min ofs maxofs
  hi:=hint-lastofs
 for _ in [0:n] do
  if lo≥hi then break
  let m:=lo+(hi-lo) / 2
  let some more ←qej left key arr base m|return none
  if more then lo:=m+1 else hi:=m
 return some hi):=rfl
section
variable {M:Model} {A:Around} {E:Value->Shared->Prop} {s:Shared} {st:SortSt} {left:Bool} {key:Keyed} {arr:Array Keyed} {base n hint:Nat} {B:Nat->Bool} {Q:Option Nat->SortSt->Prop}
def qpj(M:Model)(A:Around)(E:Value->Shared->Prop)(s:Shared)(st:SortSt)(left:Bool)(key:Keyed)(arr:Array Keyed)(base n:Nat)(B:Nat->Bool):Prop :=
 ∀i,i<n->∀Q:Option Bool->SortSt->Prop,Q (some (B i)) st->wpS M A E s (qej left key arr base i) Q st
theorem qh0(hB:qpj M A E s st left key arr base n B)(mono:∀i j,i<=j->j<n->B j=true->B i=true)
  (h:∀k,k<=n->(∀i,i<k->B i=true)->(∀i,k<=i->i<n->B i=false)->Q (some k) st) (lo hi:Nat) (h1:lo<=hi) (h2:hi<=n) (h3:∀i,i<lo->B i=true) (h4:∀i,hi<=i->i<n->B i=false):wpS M A E s (qiq left key arr base n lo hi) Q st:=by
 unfold qiq
 dsimp only
 refine wpS_bind (wpS_forRange (λk c st'=>st'=st/\∃lo hi,c=(none,lo,hi)/\lo<=hi/\hi-lo<=n-k/\hi<=n/\(∀i,i<lo->B i=true)/\(∀i,hi<=i->i<n->B i=false)) ?_ ?_ ⟨rfl,lo,hi,rfl,h1,by lia,h2,h3,h4⟩)
 ·rintro k c st' - hk ⟨rfl,lo,hi,rfl,a1,a2,a3,a4,a5⟩
  dsimp only
  by_cases hlt:lo≥hi
  ·rw[if_pos hlt]
   have:lo=hi:=by lia
   subst this
   exact wpS_pure (wpS_pure (h lo a3 a4 a5))
  ·rw[if_neg hlt]
   refine wpS_bind (hB _ (by lia) _ ?_)
   dsimp only
   cases hb:B (lo+(hi-lo) / 2) with
  |true =>
    rw[if_pos rfl]
    exact wpS_pure ⟨rfl,_,_,rfl,by lia,by lia,a3,λi hi'=>mono i _ (by lia) (by lia) hb,a5⟩
  |false =>
    rw[if_neg (by simp)]
    refine wpS_pure ⟨rfl,_,_,rfl,by lia,by lia,by lia,a4,λi h1 h2=>?_⟩
    cases hc:B i with
   |false=>rfl
   |true=>rw[mono _ i h1 h2 hc] at hb;cases hb
 ·rintro c st' ⟨rfl,lo,hi,rfl,a1,a2,a3,a4,a5⟩
  have:lo=hi:=by lia
  subst this
  exact wpS_pure (h lo a3 a4 a5)
theorem qqh(hB:qpj M A E s st left key arr base n B)(mono:∀i j,i<=j->j<n->B j=true->B i=true)(hh:hint<n)
  (h:∀k,k<=n->(∀i,i<k->B i=true)->(∀i,k<=i->i<n->B i=false)->Q (some k) st):wpS M A E s (qca left key arr base n hint) Q st:=by
 have mono':∀i j,i<=j->j<n->B i=false->B j=false:=λi j h1 h2 h3=>by
  cases hc:B j with
 |false=>rfl
 |true=>rw[mono i j h1 h2 hc] at h3;cases h3
 rw[qok]
 dsimp only
 refine wpS_bind (hB hint hh _ ?_)
 dsimp only
 cases hb:B hint with
|true =>
  rw[if_pos rfl]
  have fin:∀lastofs ofs,lastofs<ofs->hint+lastofs<n->B (hint+lastofs)=true->(ofs≥n-hint\/B (hint+ofs)=false)->wpS M A E s (qiq left key arr base n (hint+lastofs+1) (hint+min ofs (n-hint))) Q st:=λlastofs ofs a1 a2 a3 a4=>by
   refine qh0 hB mono h _ _ (by lia) (by lia) (λi hi=>mono i _ (by lia) a2 a3) λi h1 h2=>?_
   rcases a4 with a4|a4
   ·lia
   ·by_cases z:ofs≥n-hint
    ·lia
    ·exact mono' _ _ (by lia) h2 a4
  refine wpS_bind (wpS_forRange (λk c st'=>st'=st/\∃lastofs ofs,c=(none,lastofs,ofs)/\lastofs<ofs/\k<ofs/\hint+lastofs<n/\B (hint+lastofs)=true) ?_ ?_ ⟨rfl,0,1,rfl,by lia,by lia,by lia,hb⟩)
  ·rintro k c st' - hk ⟨rfl,lastofs,ofs,rfl,a1,a2,a3,a4⟩
   dsimp only
   by_cases hlt:ofs≥n-hint
   ·rw[if_pos hlt]
    exact wpS_pure (fin lastofs ofs a1 a3 a4 (.inl hlt))
   ·rw[if_neg hlt]
    refine wpS_bind (hB _ (by lia) _ ?_)
    dsimp only
    cases hc:B (hint+ofs) with
   |true =>
     rw[if_neg (by simp)]
     exact wpS_pure ⟨rfl,_,_,rfl,by lia,by lia,by lia,hc⟩
   |false =>
     rw[if_pos (by simp)]
     exact wpS_pure (fin lastofs ofs a1 a3 a4 (.inr hc))
  ·rintro c st' ⟨rfl,lastofs,ofs,rfl,a1,a2,a3,a4⟩
   exact fin lastofs ofs a1 a3 a4 (.inl (by lia))
|false =>
  rw[if_neg (by simp)]
  have fin:∀lastofs ofs,lastofs<ofs->lastofs<=hint->B (hint-lastofs)=false->(ofs≥hint+1\/B (hint-ofs)=true)->wpS M A E s (qiq left key arr base n (hint+1-min ofs (hint+1)) (hint-lastofs)) Q st:=λlastofs ofs a1 a2 a3 a4=>by
   refine qh0 hB mono h _ _ (by lia) (by lia) (λi hi=>?_) λi h1 h2=>mono' _ _ h1 h2 a3
   rcases a4 with a4|a4
   ·lia
   ·exact mono _ _ (by lia) (by lia) a4
  refine wpS_bind (wpS_forRange (λk c st'=>st'=st/\∃lastofs ofs,c=(none,lastofs,ofs)/\lastofs<ofs/\k<ofs/\lastofs<=hint/\B (hint-lastofs)=false) ?_ ?_ ⟨rfl,0,1,rfl,by lia,by lia,by lia,hb⟩)
  ·rintro k c st' - hk ⟨rfl,lastofs,ofs,rfl,a1,a2,a3,a4⟩
   dsimp only
   by_cases hlt:ofs≥hint+1
   ·rw[if_pos hlt]
    exact wpS_pure (fin lastofs ofs a1 a3 a4 (.inl hlt))
   ·rw[if_neg hlt]
    refine wpS_bind (hB _ (by lia) _ ?_)
    dsimp only
    cases hc:B (hint-ofs) with
   |true =>
     rw[if_pos rfl]
     exact wpS_pure (fin lastofs ofs a1 a3 a4 (.inr hc))
   |false =>
     rw[if_neg (by simp)]
     exact wpS_pure ⟨rfl,_,_,rfl,by lia,by lia,by lia,hc⟩
  ·rintro c st' ⟨rfl,lastofs,ofs,rfl,a1,a2,a3,a4⟩
   exact fin lastofs ofs a1 a3 a4 (.inl (by lia))
end
end L2
namespace L2
open PySem PySem.W PyProof.Rows
abbrev Up(lt:Nat->Nat->Bool)(l:List Nat):Prop:=l.Pairwise λa b=>lt b a=false
section
variable {prog:Program} {w:World} {A:Around} {E:Value->Shared->Prop} {s:Shared} {κ:SortKind} {f:Nat->Keyed} {n:Nat} {lt:Nat->Nat->Bool} {st:SortSt}
def Asks(prog:Program)(w:World)(A:Around)(s:Shared)(κ:SortKind)(f:Nat->Keyed)(n:Nat)(lt:Nat->Nat->Bool):Prop :=
 ∀i j,i<n->j<n->∀Q:Bool->Shared->Prop,Q (lt i j) s->wpAny (model prog w) A (keyLt' κ (f i).1 (f j).1) Q (λ_ _=>False) s
theorem qhp(hc:Asks prog w A s κ f n lt)(hk:kindOf st=κ){i j:Nat}(hi:i<n)(hj:j<n){Q:Option Bool->SortSt->Prop}(h:Q (some (lt i j)) st):wpS (model prog w) A E s (lt' (f i) (f j)) Q st:=by
 rw[lt'_eq]
 refine wpS_bind (wpS_get ?_)
 rw[hk]
 refine wpS_bind (wpS_lift (wpAny_attempt (wpAny_mono (hc i j hi hj (λb s'=>b=lt i j/\s'=s) ⟨rfl,rfl⟩) (λb s' hb=>?_) λ_ _ e=>e.elim)))
 obtain⟨rfl,rfl⟩:=hb
 exact⟨rfl,wpS_pure h⟩
def ar(f:Nat->Keyed)(l:List Nat):Array Keyed:=(l.map f).toArray
theorem qb7(l:List Nat):(ar f l).size=l.length:=by simp[ar]
theorem qgf(l:List Nat)(x:Nat):(ar f l).push (f x)=ar f (l++[x]):=by simp[ar]
theorem qev(l m:List Nat):ar f l++ar f m=ar f (l++m):=by simp[ar]
theorem qzl{l m:List Nat}{x:Nat}:(ar f (l++x::m))[l.length]?=some (f x):=by simp[ar]
theorem qpo(l m:List Nat){k:Nat}(hk:k=l.length){z:Nat}(hz:z=l.length+m.length):(ar f (l++m)).extract k z=ar f m:=by
 subst hk hz
 simp[ar,List.take_of_length_le]
theorem qge(l m r:List Nat){k:Nat}(hk:k=l.length){z:Nat}(hz:z=l.length+m.length):(ar f (l++(m++r))).extract k z=ar f m:=by
 subst hk hz
 simp[ar,List.take_append]
theorem qwq(l:List Nat){k z:Nat}(hk:l.length<=k):(ar f l).extract k z=#[]:=by
 apply Array.ext'
 simp[ar,hk]
theorem qc4{l m:List Nat}{x k:Nat}(hk:k=l.length){Q:Keyed->SortSt->Prop}{M:Model}(h:Q (f x) st):wpS M A E s (elem' (ar f (l++x::m)) k) Q st:=by
 subst hk
 rw[elem'_eq,qzl]
 exact wpS_pure h
def gB(left:Bool)(lt:Nat->Nat->Bool)(y x:Nat):Bool:=if left=true then lt y x else !(lt x y)
theorem q28(L:LtOk n lt){left:Bool}{x y:Nat}(hx:x<n)(hy:y<n)(h:gB left lt y x=true):lt x y=false:=by
 unfold gB at h
 cases left with
|true=>exact L.as _ _ hy hx (by simpa using h)
|false=>simpa using h
theorem q27(L:LtOk n lt){left:Bool}{x y:Nat}(hx:x<n)(hy:y<n)(h:gB left lt y x=false):lt y x=false:=by
 unfold gB at h
 cases left with
|true=>simpa using h
|false=>exact L.as _ _ hx hy (by simpa using h)
theorem qlu(hc:Asks prog w A s κ f n lt)(hk:kindOf st=κ){left:Bool}{pre l post:List Nat}{x:Nat}(hl:∀y∈l,y<n)(hx:x<n) :
  qpj (model prog w) A E s st left (f x) (ar f (pre++(l++post))) pre.length l.length λi=>gB left lt (l.getD i 0) x:=λi hi Q h=>by
 have m1:l[i]∈l:=List.getElem_mem hi
 have e1:l.getD i 0=l[i]:=by simp[hi]
 have g:(ar f (pre++(l++post)))[pre.length+i]?=some (f l[i]):=by
  simp[ar,hi,List.getElem?_append]
 unfold qej
 rw[elem'_eq,g]
 refine wpS_bind (wpS_pure ?_)
 dsimp only at h
 rw[e1] at h
 unfold gB at h
 cases left with
|true =>
  rw[if_pos rfl] at h ⊢
  exact qhp hc hk (hl _ m1) hx h
|false =>
  rw[if_neg (by simp)] at h ⊢
  refine wpS_bind (qhp hc hk hx (hl _ m1) (wpS_pure ?_))
  rw[Option.map_some]
  exact h
theorem qcc(hc:Asks prog w A s κ f n lt)(L:LtOk n lt)(hk:kindOf st=κ){left:Bool}{pre l post:List Nat}{x hint:Nat}(hl:∀y∈l,y<n)(hx:x<n)(up:Up lt l)(hh:hint<l.length){b:Nat}(hb:b=pre.length){m:Nat}(hm:m=l.length)
  {Q:Option Nat->SortSt->Prop} (h:∀l1 l2,l=l1++l2->(∀y∈l1,lt x y=false)->(∀y∈l2,lt y x=false)->(left=true->∀y∈l1,lt y x=true)->(left=false->∀y∈l2,lt x y=true)->Q (some l1.length) st):wpS (model prog w) A E s (qca left (f x) (ar f (pre++(l++post))) b m hint) Q st:=by
 subst hb hm
 refine qqh (qlu hc hk hl hx) (λi j hij hj e=>?_) hh λk hk h1 h2=>?_
 ·by_cases z:i=j
  ·rw[z];exact e
  ·have hi:i<l.length:=by lia
   have e1:l.getD i 0=l[i]:=by simp[hi]
   have e2:l.getD j 0=l[j]:=by simp[hj]
   rw[e1]
   rw[e2] at e
   have hi':=hl _ (List.getElem_mem hi)
   have hj':=hl _ (List.getElem_mem hj)
   have le:lt l[j] l[i]=false:=List.pairwise_iff_getElem.mp up i j hi hj (by lia)
   unfold gB at e ⊢
   cases left with
  |true =>
    rw[if_pos rfl] at e ⊢
    cases q:lt l[i] x with
   |true=>rfl
   |false =>
     have:=L.tr x l[i] l[j] hx hi' hj' q le
     rw[e] at this
     cases this
  |false =>
    rw[if_neg (by simp)] at e ⊢
    have e':lt x l[j]=false:=by simpa using e
    rw[L.tr l[i] l[j] x hi' hj' hx le e']
    rfl
 ·have e0:(l.take k).length=k:=by simp;lia
  rw[←e0]
  suffices kk:(∀y∈l.take k,gB left lt y x=true)/\∀y∈l.drop k,gB left lt y x=false by
   obtain⟨k1,k2⟩:=kk
   refine h (l.take k) (l.drop k) (List.take_append_drop k l).symm (λy hy=>q28 L hx (hl y (List.mem_of_mem_take hy)) (k1 y hy)) (λy hy=>q27 L hx (hl y (List.mem_of_mem_drop hy)) (k2 y hy)) (λe y hy=>?_) λe y hy=>?_
   ·have:=k1 y hy
    subst e
    exact this
   ·have:=k2 y hy
    subst e
    simpa [gB] using this
  refine⟨λy hy=>?_,λy hy=>?_⟩
  ·obtain⟨i,hi,rfl⟩:=List.mem_iff_getElem.mp hy
   have hik:i<k:=by lia
   have:=h1 i hik
   have e1:l.getD i 0=l[i]'(by lia):=by simp[show i<l.length by lia]
   rw[e1] at this
   rw[List.getElem_take]
   exact this
  ·obtain⟨i,hi,rfl⟩:=List.mem_iff_getElem.mp hy
   have hlen:(l.drop k).length=l.length-k:=by simp
   have hi':k+i<l.length:=by lia
   have:=h2 (k+i) (by lia) hi'
   have e1:l.getD (k+i) 0=l[k+i]:=by simp[hi']
   rw[e1] at this
   rw[List.getElem_drop]
   exact this
structure Mg(n:Nat)(lt:Nat->Nat->Bool)(A B O A1 la B1 lb:List Nat):Prop where
 ea:A=A1++la
 eb:B=B1++lb
 pm:O.Perm (A1++B1)
 up:Up lt O
 ba:∀x∈O,∀y∈la,lt y x=false
 bb:∀x∈O,∀y∈lb,lt y x=false
structure MgC(n:Nat)(lt:Nat->Nat->Bool)(A B:List Nat):Prop where
 L:LtOk n lt
 ha:∀x∈A,x<n
 hb:∀x∈B,x<n
 nd:∀x∈A,x∉B
 ua:Up lt A
 ub:Up lt B
variable {A' B' O A1 la B1 lb:List Nat}
theorem Mg.moveA(C:MgC n lt A' B'){l1 l2:List Nat}(m:Mg n lt A' B' O A1 (l1++l2) B1 lb)(h:∀x∈l1,∀y∈lb,lt y x=false):Mg n lt A' B' (O++l1) (A1++l1) l2 B1 lb where
 ea:=by rw[m.ea];simp
 eb:=m.eb
 pm:=by
  refine(m.pm.append_right l1).trans ?_
  rw[List.append_assoc,List.append_assoc]
  exact(List.perm_append_comm).append_left A1
 up:=by
  have u:=C.ua
  rw[m.ea] at u
  have u1:=(List.pairwise_append.mp (List.pairwise_append.mp u).2.1).1
  exact List.pairwise_append.mpr ⟨m.up,u1,λx hx y hy=>m.ba x hx y (List.mem_append_left _ hy)⟩
 ba:=λx hx y hy=>by
  rcases List.mem_append.mp hx with hx|hx
  ·exact m.ba x hx y (List.mem_append_right _ hy)
  ·have u:=C.ua
   rw[m.ea] at u
   exact(List.pairwise_append.mp (List.pairwise_append.mp u).2.1).2.2 x hx y hy
 bb:=λx hx y hy=>by
  rcases List.mem_append.mp hx with hx|hx
  ·exact m.bb x hx y hy
  ·exact h x hx y hy
theorem Mg.moveB(C:MgC n lt A' B'){l1 l2:List Nat}(m:Mg n lt A' B' O A1 la B1 (l1++l2))(h:∀x∈l1,∀y∈la,lt y x=false):Mg n lt A' B' (O++l1) A1 la (B1++l1) l2 where
 ea:=m.ea
 eb:=by rw[m.eb];simp
 pm:=by
  refine(m.pm.append_right l1).trans ?_
  rw[List.append_assoc]
 up:=by
  have u:=C.ub
  rw[m.eb] at u
  have u1:=(List.pairwise_append.mp (List.pairwise_append.mp u).2.1).1
  exact List.pairwise_append.mpr ⟨m.up,u1,λx hx y hy=>m.bb x hx y (List.mem_append_left _ hy)⟩
 ba:=λx hx y hy=>by
  rcases List.mem_append.mp hx with hx|hx
  ·exact m.ba x hx y hy
  ·exact h x hx y hy
 bb:=λx hx y hy=>by
  rcases List.mem_append.mp hx with hx|hx
  ·exact m.bb x hx y (List.mem_append_right _ hy)
  ·have u:=C.ub
   rw[m.eb] at u
   exact(List.pairwise_append.mp (List.pairwise_append.mp u).2.1).2.2 x hx y hy
theorem Mg.ula(C:MgC n lt A' B')(m:Mg n lt A' B' O A1 la B1 lb):Up lt la:=by
 have u:=C.ua
 rw[m.ea] at u
 exact(List.pairwise_append.mp u).2.1
theorem Mg.ulb(C:MgC n lt A' B')(m:Mg n lt A' B' O A1 la B1 lb):Up lt lb:=by
 have u:=C.ub
 rw[m.eb] at u
 exact(List.pairwise_append.mp u).2.1
theorem Mg.ina(m:Mg n lt A' B' O A1 la B1 lb){x:Nat}(h:x∈la):x∈A':=by rw[m.ea];exact List.mem_append_right _ h
theorem Mg.inb(m:Mg n lt A' B' O A1 la B1 lb){x:Nat}(h:x∈lb):x∈B':=by rw[m.eb];exact List.mem_append_right _ h
theorem Mg.endB(C:MgC n lt A' B')(m:Mg n lt A' B' O A1 la B1 []):(O++la).Perm (A'++B')/\Up lt (O++la):=by
 refine⟨?_,List.pairwise_append.mpr ⟨m.up,m.ula C,m.ba⟩⟩
 rw[m.ea,m.eb]
 refine(m.pm.append_right la).trans ?_
 rw[List.append_assoc,List.append_assoc,List.append_nil]
 exact(List.perm_append_comm).append_left A1
theorem qhg(L:LtOk n lt){x y:Nat}{l:List Nat}(hx:x<n)(hl:∀z∈y::l,z<n)(u:Up lt (y::l))(h:lt y x=false):∀z∈y::l,lt z x=false:=λz hz=>by
 rcases List.mem_cons.mp hz with rfl|hz'
 ·exact h
 ·exact L.tr _ _ _ hx (hl y (List.mem_cons_self ..)) (hl z hz) h (List.rel_of_pairwise_cons u hz')
end
end L2
namespace L2
open PySem PySem.W PyProof.Rows
def qbc:Nat->StateT SortSt Sem Unit:=sortPriv% PySem.Builtin.setMinGallop
def qix:Array Keyed->Array Keyed->StateT SortSt Sem (Array Keyed):=sortPriv% PySem.Builtin.mergeLo
theorem ql6(a b:Array Keyed):qix a b=(do
 rule "list.sort.merge-lo"
 let total:=a.size+b.size
 let done (out:Array Keyed) (ia ib:Nat):=out++a.extract ia a.size++b.extract ib b.size
 let lastOfA (out:Array Keyed) (ia ib:Nat):=out++b.extract ib b.size++a.extract ia a.size
 let mut out:Array Keyed:=#[←elem' b 0]
 let mut ia:=0
 let mut ib:=1
 if ib==b.size then return done out ia ib
 if ia+1==a.size then return lastOfA out ia ib
 let mut minGallop:=gallopOf (←get)
 for _ in [0:total] do
  let mut acount:=0
  let mut bcount:=0
  for _ in [0:total] do
   let some bWins ←lt' (←elem' b ib) (←elem' a ia)|return done out ia ib
   if bWins then
    out:=out.push (←elem' b ib);ib:=ib+1;bcount:=bcount+1;acount:=0
    if ib==b.size then return done out ia ib
    if bcount≥minGallop then break
   else
    out:=out.push (←elem' a ia);ia:=ia+1;acount:=acount+1;bcount:=0
    if ia+1==a.size then return lastOfA out ia ib
    if acount≥minGallop then break
  rule "list.sort.gallop"
  minGallop:=minGallop+1
  for _ in [0:total] do
   if minGallop>1 then minGallop:=minGallop-1
   qbc minGallop
   let some k ←qca false (←elem' b ib) a ia (a.size-ia) 0|return done out ia ib
   acount:=k
   if k>0 then
    out:=out++a.extract ia (ia+k);ia:=ia+k
    if ia+1==a.size then return lastOfA out ia ib
    if ia==a.size then return done out ia ib
   out:=out.push (←elem' b ib);ib:=ib+1
   if ib==b.size then return done out ia ib
   let some k ←qca true (←elem' a ia) b ib (b.size-ib) 0|return done out ia ib
   bcount:=k
   if k>0 then
    out:=out++b.extract ib (ib+k);ib:=ib+k
    if ib==b.size then return done out ia ib
   out:=out.push (←elem' a ia);ia:=ia+1
   if ia+1==a.size then return lastOfA out ia ib
   if acount<7&&bcount<7 then break
  minGallop:=minGallop+1
  qbc minGallop
 unsupported "internal:list.sort.merge-bound"):=rfl
abbrev MlT:=Option (Array Keyed)×Array Keyed×Nat×Nat×Nat×Nat×Nat
def qe3(a b out:Array Keyed)(ia ib:Nat):Array Keyed:=out++a.extract ia a.size++b.extract ib b.size
def qh5(a b out:Array Keyed)(ia ib:Nat):Array Keyed:=out++b.extract ib b.size++a.extract ia a.size
def mlC(a b out:Array Keyed)(ia ib mg k k1:Nat):StateT SortSt Sem (ForInStep MlT):=do
 let x ←elem' a ia
 if ia+1+1==a.size then pure (.done (some (qh5 a b (out.push x) (ia+1) ib),out.push x,ia+1,ib,mg,k,k1))
 else if k<7&&k1<7 then pure (.done (none,out.push x,ia+1,ib,mg,k,k1))
 else pure (.yield (none,out.push x,ia+1,ib,mg,k,k1))
def mlB(a b out:Array Keyed)(ia ib mg k bc:Nat):StateT SortSt Sem (ForInStep MlT):=do
 let x ←elem' b ib
 if ib+1==b.size then pure (.done (some (qe3 a b (out.push x) ia (ib+1)),out.push x,ia,ib+1,mg,k,bc))
 else do
  let y ←elem' a ia
  let r ←qca true y b (ib+1) (b.size-(ib+1)) 0
  match r with
 |some k1 =>
   if k1>0 then
    if ib+1+k1==b.size then pure (.done (some (qe3 a b (out.push x++b.extract (ib+1) (ib+1+k1)) ia (ib+1+k1)),out.push x++b.extract (ib+1) (ib+1+k1),ia,ib+1+k1,mg,k,k1))
    else mlC a b (out.push x++b.extract (ib+1) (ib+1+k1)) ia (ib+1+k1) mg k k1
   else mlC a b (out.push x) ia (ib+1) mg k k1
 |_=>pure (.done (some (qe3 a b (out.push x) ia (ib+1)),out.push x,ia,ib+1,mg,k,bc))
def mlA(a b out:Array Keyed)(ia ib mg ac bc:Nat):StateT SortSt Sem (ForInStep MlT):=do
 qbc mg
 let x ←elem' b ib
 let r ←qca false x a ia (a.size-ia) 0
 match r with
|some k =>
  if k>0 then
   if ia+k+1==a.size then pure (.done (some (qh5 a b (out++a.extract ia (ia+k)) (ia+k) ib),out++a.extract ia (ia+k),ia+k,ib,mg,k,bc))
   else if ia+k==a.size then pure (.done (some (qe3 a b (out++a.extract ia (ia+k)) (ia+k) ib),out++a.extract ia (ia+k),ia+k,ib,mg,k,bc))
   else mlB a b (out++a.extract ia (ia+k)) (ia+k) ib mg k bc
  else mlB a b out ia ib mg k bc
|_=>pure (.done (some (qe3 a b out ia ib),out,ia,ib,mg,ac,bc))
abbrev qa8(st:SortSt)(g:Nat):SortSt:=SortSt.mk' (kindOf st) (arrOf st) (pendingOf st) g (failedOf st)
theorem qbx(g:Nat):qbc g=modify λs=>qa8 s g:=rfl
section
variable {prog:Program} {w:World} {A:Around} {E:Value->Shared->Prop} {s:Shared} {κ:SortKind} {f:Nat->Keyed} {n:Nat} {lt:Nat->Nat->Bool} {st:SortSt} {A' B':List Nat}
def MgQ(lt:Nat->Nat->Bool)(f:Nat->Keyed)(A' B':List Nat)(r:Array Keyed):Prop:=∃l,r=ar f l/\l.Perm (A'++B')/\Up lt l
variable {O A1 la B1 lb:List Nat}
theorem qe4(C:MgC n lt A' B')(m:Mg n lt A' B' O A1 la B1 []){ia ib:Nat}(h1:ia=A1.length)(h2:ib=B1.length):MgQ lt f A' B' (qe3 (ar f A') (ar f B') (ar f O) ia ib):=by
 refine⟨O++la,?_,m.endB C⟩
 unfold qe3
 rw[m.ea,m.eb,List.append_nil,qpo A1 la h1 (by simp[qb7]),qwq B1 (by lia),qev]
 simp
theorem qe5(C:MgC n lt A' B'){z:Nat}(hz:∀y∈B',lt y z=true)(m:Mg n lt A' B' O A1 [z] B1 lb){ia ib:Nat}(h1:ia=A1.length)(h2:ib=B1.length):MgQ lt f A' B' (qh5 (ar f A') (ar f B') (ar f O) ia ib):=by
 have m2:Mg n lt A' B' (O++lb) A1 [z] (B1++lb) []:=Mg.moveB C (l1:=lb) (l2:=[]) (by rw[List.append_nil];exact m) λx hx y hy=>by
  rw[List.mem_singleton.mp hy]
  exact C.L.as _ _ (C.hb x (m.inb hx)) (C.ha z (by rw[m.ea];simp)) (hz x (m.inb hx))
 refine⟨O++lb++[z],?_,m2.endB C⟩
 unfold qh5
 rw[m.eb,qpo B1 lb h2 (by simp[qb7]),m.ea,qpo A1 [z] h1 (by simp[qb7]),qev,qev]
def MlI(n:Nat)(lt:Nat->Nat->Bool)(f:Nat->Keyed)(A' B':List Nat)(out:Array Keyed)(ia ib:Nat):Prop :=
 ∃O A1 la B1 lb,out=ar f O/\Mg n lt A' B' O A1 la B1 lb/\ia=A1.length/\ib=B1.length/\2<=la.length/\1<=lb.length
def MlR(n:Nat)(lt:Nat->Nat->Bool)(f:Nat->Keyed)(A' B':List Nat)(m0:Nat)(κ:SortKind)(st0:SortSt)(r:ForInStep MlT)(st:SortSt):Prop :=
 (∃g,st=qa8 st0 g)/\((∃x y,r=.done (some x,y)/\MgQ lt f A' B' x)\/(∃out ia ib mg p,(r=.done (none,out,ia,ib,mg,p)\/r=.yield (none,out,ia,ib,mg,p))/\MlI n lt f A' B' out ia ib/\m0<ia+ib))
theorem qvo(hc:Asks prog w A s κ f n lt)(C:MgC n lt A' B'){z:Nat}(hz:∀y∈B',lt y z=true)(hl:∃A0,A'=A0++[z]){st0:SortSt}(hk:kindOf st0=κ)(hs:∃g,st=qa8 st0 g){m0:Nat}{x:Nat}{la':List Nat}(m:Mg n lt A' B' O A1 (x::la') B1 lb)(hx:∀y∈lb,lt y x=false)(h2:la'≠[])(h3:lb≠[]){ia ib mg k k1:Nat}(e1:ia=A1.length)(e2:ib=B1.length)(hm:m0<=ia+ib) :
  wpS (model prog w) A E s (mlC (ar f A') (ar f B') (ar f O) ia ib mg k k1) (MlR n lt f A' B' m0 κ st0) st:=by
 have m2:Mg n lt A' B' (O++[x]) (A1++[x]) la' B1 lb:=Mg.moveA C (l1:=[x]) (l2:=la') m λy hy=>by rw[List.mem_singleton.mp hy];exact hx
 have sz:(ar f A').size=A1.length+1+la'.length:=by rw[qb7,m.ea];simp;lia
 have l1:1<=la'.length:=List.length_pos_iff.mpr h2
 have l2:1<=lb.length:=List.length_pos_iff.mpr h3
 unfold mlC
 refine wpS_bind ?_
 have ee:=m.ea
 rw[ee]
 refine qc4 e1 ?_
 rw[←ee]
 rw[qgf,sz]
 by_cases hq:la'.length=1
 ·rw[if_pos (by simp;lia)]
  refine wpS_pure ⟨hs,.inl ⟨_,_,rfl,?_⟩⟩
  obtain⟨A0,hA0⟩:=hl
  obtain⟨y,rfl⟩:∃y,la'=[y]:=List.length_eq_one_iff.mp hq
  have:y=z:=by
   have:=ee
   rw[hA0] at this
   have e:=congrArg List.getLast? this
   simpa using e.symm
  subst this
  exact qe5 C hz m2 (by simp[e1]<;>lia) e2
 ·rw[if_neg (by simp;lia)]
  have fin:MlI n lt f A' B' (ar f (O++[x])) (ia+1) ib:=⟨_,_,_,_,_,rfl,m2,by simp[e1],e2,by lia,l2⟩
  split
  ·exact wpS_pure ⟨hs,.inr ⟨_,_,_,_,_,.inl rfl,fin,by lia⟩⟩
  ·exact wpS_pure ⟨hs,.inr ⟨_,_,_,_,_,.inr rfl,fin,by lia⟩⟩
theorem qqu{A0 A1 l:List Nat}{z:Nat}(e:A0++[z]=A1++l)(h:l≠[]):∃l0,l=l0++[z]:=by
 rcases List.eq_nil_or_concat l with q|⟨l0,y,q⟩
 ·exact absurd q h
 ·subst q
  rw[List.concat_eq_append,←List.append_assoc] at e
  have:=(List.append_inj' e rfl).2
  refine⟨l0,?_⟩
  rw[List.concat_eq_append,←this]
theorem q0k(hc:Asks prog w A s κ f n lt)(C:MgC n lt A' B'){z:Nat}(hz:∀y∈B',lt y z=true)(hl:∃A0,A'=A0++[z]){st0:SortSt}(hk:kindOf st0=κ)(hs:∃g,st=qa8 st0 g){m0:Nat}{x:Nat}{lb':List Nat}(m:Mg n lt A' B' O A1 la B1 (x::lb'))(hx:∀y∈la,lt y x=false)(h2:2<=la.length){ia ib mg k bc:Nat}(e1:ia=A1.length)(e2:ib=B1.length)(hm:m0<=ia+ib) :
  wpS (model prog w) A E s (mlB (ar f A') (ar f B') (ar f O) ia ib mg k bc) (MlR n lt f A' B' m0 κ st0) st:=by
 have m2:Mg n lt A' B' (O++[x]) A1 la (B1++[x]) lb':=Mg.moveB C (l1:=[x]) (l2:=lb') m λy hy=>by rw[List.mem_singleton.mp hy];exact hx
 have sz:(ar f B').size=B1.length+1+lb'.length:=by rw[qb7,m.eb];simp;lia
 unfold mlB
 refine wpS_bind ?_
 have ee:=m.eb
 rw[ee]
 refine qc4 e2 ?_
 rw[←ee]
 rw[qgf,sz]
 by_cases hq:lb'=[]
 ·subst hq
  rw[if_pos (by simp;lia)]
  exact wpS_pure ⟨hs,.inl ⟨_,_,rfl,qe4 C m2 e1 (by simp[e2]<;>lia)⟩⟩
 ·have p1:1<=lb'.length:=List.length_pos_iff.mpr hq
  rw[if_neg (by simp;lia)]
  obtain⟨y,la',rfl⟩:∃y la',la=y::la':=by
   cases la with
  |nil=>simp at h2
  |cons y la'=>exact⟨y,la',rfl⟩
  refine wpS_bind ?_
  have ea:=m.ea
  rw[ea]
  refine qc4 e1 ?_
  rw[←ea]
  have yn:y∈A':=m.ina (List.mem_cons_self ..)
  have hk':kindOf st=κ:=by
   obtain⟨g,rfl⟩:=hs
   exact hk
  refine wpS_bind ?_
  have eb:=m2.eb
  rw[eb,show B1++[x]++lb'=B1++[x]++(lb'++[]) by simp]
  refine qcc hc C.L hk' (λu hu=>C.hb u (m2.inb hu)) (C.ha y yn) (m2.ulb C) (by lia) (by simp[e2]<;>lia) (by lia) λl1 l2 el b1 b2 _ _=>?_
  rw[show B1++[x]++(lb'++[])=B1++[x]++lb' by simp,←eb]
  subst el
  have la1:la'≠[]:=by
   intro e
   subst e
   simp at h2
  have up:=m.ula C
  have low:∀u∈l1,∀v∈y::la',lt v u=false:=λu hu=>qhg C.L (C.hb u (m2.inb (List.mem_append_left _ hu))) (λv hv=>C.ha v (m.ina hv)) up (b1 u hu)
  dsimp only
  by_cases h0:l1.length>0
  ·rw[if_pos h0]
   have m3:=Mg.moveB C m2 low
   have ex:(ar f B').extract (ib+1) (ib+1+l1.length)=ar f l1:=by
    rw[eb]
    exact qge (B1++[x]) l1 l2 (by simp[e2]<;>lia) (by simp[e2]<;>lia)
   rw[ex,qev]
   by_cases h9:l2=[]
   ·subst h9
    rw[if_pos (by simp;lia)]
    exact wpS_pure ⟨hs,.inl ⟨_,_,rfl,qe4 C m3 e1 (by simp[e2]<;>lia)⟩⟩
   ·have:1<=l2.length:=List.length_pos_iff.mpr h9
    rw[if_neg (by simp;lia)]
    exact qvo hc C hz hl hk hs m3 b2 la1 h9 e1 (by simp[e2]<;>lia) (by lia)
  ·rw[if_neg h0]
   have:l1=[]:=List.length_eq_zero_iff.mp (by lia)
   subst this
   exact qvo hc C hz hl hk hs m2 b2 la1 hq e1 (by simp[e2]<;>lia) (by lia)
theorem q0j(hc:Asks prog w A s κ f n lt)(C:MgC n lt A' B'){z:Nat}(hz:∀y∈B',lt y z=true)(hl:∃A0,A'=A0++[z]){st0:SortSt}(hk:kindOf st0=κ)(hs:∃g,st=qa8 st0 g){out:Array Keyed}{ia ib mg ac bc:Nat}(h:MlI n lt f A' B' out ia ib) :
  wpS (model prog w) A E s (mlA (ar f A') (ar f B') out ia ib mg ac bc) (MlR n lt f A' B' (ia+ib) κ st0) st:=by
 obtain⟨O,A1,la,B1,lb,rfl,m,e1,e2,h2,h3⟩:=h
 unfold mlA
 refine wpS_bind ?_
 rw[qbx]
 refine wpS_modify ?_
 have hs':∃g,qa8 st mg=qa8 st0 g:=by
  obtain⟨g,rfl⟩:=hs
  exact⟨mg,rfl⟩
 generalize qa8 st mg=st' at hs'
 have hk':kindOf st'=κ:=by
  obtain⟨g,rfl⟩:=hs'
  exact hk
 have sz:(ar f A').size=A1.length+la.length:=by rw[qb7,m.ea];simp
 obtain⟨x,lb',rfl⟩:∃y l,lb=y::l:=by
  cases lb with
 |nil=>simp at h3
 |cons y l=>exact⟨y,l,rfl⟩
 have xn:x∈B':=m.inb (List.mem_cons_self ..)
 refine wpS_bind ?_
 have eb:=m.eb
 rw[eb]
 refine qc4 e2 ?_
 rw[←eb]
 refine wpS_bind ?_
 have ea:=m.ea
 rw[sz,ea,show A1++la=A1++(la++[]) by simp]
 refine qcc hc C.L hk' (λu hu=>C.ha u (m.ina hu)) (C.hb x xn) (m.ula C) (by lia) e1 (by lia) λl1 l2 el b1 b2 _ _=>?_
 rw[show A1++(la++[])=A1++la by simp,←ea]
 subst el
 have ub:=m.ulb C
 have low:∀u∈l1,∀v∈x::lb',lt v u=false:=λu hu=>qhg C.L (C.ha u (m.ina (List.mem_append_left _ hu))) (λv hv=>C.hb v (m.inb hv)) ub (b1 u hu)
 have n2:l2≠[]:=λe=>by
  subst e
  obtain⟨A0,hA0⟩:=hl
  have zl:z∈l1:=by
   rw[List.append_nil] at ea
   obtain⟨l0,e0⟩:=qqu (hA0.symm.trans ea) (λe=>by subst e;simp at h2)
   rw[e0]
   simp
  have q1:=b1 z zl
  have q2:=hz x xn
  rw[q1] at q2
  cases q2
 have n2':1<=l2.length:=List.length_pos_iff.mpr n2
 dsimp only
 have fin:∀l1',l1'=l1->2<=l2.length->wpS (model prog w) A E s (mlB (ar f A') (ar f B') (ar f (O++l1')) (ia+l1'.length) ib mg l1.length bc) (MlR n lt f A' B' (ia+ib) κ st0) st':=λl1' e h=>by
  subst e
  exact q0k hc C hz hl hk hs' (Mg.moveA C m low) b2 h (by simp[e1]<;>lia) e2 (by lia)
 have lenA:(l1++l2).length=l1.length+l2.length:=by simp
 by_cases h0:l1.length>0
 ·rw[if_pos h0]
  have ex:(ar f A').extract ia (ia+l1.length)=ar f l1:=by
   rw[ea]
   exact qge A1 l1 l2 e1 (by simp[e1]<;>lia)
  rw[ex,qev]
  by_cases h9:l2.length=1
  ·rw[if_pos (by simp;lia)]
   refine wpS_pure ⟨hs',.inl ⟨_,_,rfl,?_⟩⟩
   obtain⟨y,rfl⟩:∃y,l2=[y]:=List.length_eq_one_iff.mp h9
   obtain⟨A0,hA0⟩:=hl
   have:y=z:=by
    have e:=congrArg List.getLast? (hA0.symm.trans ea)
    rw[←List.append_assoc] at e
    simpa using e.symm
   subst this
   exact qe5 C hz (Mg.moveA C m low) (by simp[e1]<;>lia) e2
  ·rw[if_neg (by simp;lia),if_neg (by simp;lia)]
   exact fin l1 rfl (by lia)
 ·rw[if_neg h0]
  have:l1=[]:=List.length_eq_zero_iff.mp (by lia)
  subst this
  have:=fin [] rfl (by simpa using h2)
  simpa using this
theorem qox(hc:Asks prog w A s κ f n lt)(C:MgC n lt A' B'){z:Nat}(hz:∀y∈B',lt y z=true)(hl:∃A0,A'=A0++[z])(hk:kindOf st=κ){b0:Nat}{B0:List Nat}(hb0:B'=b0::B0)(h0:∀y∈A',lt b0 y=true){Q:Array Keyed->SortSt->Prop}
  (h:∀r g,MgQ lt f A' B' r->Q r (qa8 st g)):wpS (model prog w) A E s (qix (ar f A') (ar f B')) Q st:=by
 have m:Mg n lt A' B' [b0] [] A' [b0] B0:={
  ea:=rfl
  eb:=hb0
  pm:=List.Perm.refl _
  up:=List.pairwise_singleton _ _
  ba:=λx hx y hy=>by rw[List.mem_singleton.mp hx];exact C.L.as _ _ (C.hb b0 (by rw[hb0];simp)) (C.ha y hy) (h0 y hy)
  bb:=λx hx y hy=>by
   rw[List.mem_singleton.mp hx]
   have u:=C.ub
   rw[hb0] at u
   exact List.rel_of_pairwise_cons u hy }
 have sa:(ar f A').size=A'.length:=qb7 _
 have sb:(ar f B').size=B0.length+1:=by rw[qb7,hb0];rfl
 have aP:1<=A'.length:=by
  obtain⟨A0,e⟩:=hl
  rw[e]
  simp
 rw[ql6]
 dsimp only
 refine wpS_bind (wpS_lift (wpAny_rule ⟨rfl,wpS_bind ?_⟩))
 have ew:ar f B'=ar f ([]++b0::B0):=by rw[hb0];rfl
 rw[ew]
 refine qc4 rfl ?_
 rw[←ew]
 by_cases hq:B0=[]
 ·subst hq
  rw[if_pos (by simp[sb])]
  refine wpS_pure (h _ (gallopOf st) ?_)
  have:=qe4 (f:=f) C m (ia:=0) (ib:=1) rfl rfl
  unfold qe3 at this
  exact this
 ·have bP:1<=B0.length:=List.length_pos_iff.mpr hq
  rw[if_neg (by simp[sb,sa]<;>lia)]
  by_cases hq2:A'.length=1
  ·rw[if_pos (by simp[sb,sa]<;>lia)]
   refine wpS_pure (h _ (gallopOf st) ?_)
   obtain⟨A0,e⟩:=hl
   have:A0=[]:=by
    rw[e] at hq2
    simp at hq2
    exact hq2
   subst this
   have:=qe5 (f:=f) C hz (by rw[e] at m;rw[e];exact m) (ia:=0) (ib:=1) rfl rfl
   unfold qh5 at this
   exact this
  ·rw[if_neg (by simp[sb,sa]<;>lia)]
   refine wpS_bind (wpS_get ?_)
   refine wpS_bind (wpS_forRange (λk c st'=>(∃g,st'=qa8 st g)/\∃out ia ib mg,c=(none,out,ia,ib,mg)/\MlI n lt f A' B' out ia ib/\k<ia+ib) ?_ ?_ ⟨⟨gallopOf st,rfl⟩,_,_,_,_,rfl,⟨[b0],[],A',[b0],B0,rfl,m,rfl,rfl,by lia,bP⟩,by lia⟩)
   ·rintro k c st' - hkt ⟨hs,out,ia,ib,mg,rfl,hi,hk1⟩
    dsimp only
    refine wpS_bind (wpS_mono (Q:=λc st'=>(∃g,st'=qa8 st g)/\((∃x y,c=(some x,y)/\MgQ lt f A' B' x)\/∃out ia ib p,c=(none,out,ia,ib,p)/\MlI n lt f A' B' out ia ib/\k<ia+ib))
     (wpS_forRange (λ_ c st'=>(∃g,st'=qa8 st g)/\∃out ia ib ac bc,c=(none,out,ia,ib,ac,bc)/\MlI n lt f A' B' out ia ib/\k<ia+ib) ?_ ?_ ⟨hs,_,_,_,_,_,rfl,hi,hk1⟩) ?_)
    ·clear hs hi hk1
     rintro k1 c st' - - ⟨hs,out,ia,ib,ac,bc,rfl,⟨O,A1,la,B1,lb,rfl,m,e1,e2,h2,h3⟩,hk1⟩
     have hk':kindOf st'=κ:=by
      obtain⟨g,rfl⟩:=hs
      exact hk
     obtain⟨y,lb',rfl⟩:∃y l,lb=y::l:=by
      cases lb with
     |nil=>simp at h3
     |cons y l=>exact⟨y,l,rfl⟩
     obtain⟨x,la',rfl⟩:∃y l,la=y::l:=by
      cases la with
     |nil=>simp at h2
     |cons y l=>exact⟨y,l,rfl⟩
     have xn:=m.ina (List.mem_cons_self ..)
     have yn:=m.inb (List.mem_cons_self ..)
     have ua:=m.ula C
     have ub:=m.ulb C
     have ea:ar f A'=ar f (A1++x::la'):=by rw[←m.ea]
     have eb:ar f B'=ar f (B1++y::lb'):=by rw[←m.eb]
     have la2:A'.length=A1.length+1+la'.length:=by rw[m.ea];simp;lia
     have lb2:B0.length+1=B1.length+1+lb'.length:=by rw[←sb,qb7,m.eb];simp;lia
     dsimp only
     have getA:∀ {Q':Keyed->SortSt->Prop},Q' (f x) st'->wpS (model prog w) A E s (elem' (ar f A') ia) Q' st':=λq=>by
      rw[ea]
      exact qc4 e1 q
     have getB:∀ {Q':Keyed->SortSt->Prop},Q' (f y) st'->wpS (model prog w) A E s (elem' (ar f B') ib) Q' st':=λq=>by
      rw[eb]
      exact qc4 e2 q
     refine wpS_bind (getB (wpS_bind (getA (wpS_bind (qhp hc hk' (C.hb y yn) (C.ha x xn) ?_)))))
     dsimp only
     cases hw:lt y x with
    |true =>
      rw[if_pos rfl]
      refine wpS_bind (getB ?_)
      have m2:=Mg.moveB C (l1:=[y]) (l2:=lb') m λu hu=>by rw[List.mem_singleton.mp hu];exact qhg C.L (C.hb y yn) (λv hv=>C.ha v (m.ina hv)) ua (C.L.as _ _ (C.hb y yn) (C.ha x xn) hw)
      rw[qgf]
      by_cases z1:lb'=[]
      ·subst z1
       simp only[List.length_nil] at lb2
       rw[if_pos (by simp[sb,sa]<;>lia)]
       refine wpS_pure ⟨hs,.inl ⟨_,_,rfl,?_⟩⟩
       have:=qe4 (f:=f) C m2 (ia:=ia) (ib:=ib+1) e1 (by simp[e2]<;>lia)
       unfold qe3 at this
       exact this
      ·have z2:1<=lb'.length:=List.length_pos_iff.mpr z1
       rw[if_neg (by simp[sb,sa]<;>lia)]
       have fin:MlI n lt f A' B' (ar f (O++[y])) ia (ib+1):=⟨_,_,_,_,_,rfl,m2,e1,by simp[e2]<;>lia,h2,z2⟩
       split
       ·exact wpS_pure ⟨hs,.inr ⟨_,_,_,_,rfl,fin,by lia⟩⟩
       ·exact wpS_pure ⟨hs,_,_,_,_,_,rfl,fin,by lia⟩
    |false =>
      rw[if_neg (by simp)]
      refine wpS_bind (getA ?_)
      have m2:=Mg.moveA C (l1:=[x]) (l2:=la') m λu hu=>by rw[List.mem_singleton.mp hu];exact qhg C.L (C.ha x xn) (λv hv=>C.hb v (m.inb hv)) ub hw
      rw[qgf]
      by_cases z1:la'.length=1
      ·rw[if_pos (by simp[sb,sa]<;>lia)]
       refine wpS_pure ⟨hs,.inl ⟨_,_,rfl,?_⟩⟩
       obtain⟨v,rfl⟩:∃v,la'=[v]:=List.length_eq_one_iff.mp z1
       obtain⟨A0,hA0⟩:=hl
       obtain⟨l0,e0⟩:=qqu (hA0.symm.trans m2.ea) (by simp)
       have:v=z:=by
        have:=congrArg List.getLast? e0
        simpa using this
       subst this
       have:=qe5 (f:=f) C hz m2 (ia:=ia+1) (ib:=ib) (by simp[e1]<;>lia) e2
       unfold qh5 at this
       exact this
      ·have z2:2<=la'.length:=by simp at h2;lia
       rw[if_neg (by simp[sb,sa]<;>lia)]
       have fin:MlI n lt f A' B' (ar f (O++[x])) (ia+1) ib:=⟨_,_,_,_,_,rfl,m2,by simp[e1]<;>lia,e2,z2,h3⟩
       split
       ·exact wpS_pure ⟨hs,.inr ⟨_,_,_,_,rfl,fin,by lia⟩⟩
       ·exact wpS_pure ⟨hs,_,_,_,_,_,rfl,fin,by lia⟩
    ·rintro c st' ⟨hs,out,ia,ib,ac,bc,rfl,hi,hk1⟩
     exact⟨hs,.inr ⟨_,_,_,_,rfl,hi,hk1⟩⟩
    ·clear hs hi hk1
     rintro c st' ⟨hs,⟨x,y,rfl,hx⟩|⟨out,ia,ib,p,rfl,hi,hk1⟩⟩
     ·refine wpS_pure ?_
      obtain⟨g,rfl⟩:=hs
      exact wpS_pure (h _ _ hx)
     ·dsimp only
      refine wpS_bind (wpS_lift (wpAny_rule ⟨rfl,wpS_bind (wpS_mono (Q:=λc st'=>(∃g,st'=qa8 st g)/\((∃x y,c=(some x,y)/\MgQ lt f A' B' x)\/∃out ia ib p,c=(none,out,ia,ib,p)/\MlI n lt f A' B' out ia ib/\k+1<ia+ib)) (wpS_forRange (λj c st'=>(∃g,st'=qa8 st g)/\∃out ia ib mg ac bc,c=(none,out,ia,ib,mg,ac,bc)/\MlI n lt f A' B' out ia ib/\k+(if j=0 then 0 else 1)<ia+ib) ?_ ?_ ⟨hs,_,_,_,_,_,_,rfl,hi,hk1⟩) ?_)⟩))
      ·clear hs hi hk1
       rintro j c st' - - ⟨hs,out,ia,ib,mg,ac,bc,rfl,hi,hk1⟩
       have key:=λmg=>q0j (E:=E) (mg:=mg) (ac:=ac) (bc:=bc) hc C hz hl hk hs hi
       by_cases hm1:mg>1
       ·rw[if_pos hm1]
        refine wpS_mono (key (mg-1)) ?_
        rintro r st' ⟨hs',⟨x,y,rfl,hx⟩|⟨out,ia,ib,mg,p,rfl|rfl,hi',hm⟩⟩
        ·exact⟨hs',.inl ⟨_,_,rfl,hx⟩⟩
        ·exact⟨hs',.inr ⟨_,_,_,_,rfl,hi',by split at hk1<;>lia⟩⟩
        ·exact⟨hs',_,_,_,_,_,_,rfl,hi',by rw[if_neg (by lia)];split at hk1<;>lia⟩
       ·rw[if_neg hm1]
        refine wpS_mono (key mg) ?_
        rintro r st' ⟨hs',⟨x,y,rfl,hx⟩|⟨out,ia,ib,mg,p,rfl|rfl,hi',hm⟩⟩
        ·exact⟨hs',.inl ⟨_,_,rfl,hx⟩⟩
        ·exact⟨hs',.inr ⟨_,_,_,_,rfl,hi',by split at hk1<;>lia⟩⟩
        ·exact⟨hs',_,_,_,_,_,_,rfl,hi',by rw[if_neg (by lia)];split at hk1<;>lia⟩
      ·rintro c st' ⟨hs,out,ia,ib,mg,ac,bc,rfl,hi,hk1⟩
       refine⟨hs,.inr ⟨_,_,_,_,rfl,hi,?_⟩⟩
       rw[if_neg (by lia)] at hk1
       exact hk1
      ·clear hs hi hk1
       rintro c st' ⟨hs,⟨x,y,rfl,hx⟩|⟨out,ia,ib,p,rfl,hi,hk1⟩⟩
       ·refine wpS_pure ?_
        obtain⟨g,rfl⟩:=hs
        exact wpS_pure (h _ _ hx)
       ·dsimp only
        refine wpS_bind ?_
        rw[qbx]
        refine wpS_modify (wpS_pure ?_)
        obtain⟨g,rfl⟩:=hs
        exact⟨⟨_,rfl⟩,_,_,_,_,rfl,hi,hk1⟩
   ·rintro c st' ⟨hs,out,ia,ib,mg,rfl,⟨O,A1,la,B1,lb,rfl,m,e1,e2,h2,h3⟩,hk1⟩
    have la2:A'.length=A1.length+la.length:=by rw[m.ea];simp
    have lb2:B0.length+1=B1.length+lb.length:=by rw[←sb,qb7,m.eb];simp
    lia
end
end L2
namespace L2
open PySem PySem.W PyProof.Rows
def qiw:Array Keyed->Array Keyed->StateT SortSt Sem (Array Keyed):=sortPriv% PySem.Builtin.mergeHi
theorem ql5(a b:Array Keyed):qiw a b=(do
 rule "list.sort.merge-hi"
 let total:=a.size+b.size
 let done (out:Array Keyed) (na nb:Nat):=a.extract 0 na++b.extract 0 nb++out.reverse
 let firstOfB (out:Array Keyed) (na nb:Nat):=b.extract 0 nb++a.extract 0 na++out.reverse
 let mut na:=a.size-1
 let mut nb:=b.size
 let mut out:Array Keyed:=#[←elem' a na]
 if na==0 then return done out na nb
 if nb==1 then return firstOfB out na nb
 let mut minGallop:=gallopOf (←get)
 for _ in [0:total] do
  let mut acount:=0
  let mut bcount:=0
  for _ in [0:total] do
   let some aWins ←lt' (←elem' b (nb-1)) (←elem' a (na-1))|return done out na nb
   if aWins then
    na:=na-1;out:=out.push (←elem' a na);acount:=acount+1;bcount:=0
    if na==0 then return done out na nb
    if acount≥minGallop then break
   else
    nb:=nb-1;out:=out.push (←elem' b nb);bcount:=bcount+1;acount:=0
    if nb==1 then return firstOfB out na nb
    if bcount≥minGallop then break
  rule "list.sort.gallop"
  minGallop:=minGallop+1
  for _ in [0:total] do
   if minGallop>1 then minGallop:=minGallop-1
   qbc minGallop
   let some at_ ←qca false (←elem' b (nb-1)) a 0 na (na-1)|return done out na nb
   let k:=na-at_
   acount:=k
   if k>0 then
    out:=out++(a.extract at_ na).reverse;na:=at_
    if na==0 then return done out na nb
   nb:=nb-1;out:=out.push (←elem' b nb)
   if nb==1 then return firstOfB out na nb
   let some at_ ←qca true (←elem' a (na-1)) b 0 nb (nb-1)|return done out na nb
   let k:=nb-at_
   bcount:=k
   if k>0 then
    out:=out++(b.extract at_ nb).reverse;nb:=at_
    if nb==1 then return firstOfB out na nb
    if nb==0 then return done out na nb
   na:=na-1;out:=out.push (←elem' a na)
   if na==0 then return done out na nb
   if acount<7&&bcount<7 then break
  minGallop:=minGallop+1
  qbc minGallop
 unsupported "internal:list.sort.merge-bound"):=rfl
abbrev MhT:=Option (Array Keyed)×Nat×Nat×Array Keyed×Nat×Nat×Nat
def qg2(a b out:Array Keyed)(na nb:Nat):Array Keyed:=a.extract 0 na++b.extract 0 nb++out.reverse
def qiy(a b out:Array Keyed)(na nb:Nat):Array Keyed:=b.extract 0 nb++a.extract 0 na++out.reverse
def mhC(a b out:Array Keyed)(na nb mg k k1:Nat):StateT SortSt Sem (ForInStep MhT):=do
 let x ←elem' a (na-1)
 if na-1==0 then pure (.done (some (qg2 a b (out.push x) (na-1) nb),na-1,nb,out.push x,mg,k,k1))
 else if k<7&&k1<7 then pure (.done (none,na-1,nb,out.push x,mg,k,k1))
 else pure (.yield (none,na-1,nb,out.push x,mg,k,k1))
def mhB(a b out:Array Keyed)(na nb mg k bc:Nat):StateT SortSt Sem (ForInStep MhT):=do
 let x ←elem' b (nb-1)
 if nb-1==1 then pure (.done (some (qiy a b (out.push x) na (nb-1)),na,nb-1,out.push x,mg,k,bc))
 else do
  let y ←elem' a (na-1)
  let r ←qca true y b 0 (nb-1) (nb-1-1)
  match r with
 |some k1 =>
   if nb-1-k1>0 then
    if k1==1 then pure (.done (some (qiy a b (out.push x++(b.extract k1 (nb-1)).reverse) na k1),na,k1,out.push x++(b.extract k1 (nb-1)).reverse,mg,k,nb-1-k1))
    else if k1==0 then pure (.done (some (qg2 a b (out.push x++(b.extract k1 (nb-1)).reverse) na k1),na,k1,out.push x++(b.extract k1 (nb-1)).reverse,mg,k,nb-1-k1))
    else mhC a b (out.push x++(b.extract k1 (nb-1)).reverse) na k1 mg k (nb-1-k1)
   else mhC a b (out.push x) na (nb-1) mg k (nb-1-k1)
 |_=>pure (.done (some (qg2 a b (out.push x) na (nb-1)),na,nb-1,out.push x,mg,k,bc))
def mhA(a b out:Array Keyed)(na nb mg ac bc:Nat):StateT SortSt Sem (ForInStep MhT):=do
 qbc mg
 let x ←elem' b (nb-1)
 let r ←qca false x a 0 na (na-1)
 match r with
|some k =>
  if na-k>0 then
   if k==0 then pure (.done (some (qg2 a b (out++(a.extract k na).reverse) k nb),k,nb,out++(a.extract k na).reverse,mg,na-k,bc))
   else mhB a b (out++(a.extract k na).reverse) k nb mg (na-k) bc
  else mhB a b out na nb mg (na-k) bc
|_=>pure (.done (some (qg2 a b out na nb),na,nb,out,mg,ac,bc))
section
variable {prog:Program} {w:World} {A:Around} {E:Value->Shared->Prop} {s:Shared} {κ:SortKind} {f:Nat->Keyed} {n:Nat} {lt:Nat->Nat->Bool} {st:SortSt} {A' B':List Nat}
structure Mh(n:Nat)(lt:Nat->Nat->Bool)(A B O A1 la B1 lb:List Nat):Prop where
 ea:A=la++A1
 eb:B=lb++B1
 pm:O.Perm (A1++B1)
 up:Up lt O
 ba:∀y∈la,∀x∈O,lt x y=false
 bb:∀y∈lb,∀x∈O,lt x y=false
variable {O A1 la B1 lb:List Nat}
theorem Mh.moveA(C:MgC n lt A' B'){l1 l2:List Nat}(m:Mh n lt A' B' O A1 (l2++l1) B1 lb)(h:∀x∈l1,∀y∈lb,lt x y=false):Mh n lt A' B' (l1++O) (l1++A1) l2 B1 lb where
 ea:=by rw[m.ea];simp
 eb:=m.eb
 pm:=by
  rw[List.append_assoc]
  exact m.pm.append_left l1
 up:=by
  have u:=C.ua
  rw[m.ea] at u
  have u1:=(List.pairwise_append.mp (List.pairwise_append.mp u).1).2.1
  exact List.pairwise_append.mpr ⟨u1,m.up,λx hx y hy=>m.ba x (List.mem_append_right _ hx) y hy⟩
 ba:=λy hy x hx=>by
  rcases List.mem_append.mp hx with hx|hx
  ·have u:=C.ua
   rw[m.ea] at u
   exact(List.pairwise_append.mp (List.pairwise_append.mp u).1).2.2 y hy x hx
  ·exact m.ba y (List.mem_append_left _ hy) x hx
 bb:=λy hy x hx=>by
  rcases List.mem_append.mp hx with hx|hx
  ·exact h x hx y hy
  ·exact m.bb y hy x hx
theorem Mh.moveB(C:MgC n lt A' B'){l1 l2:List Nat}(m:Mh n lt A' B' O A1 la B1 (l2++l1))(h:∀x∈l1,∀y∈la,lt x y=false):Mh n lt A' B' (l1++O) A1 la (l1++B1) l2 where
 ea:=m.ea
 eb:=by rw[m.eb];simp
 pm:=by
  refine(m.pm.append_left l1).trans ?_
  rw[←List.append_assoc,←List.append_assoc]
  exact(List.perm_append_comm).append_right B1
 up:=by
  have u:=C.ub
  rw[m.eb] at u
  have u1:=(List.pairwise_append.mp (List.pairwise_append.mp u).1).2.1
  exact List.pairwise_append.mpr ⟨u1,m.up,λx hx y hy=>m.bb x (List.mem_append_right _ hx) y hy⟩
 ba:=λy hy x hx=>by
  rcases List.mem_append.mp hx with hx|hx
  ·exact h x hx y hy
  ·exact m.ba y hy x hx
 bb:=λy hy x hx=>by
  rcases List.mem_append.mp hx with hx|hx
  ·have u:=C.ub
   rw[m.eb] at u
   exact(List.pairwise_append.mp (List.pairwise_append.mp u).1).2.2 y hy x hx
  ·exact m.bb y (List.mem_append_left _ hy) x hx
theorem Mh.ula(C:MgC n lt A' B')(m:Mh n lt A' B' O A1 la B1 lb):Up lt la:=by
 have u:=C.ua
 rw[m.ea] at u
 exact(List.pairwise_append.mp u).1
theorem Mh.ulb(C:MgC n lt A' B')(m:Mh n lt A' B' O A1 la B1 lb):Up lt lb:=by
 have u:=C.ub
 rw[m.eb] at u
 exact(List.pairwise_append.mp u).1
theorem Mh.ina(m:Mh n lt A' B' O A1 la B1 lb){x:Nat}(h:x∈la):x∈A':=by rw[m.ea];exact List.mem_append_left _ h
theorem Mh.inb(m:Mh n lt A' B' O A1 la B1 lb){x:Nat}(h:x∈lb):x∈B':=by rw[m.eb];exact List.mem_append_left _ h
theorem Mh.endA(C:MgC n lt A' B')(m:Mh n lt A' B' O A1 [] B1 lb):(lb++O).Perm (A'++B')/\Up lt (lb++O):=by
 refine⟨?_,List.pairwise_append.mpr ⟨m.ulb C,m.up,m.bb⟩⟩
 rw[m.ea,m.eb]
 refine(m.pm.append_left lb).trans ?_
 rw[←List.append_assoc,←List.append_assoc]
 exact(List.perm_append_comm).append_right B1
theorem qhh(L:LtOk n lt){x y:Nat}{l:List Nat}(hx:x<n)(hl:∀z∈l++[y],z<n)(u:Up lt (l++[y]))(h:lt x y=false):∀z∈l++[y],lt x z=false:=λz hz=>by
 rcases List.mem_append.mp hz with hz'|hz'
 ·exact L.tr _ _ _ (hl z hz) (hl y (by simp)) hx ((List.pairwise_append.mp u).2.2 z hz' y (by simp)) h
 ·rw[List.mem_singleton.mp hz']
  exact h
theorem qpp(l:List Nat):(ar f l).reverse=ar f l.reverse:=by simp[ar]
theorem qig(l m:List Nat){z:Nat}(hz:z=l.length):(ar f (l++m)).extract 0 z=ar f l:=qge [] l m rfl (by simpa using hz)
theorem qjc(l:List Nat)(x:Nat):(ar f l.reverse).push (f x)=ar f ([x]++l).reverse:=by rw[qgf];simp
theorem qv6(l m:List Nat):ar f l.reverse++(ar f m).reverse=ar f (m++l).reverse:=by rw[qpp,qev];simp
theorem qe2(C:MgC n lt A' B')(m:Mh n lt A' B' O A1 [] B1 lb){na nb:Nat}(h1:na=0)(h2:nb=lb.length):MgQ lt f A' B' (qg2 (ar f A') (ar f B') (ar f O.reverse) na nb):=by
 refine⟨lb++O,?_,m.endA C⟩
 unfold qg2
 rw[m.eb,qig lb B1 h2,h1,qpp,List.reverse_reverse]
 rw[show (ar f A').extract 0 0=#[] by simp]
 rw[Array.empty_append,qev]
theorem qeb(C:MgC n lt A' B'){z:Nat}(hz:∀y∈A',lt z y=true)(m:Mh n lt A' B' O A1 la B1 [z]){na nb:Nat}(h1:na=la.length)(h2:nb=1):MgQ lt f A' B' (qiy (ar f A') (ar f B') (ar f O.reverse) na nb):=by
 have m2:Mh n lt A' B' (la++O) (la++A1) [] B1 [z]:=Mh.moveA C (l1:=la) (l2:=[]) (by rw[List.nil_append];exact m) λx hx y hy=>by
  rw[List.mem_singleton.mp hy]
  exact C.L.as _ _ (C.hb z (by rw[m.eb];simp)) (C.ha x (m.ina hx)) (hz x (m.ina hx))
 refine⟨[z]++(la++O),?_,m2.endA C⟩
 unfold qiy
 rw[m.eb,qig [z] B1 h2,m.ea,qig la A1 h1,qpp,List.reverse_reverse,qev,qev,List.append_assoc]
def MhI(n:Nat)(lt:Nat->Nat->Bool)(f:Nat->Keyed)(A' B':List Nat)(na nb:Nat)(out:Array Keyed):Prop :=
 ∃O A1 la B1 lb,out=ar f O.reverse/\Mh n lt A' B' O A1 la B1 lb/\na=la.length/\nb=lb.length/\1<=la.length/\2<=lb.length
def MhR(n:Nat)(lt:Nat->Nat->Bool)(f:Nat->Keyed)(A' B':List Nat)(m0:Nat)(κ:SortKind)(st0:SortSt)(r:ForInStep MhT)(st:SortSt):Prop :=
 (∃g,st=qa8 st0 g)/\((∃x y,r=.done (some x,y)/\MgQ lt f A' B' x)\/(∃na nb out mg p,(r=.done (none,na,nb,out,mg,p)\/r=.yield (none,na,nb,out,mg,p))/\MhI n lt f A' B' na nb out/\na+nb<m0))
theorem conc{l:List Nat}(h:1<=l.length):∃l0 x,l=l0++[x]:=by
 rcases List.eq_nil_or_concat l with q|⟨l0,y,q⟩
 ·subst q;simp at h
 ·exact⟨l0,y,by rw[q,List.concat_eq_append]⟩
theorem qcq{pre post:List Nat}{x k:Nat}{l:List Nat}(e:l=pre++[x]++post)(hk:k=pre.length){Q:Keyed->SortSt->Prop}{M:Model}(h:Q (f x) st):wpS M A E s (elem' (ar f l) k) Q st:=by
 rw[e,List.append_assoc,List.singleton_append]
 exact qc4 hk h
theorem qvn(C:MgC n lt A' B'){st0:SortSt}(hs:∃g,st=qa8 st0 g){m0:Nat}{x:Nat}{la':List Nat}(m:Mh n lt A' B' O A1 (la'++[x]) B1 lb)(hx:∀y∈lb,lt x y=false)(h3:2<=lb.length){na nb mg k k1:Nat}(e1:na=la'.length+1)(e2:nb=lb.length)(hm:na+nb<=m0) :
  wpS (model prog w) A E s (mhC (ar f A') (ar f B') (ar f O.reverse) na nb mg k k1) (MhR n lt f A' B' m0 κ st0) st:=by
 have m2:Mh n lt A' B' ([x]++O) ([x]++A1) la' B1 lb:=Mh.moveA C (l1:=[x]) (l2:=la') m λy hy=>by rw[List.mem_singleton.mp hy];exact hx
 unfold mhC
 refine wpS_bind (qcq m.ea (by lia) ?_)
 rw[qjc]
 by_cases hq:la'=[]
 ·subst hq
  simp only[List.length_nil] at e1
  rw[if_pos (by simp[e1])]
  exact wpS_pure ⟨hs,.inl ⟨_,_,rfl,qe2 C m2 (by lia) e2⟩⟩
 ·have l1:1<=la'.length:=List.length_pos_iff.mpr hq
  rw[if_neg (by simp[e1]<;>lia)]
  have fin:MhI n lt f A' B' (na-1) nb (ar f ([x]++O).reverse):=⟨_,_,_,_,_,rfl,m2,by lia,e2,l1,h3⟩
  split
  ·exact wpS_pure ⟨hs,.inr ⟨_,_,_,_,_,.inl rfl,fin,by lia⟩⟩
  ·exact wpS_pure ⟨hs,.inr ⟨_,_,_,_,_,.inr rfl,fin,by lia⟩⟩
theorem qvm(hc:Asks prog w A s κ f n lt)(C:MgC n lt A' B'){z:Nat}(hz:∀y∈A',lt z y=true){B0:List Nat}(hl:B'=z::B0){st0:SortSt}(hk:kindOf st0=κ)(hs:∃g,st=qa8 st0 g){m0:Nat}{x:Nat}{lb':List Nat}(m:Mh n lt A' B' O A1 la B1 (lb'++[x]))(hx:∀y∈la,lt x y=false)(h2:1<=la.length)(h3:1<=lb'.length){na nb mg k bc:Nat}(e1:na=la.length)(e2:nb=lb'.length+1)(hm:na+nb<=m0) :
  wpS (model prog w) A E s (mhB (ar f A') (ar f B') (ar f O.reverse) na nb mg k bc) (MhR n lt f A' B' m0 κ st0) st:=by
 have m2:Mh n lt A' B' ([x]++O) A1 la ([x]++B1) lb':=Mh.moveB C (l1:=[x]) (l2:=lb') m λy hy=>by rw[List.mem_singleton.mp hy];exact hx
 have hz1:∀ {l1 l2:List Nat} {O' A1' la':List Nat},Mh n lt A' B' O' A1' la' l2 l1->1<=l1.length->∃l0,l1=z::l0:=λ{l1 l2 O' A1' la'} mm hh=>by
  cases l1 with
 |nil=>simp at hh
 |cons u l0 =>
   have:=mm.eb
   rw[hl] at this
   have:=(List.cons.inj this).1
   exact⟨l0,by rw[this]⟩
 unfold mhB
 refine wpS_bind (qcq m.eb (by lia) ?_)
 rw[qjc]
 obtain⟨l0,hl0⟩:=hz1 m2 h3
 by_cases hq:lb'.length=1
 ·rw[if_pos (by simp[e2]<;>lia)]
  have:l0=[]:=by
   rw[hl0] at hq
   simpa using hq
  subst this
  rw[hl0] at m2
  exact wpS_pure ⟨hs,.inl ⟨_,_,rfl,qeb C hz m2 e1 (by lia)⟩⟩
 ·rw[if_neg (by simp[e2]<;>lia)]
  obtain⟨la',y,rfl⟩:=conc h2
  have hk':kindOf st=κ:=by
   obtain⟨g,rfl⟩:=hs
   exact hk
  have yn:y∈A':=m.ina (by simp)
  refine wpS_bind (qcq m.ea (by simp[e1]) (wpS_bind ?_))
  have eb:=m2.eb
  have eb':ar f B'=ar f ([]++(lb'++([x]++B1))):=by rw[eb];rfl
  rw[eb']
  refine qcc hc C.L hk' (λu hu=>C.hb u (m2.inb hu)) (C.ha y yn) (m2.ulb C) (by lia) rfl (by lia) λl1 l2 el b1 b2 _ _=>?_
  rw[←eb']
  subst el
  have up:=m.ula C
  have low:∀u∈l2,∀v∈la'++[y],lt u v=false:=λu hu=>qhh C.L (C.hb u (m2.inb (List.mem_append_right _ hu))) (λv hv=>C.ha v (m.ina hv)) up (b2 u hu)
  have len:(l1++l2).length=l1.length+l2.length:=by simp
  have l1p:1<=l1.length:=by
   cases l1 with
  |nil =>
    exfalso
    have zl:z∈l2:=by
     rw[List.nil_append] at hl0
     rw[hl0]
     simp
    have q1:=b2 z zl
    have q2:=hz y yn
    rw[q1] at q2
    cases q2
  |cons u l=>simp
  have la1:na=la'.length+1:=by rw[e1];simp
  dsimp only
  by_cases h0:nb-1-l1.length>0
  ·rw[if_pos h0]
   have m3:=Mh.moveB C m2 low
   have ex:(ar f B').extract l1.length (nb-1)=ar f l2:=by
    rw[eb,List.append_assoc]
    exact qge l1 l2 _ rfl (by lia)
   rw[ex,qv6]
   by_cases h9:l1.length=1
   ·rw[if_pos (by simp[h9])]
    obtain⟨l0',hl0'⟩:=hz1 m3 l1p
    have:l0'=[]:=by
     rw[hl0'] at h9
     simpa using h9
    subst this
    rw[hl0'] at m3 ⊢
    exact wpS_pure ⟨hs,.inl ⟨_,_,rfl,qeb C hz m3 e1 rfl⟩⟩
   ·rw[if_neg (by simp[h9]),if_neg (λe=>by have:=eq_of_beq e;lia)]
    exact qvn C hs m3 b1 (by lia) la1 rfl (by lia)
  ·rw[if_neg h0]
   have:l2=[]:=List.length_eq_zero_iff.mp (by lia)
   subst this
   refine qvn C hs m2 (λv hv=>b1 v (by simpa using hv)) (by lia) la1 (by lia) (by lia)
theorem q0i(hc:Asks prog w A s κ f n lt)(C:MgC n lt A' B'){z:Nat}(hz:∀y∈A',lt z y=true){B0:List Nat}(hl:B'=z::B0){st0:SortSt}(hk:kindOf st0=κ)(hs:∃g,st=qa8 st0 g){out:Array Keyed}{na nb mg ac bc:Nat}(h:MhI n lt f A' B' na nb out) :
  wpS (model prog w) A E s (mhA (ar f A') (ar f B') out na nb mg ac bc) (MhR n lt f A' B' (na+nb) κ st0) st:=by
 obtain⟨O,A1,la,B1,lb,rfl,m,e1,e2,h2,h3⟩:=h
 unfold mhA
 refine wpS_bind ?_
 rw[qbx]
 refine wpS_modify ?_
 have hs':∃g,qa8 st mg=qa8 st0 g:=by
  obtain⟨g,rfl⟩:=hs
  exact⟨mg,rfl⟩
 generalize qa8 st mg=st' at hs'
 have hk':kindOf st'=κ:=by
  obtain⟨g,rfl⟩:=hs'
  exact hk
 obtain⟨lb',x,rfl⟩:=conc (show 1<=lb.length by lia)
 have xn:x∈B':=m.inb (by simp)
 have lb1:(lb'++[x]).length=lb'.length+1:=by simp
 refine wpS_bind (qcq m.eb (by lia) (wpS_bind ?_))
 have ea:=m.ea
 have ea':ar f A'=ar f ([]++(la++A1)):=by rw[ea];rfl
 rw[ea']
 refine qcc hc C.L hk' (λu hu=>C.ha u (m.ina hu)) (C.hb x xn) (m.ula C) (by lia) rfl (by lia) λl1 l2 el b1 b2 _ _=>?_
 rw[←ea']
 subst el
 have ub:=m.ulb C
 have low:∀u∈l2,∀v∈lb'++[x],lt u v=false:=λu hu=>qhh C.L (C.ha u (m.ina (List.mem_append_right _ hu))) (λv hv=>C.hb v (m.inb hv)) ub (b2 u hu)
 have len:(l1++l2).length=l1.length+l2.length:=by simp
 dsimp only
 by_cases h0:na-l1.length>0
 ·rw[if_pos h0]
  have m3:=Mh.moveA C m low
  have ex:(ar f A').extract l1.length na=ar f l2:=by
   rw[ea,List.append_assoc]
   exact qge l1 l2 _ rfl (by lia)
  rw[ex,qv6]
  by_cases h9:l1=[]
  ·subst h9
   rw[if_pos (by simp)]
   exact wpS_pure ⟨hs',.inl ⟨_,_,rfl,qe2 C m3 rfl e2⟩⟩
  ·have l1p:1<=l1.length:=List.length_pos_iff.mpr h9
   rw[if_neg (by simp[h9])]
   exact qvm hc C hz hl hk hs' m3 b1 l1p (by lia) rfl (by lia) (by lia)
 ·rw[if_neg h0]
  have:l2=[]:=List.length_eq_zero_iff.mp (by lia)
  subst this
  exact qvm hc C hz hl hk hs' m (λv hv=>b1 v (by simpa using hv)) h2 (by lia) e1 (by lia) (by lia)
theorem qow(hc:Asks prog w A s κ f n lt)(C:MgC n lt A' B'){z:Nat}(hz:∀y∈A',lt z y=true){B0:List Nat}(hl:B'=z::B0)(hk:kindOf st=κ){a0:Nat}{A0:List Nat}(ha0:A'=A0++[a0])(h0:∀y∈B',lt y a0=true){Q:Array Keyed->SortSt->Prop}
  (h:∀r g,MgQ lt f A' B' r->Q r (qa8 st g)):wpS (model prog w) A E s (qiw (ar f A') (ar f B')) Q st:=by
 have m:Mh n lt A' B' [a0] [a0] A0 [] B':={
  ea:=ha0
  eb:=by simp
  pm:=List.Perm.refl _
  up:=List.pairwise_singleton _ _
  ba:=λy hy x hx=>by
   rw[List.mem_singleton.mp hx]
   have u:=C.ua
   rw[ha0] at u
   exact(List.pairwise_append.mp u).2.2 y hy a0 (by simp)
  bb:=λy hy x hx=>by rw[List.mem_singleton.mp hx];exact C.L.as _ _ (C.hb y hy) (C.ha a0 (by rw[ha0];simp)) (h0 y hy) }
 have sa:(ar f A').size=A0.length+1:=by rw[qb7,ha0];simp
 have sb:(ar f B').size=B'.length:=qb7 _
 have bP:1<=B'.length:=by rw[hl];simp
 have na0:(ar f A').size-1=A0.length:=by lia
 rw[ql5]
 dsimp only
 refine wpS_bind (wpS_lift (wpAny_rule ⟨rfl,wpS_bind (qcq (x:=a0) (pre:=A0) (post:=[]) (by rw[ha0];simp) na0 ?_)⟩))
 have o1:#[f a0]=ar f [a0].reverse:=rfl
 rw[o1]
 by_cases hq:A0=[]
 ·subst hq
  simp only[List.length_nil] at na0
  rw[if_pos (by simp[na0])]
  exact wpS_pure (h _ (gallopOf st) (qe2 C m na0 sb))
 ·have aP:1<=A0.length:=List.length_pos_iff.mpr hq
  rw[if_neg (by simp[na0]<;>lia)]
  by_cases hq2:B'.length=1
  ·rw[if_pos (by simp[sb]<;>lia)]
   have:B0=[]:=by
    rw[hl] at hq2
    simpa using hq2
   subst this
   have:=qeb (f:=f) C hz (by rw[hl] at m ⊢;exact m) na0 (sb.trans hq2)
   exact wpS_pure (h _ (gallopOf st) this)
  ·rw[if_neg (by simp[sb]<;>lia)]
   refine wpS_bind (wpS_get ?_)
   refine wpS_bind (wpS_forRange (λk c st'=>(∃g,st'=qa8 st g)/\∃na nb out mg,c=(none,na,nb,out,mg)/\MhI n lt f A' B' na nb out/\na+nb+k<(ar f A').size+(ar f B').size) ?_ ?_ ⟨⟨gallopOf st,rfl⟩,_,_,_,_,rfl,⟨[a0],[a0],A0,[],B',rfl,m,na0,sb,aP,by lia⟩,by lia⟩)
   ·rintro k c st' - hkt ⟨hs,na,nb,out,mg,rfl,hi,hk1⟩
    dsimp only
    refine wpS_bind (wpS_mono (Q:=λc st'=>(∃g,st'=qa8 st g)/\((∃x y,c=(some x,y)/\MgQ lt f A' B' x)\/∃na nb out p,c=(none,na,nb,out,p)/\MhI n lt f A' B' na nb out/\na+nb+k<(ar f A').size+(ar f B').size))
     (wpS_forRange (λ_ c st'=>(∃g,st'=qa8 st g)/\∃na nb out ac bc,c=(none,na,nb,out,ac,bc)/\MhI n lt f A' B' na nb out/\na+nb+k<(ar f A').size+(ar f B').size) ?_ ?_ ⟨hs,_,_,_,_,_,rfl,hi,hk1⟩) ?_)
    ·clear hs hi hk1
     rintro k1 c st' - - ⟨hs,na,nb,out,ac,bc,rfl,⟨O,A1,la,B1,lb,rfl,m,e1,e2,h2,h3⟩,hk1⟩
     have hk':kindOf st'=κ:=by
      obtain⟨g,rfl⟩:=hs
      exact hk
     obtain⟨la',x,rfl⟩:=conc h2
     obtain⟨lb',y,rfl⟩:=conc (show 1<=lb.length by lia)
     have xn:x∈A':=m.ina (by simp)
     have yn:y∈B':=m.inb (by simp)
     have ua:=m.ula C
     have ub:=m.ulb C
     have la2:(la'++[x]).length=la'.length+1:=by simp
     have lb2:(lb'++[y]).length=lb'.length+1:=by simp
     dsimp only
     have getA:∀ {Q':Keyed->SortSt->Prop},Q' (f x) st'->wpS (model prog w) A E s (elem' (ar f A') (na-1)) Q' st':=λq=>qcq m.ea (by lia) q
     have getB:∀ {Q':Keyed->SortSt->Prop},Q' (f y) st'->wpS (model prog w) A E s (elem' (ar f B') (nb-1)) Q' st':=λq=>qcq m.eb (by lia) q
     refine wpS_bind (getB (wpS_bind (getA (wpS_bind (qhp hc hk' (C.hb y yn) (C.ha x xn) ?_)))))
     dsimp only
     cases hw:lt y x with
    |true =>
      rw[if_pos rfl]
      refine wpS_bind (getA ?_)
      have m2:=Mh.moveA C (l1:=[x]) (l2:=la') m λu hu=>by rw[List.mem_singleton.mp hu];exact qhh C.L (C.ha x xn) (λv hv=>C.hb v (m.inb hv)) ub (C.L.as _ _ (C.hb y yn) (C.ha x xn) hw)
      rw[qjc]
      by_cases z1:la'=[]
      ·subst z1
       simp only[List.nil_append,List.length_singleton] at e1
       rw[if_pos (by simp[e1])]
       exact wpS_pure ⟨hs,.inl ⟨_,_,rfl,qe2 C m2 (by lia) e2⟩⟩
      ·have z2:1<=la'.length:=List.length_pos_iff.mpr z1
       rw[if_neg (λe=>by have:=eq_of_beq e;lia)]
       have fin:MhI n lt f A' B' (na-1) nb (ar f ([x]++O).reverse):=⟨_,_,_,_,_,rfl,m2,by lia,e2,z2,h3⟩
       split
       ·exact wpS_pure ⟨hs,.inr ⟨_,_,_,_,rfl,fin,by lia⟩⟩
       ·exact wpS_pure ⟨hs,_,_,_,_,_,rfl,fin,by lia⟩
    |false =>
      rw[if_neg (by simp)]
      refine wpS_bind (getB ?_)
      have m2:=Mh.moveB C (l1:=[y]) (l2:=lb') m λu hu=>by rw[List.mem_singleton.mp hu];exact qhh C.L (C.hb y yn) (λv hv=>C.ha v (m.ina hv)) ua hw
      rw[qjc]
      by_cases z1:lb'.length=1
      ·rw[if_pos (beq_iff_eq.mpr (by lia))]
       obtain⟨v,rfl⟩:∃v,lb'=[v]:=List.length_eq_one_iff.mp z1
       have:v=z:=by
        have:=m2.eb
        rw[hl] at this
        exact(List.cons.inj this).1.symm
       subst this
       exact wpS_pure ⟨hs,.inl ⟨_,_,rfl,qeb C hz m2 e1 (by lia)⟩⟩
      ·have z2:2<=lb'.length:=by lia
       rw[if_neg (λe=>by have:=eq_of_beq e;lia)]
       have fin:MhI n lt f A' B' na (nb-1) (ar f ([y]++O).reverse):=⟨_,_,_,_,_,rfl,m2,e1,by lia,h2,z2⟩
       split
       ·exact wpS_pure ⟨hs,.inr ⟨_,_,_,_,rfl,fin,by lia⟩⟩
       ·exact wpS_pure ⟨hs,_,_,_,_,_,rfl,fin,by lia⟩
    ·rintro c st' ⟨hs,na,nb,out,ac,bc,rfl,hi,hk1⟩
     exact⟨hs,.inr ⟨_,_,_,_,rfl,hi,hk1⟩⟩
    ·clear hs hi hk1
     rintro c st' ⟨hs,⟨x,y,rfl,hx⟩|⟨na,nb,out,p,rfl,hi,hk1⟩⟩
     ·refine wpS_pure ?_
      obtain⟨g,rfl⟩:=hs
      exact wpS_pure (h _ _ hx)
     ·dsimp only
      refine wpS_bind (wpS_lift (wpAny_rule ⟨rfl,wpS_bind (wpS_mono (Q:=λc st'=>(∃g,st'=qa8 st g)/\((∃x y,c=(some x,y)/\MgQ lt f A' B' x)\/∃na nb out p,c=(none,na,nb,out,p)/\MhI n lt f A' B' na nb out/\na+nb+(k+1)<(ar f A').size+(ar f B').size)) (wpS_forRange (λj c st'=>(∃g,st'=qa8 st g)/\∃na nb out mg ac bc,c=(none,na,nb,out,mg,ac,bc)/\MhI n lt f A' B' na nb out/\na+nb+(k+(if j=0 then 0 else 1))<(ar f A').size+(ar f B').size) ?_ ?_ ⟨hs,_,_,_,_,_,_,rfl,hi,hk1⟩) ?_)⟩))
      ·clear hs hi hk1
       rintro j c st' - - ⟨hs,na,nb,out,mg,ac,bc,rfl,hi,hk1⟩
       have key:=λmg=>q0i (E:=E) (mg:=mg) (ac:=ac) (bc:=bc) hc C hz hl hk hs hi
       by_cases hm1:mg>1
       ·rw[if_pos hm1]
        refine wpS_mono (key (mg-1)) ?_
        rintro r st' ⟨hs',⟨x,y,rfl,hx⟩|⟨na,nb,out,mg,p,rfl|rfl,hi',hm⟩⟩
        ·exact⟨hs',.inl ⟨_,_,rfl,hx⟩⟩
        ·exact⟨hs',.inr ⟨_,_,_,_,rfl,hi',by split at hk1<;>lia⟩⟩
        ·exact⟨hs',_,_,_,_,_,_,rfl,hi',by rw[if_neg (by lia)];split at hk1<;>lia⟩
       ·rw[if_neg hm1]
        refine wpS_mono (key mg) ?_
        rintro r st' ⟨hs',⟨x,y,rfl,hx⟩|⟨na,nb,out,mg,p,rfl|rfl,hi',hm⟩⟩
        ·exact⟨hs',.inl ⟨_,_,rfl,hx⟩⟩
        ·exact⟨hs',.inr ⟨_,_,_,_,rfl,hi',by split at hk1<;>lia⟩⟩
        ·exact⟨hs',_,_,_,_,_,_,rfl,hi',by rw[if_neg (by lia)];split at hk1<;>lia⟩
      ·rintro c st' ⟨hs,na,nb,out,mg,ac,bc,rfl,hi,hk1⟩
       refine⟨hs,.inr ⟨_,_,_,_,rfl,hi,?_⟩⟩
       rw[if_neg (by lia)] at hk1
       exact hk1
      ·clear hs hi hk1
       rintro c st' ⟨hs,⟨x,y,rfl,hx⟩|⟨na,nb,out,p,rfl,hi,hk1⟩⟩
       ·refine wpS_pure ?_
        obtain⟨g,rfl⟩:=hs
        exact wpS_pure (h _ _ hx)
       ·dsimp only
        refine wpS_bind ?_
        rw[qbx]
        refine wpS_modify (wpS_pure ?_)
        obtain⟨g,rfl⟩:=hs
        exact⟨⟨_,rfl⟩,_,_,_,_,rfl,hi,hk1⟩
   ·rintro c st' ⟨hs,na,nb,out,mg,rfl,hi,hk1⟩
    lia
end
end L2
namespace L2
open PySem PySem.W PyProof.Rows
section
variable {prog:Program} {w:World} {A:Around} {E:Value->Shared->Prop} {s:Shared} {κ:SortKind} {f:Nat->Keyed} {n:Nat} {lt:Nat->Nat->Bool} {st:SortSt} {p:Array Nat}
structure PermOk(n:Nat)(p:Array Nat):Prop where
 sz:p.size=n
 lt:∀i,i<n->p.getD i 0<n
 inj:∀i j,i<n->j<n->p.getD i 0=p.getD j 0->i=j
theorem qcd(p:Array Nat)(i:Nat):p.getD i 0=(p[i]?).getD 0:=by
 by_cases h:i<p.size
 ·simp[Array.getD,h]
 ·simp[Array.getD,h]
theorem PermOk.of(hp:p.Perm (List.range n).toArray):PermOk n p where
 sz:=by rw[hp.size_eq];simp
 lt:=λi hi=>by
  have hs:p.size=n:=by rw[hp.size_eq];simp
  have hm:p[i]'(by lia)∈p:=Array.getElem_mem _
  have:p[i]'(by lia)∈(List.range n).toArray:=hp.mem_iff.mp hm
  rw[qcd,Array.getElem?_eq_getElem (by lia)]
  simpa using this
 inj:=λi j hi hj e=>by
  have hs:p.size=n:=by rw[hp.size_eq];simp
  have nd:p.toList.Nodup:=by
   have:=hp.toList
   rw[this.nodup_iff]
   simp[List.nodup_range]
  rw[qcd,qcd,Array.getElem?_eq_getElem (by lia),Array.getElem?_eq_getElem (by lia)] at e
  have e':p.toList[i]'(by simp;lia)=p.toList[j]'(by simp;lia):=by simpa using e
  exact(List.getElem_inj nd).mp e'
def SPl(lt:Nat->Nat->Bool)(p:Array Nat)(lo k:Nat):Prop:=∀i j,lo<=i->i<j->j<lo+k->lt (p.getD j 0) (p.getD i 0)=false
def DPl(lt:Nat->Nat->Bool)(p:Array Nat)(lo k:Nat):Prop:=∀i j,lo<=i->i<j->j<lo+k->lt (p.getD i 0) (p.getD j 0)=false
theorem qdb(hc:Asks prog w A s κ f n lt)(hk:kindOf st=κ)(P:PermOk n p)(ha:arrOf st=p.map f){i j:Nat}(hi:i<n)(hj:j<n){Q:Option Bool->SortSt->Prop}(h:Q (some (lt (p.getD i 0) (p.getD j 0))) st):wpS (model prog w) A E s (ltAt' i j) Q st:=by
 have g:∀i,i<n->(arrOf st)[i]?=some (f (p.getD i 0)):=λi hi=>by
  have hz:i<p.size:=by rw[P.sz];exact hi
  rw[ha,qcd]
  simp[hz]
 rw[ltAt'_eq]
 refine wpS_bind (wpS_get ?_)
 show wpS _ _ _ _ (do let x ←elem' (arrOf st) i;let y ←elem' (arrOf st) j;lt' x y) Q st
 rw[elem'_eq,elem'_eq,g i hi,g j hj]
 exact wpS_bind (wpS_pure (wpS_bind (wpS_pure (qhp hc hk (P.lt i hi) (P.lt j hj) h))))
theorem qk3(u v:Nat->Nat)(l:List Nat)(xs:Array Nat):l.foldl (λa k=>a.swapIfInBounds (u k) (v k)) (xs.map f)=(l.foldl (λa k=>a.swapIfInBounds (u k) (v k)) xs).map f:=kas_swaps_map f u v l xs
theorem qj4(ha:arrOf st=p.map f){i j:Nat}{Q:Unit->SortSt->Prop}(h:Q () (setArr st ((mirror p i j ((j-i) / 2)).map f))):wpS (model prog w) A E s (reverseSlice' i j) Q st:=by
 rw[reverseSlice'_eq]
 refine wpS_modify ?_
 have e:mirror (arrOf st) i j ((j-i) / 2)=(mirror p i j ((j-i) / 2)).map f:=by rw[ha];exact qk3 (λk=>i+k) (λk=>j-1-k) _ p
 rw[e]
 exact h
theorem qu1(ha:arrOf st=p.map f){k l:Nat}{Q:Unit->SortSt->Prop}(h:Q () (setArr st ((bubble p k (k-l)).map f))):wpS (model prog w) A E s (moveDown' k l) Q st:=by
 rw[moveDown'_eq]
 refine wpS_modify ?_
 have e:bubble (arrOf st) k (k-l)=(bubble p k (k-l)).map f:=by rw[ha];exact qk3 (λi=>k-i) (λi=>k-i-1) _ p
 rw[e]
 exact h
theorem SPl.snoc(L:LtOk n lt)(P:PermOk n p){lo k:Nat}(h:SPl lt p lo k)(hk:lo+k<n)(h1:1<=k)(e:lt (p.getD (lo+k) 0) (p.getD (lo+k-1) 0)=false):SPl lt p lo (k+1):=λi j h0 hi hj=>by
 have l1:=e
 by_cases hjk:j=lo+k
 ·subst hjk
  by_cases hik:i=lo+k-1
  ·rw[hik];exact l1
  ·exact L.tr _ _ _ (P.lt i (by lia)) (P.lt (lo+k-1) (by lia)) (P.lt (lo+k) hk) (h i (lo+k-1) h0 (by lia) (by lia)) l1
 ·exact h i j h0 hi (by lia)
theorem qbo{i j:Nat}(hj:j<=p.size)(k:Nat):(mirror p i j ((j-i) / 2)).getD k 0=if i<=k/\k<j then p.getD (i+j-1-k) 0 else p.getD k 0:=by
 rw[qcd,getElem?_mirror_all hj k]
 by_cases h:i<=k/\k<j
 ·rw[if_pos h,if_pos h,qcd]
 ·rw[if_neg h,if_neg h,qcd]
theorem qyr{lo k:Nat}(hj:lo+k<=p.size)(h:DPl lt p lo k):SPl lt (mirror p lo (lo+k) ((lo+k-lo) / 2)) lo k:=λa b h0 hab hb=>by
 rw[qbo hj,qbo hj,if_pos (by lia),if_pos (by lia)]
 exact h _ _ (by lia) (by lia) (by lia)
def RunQ(n:Nat)(lt:Nat->Nat->Bool)(f:Nat->Keyed)(lo:Nat)(p:Array Nat)(st:SortSt)(m:Nat)(st':SortSt):Prop :=
 ∃q:Array Nat,st'=setArr st (q.map f)/\q.Perm p/\(∀i,i<lo->q.getD i 0=p.getD i 0)/\SPl lt q lo m
theorem qeq{a:Array Keyed}(ha:arrOf st=a):setArr st a=st:=by subst ha;rfl
theorem DPl.snoc2(L:LtOk n lt)(P:PermOk n p){lo k:Nat}(h:DPl lt p lo k)(hk:lo+k<n)(h1:1<=k)(e:lt (p.getD (lo+k-1) 0) (p.getD (lo+k) 0)=false):DPl lt p lo (k+1):=λi j h0 hi hj=>by
 by_cases hjk:j=lo+k
 ·subst hjk
  by_cases hik:i=lo+k-1
  ·rw[hik];exact e
  ·exact L.tr _ _ _ (P.lt (lo+k) hk) (P.lt (lo+k-1) (by lia)) (P.lt i (by lia)) e (h i (lo+k-1) h0 (by lia) (by lia))
 ·exact h i j h0 hi (by lia)
def qww(lo nrem n0:Nat):StateT SortSt Sem (Option Nat):=do
 reverseSlice' lo (lo+n0)
 let mut n:=n0
 for _ in [n0:nrem] do
  let some smaller ←ltAt' (lo+n) (lo+n-1)|return none
  if smaller then break
  n:=n+1
 return some n
def qpv(lo nrem n0:Nat):StateT SortSt Sem (Option Nat):=do
 rule "list.sort.descending-run"
 let mut n:=n0+1
 let mut neq:=0
 for _ in [n:nrem] do
  let some smaller ←ltAt' (lo+n) (lo+n-1)|return none
  if smaller then
   if neq>0 then reverseSlice' (lo+n-(neq+1)) (lo+n)
   neq:=0
  else
   let some larger ←ltAt' (lo+n-1) (lo+n)|return none
   if larger then break
   neq:=neq+1
  n:=n+1
 if neq>0 then reverseSlice' (lo+n-(neq+1)) (lo+n)
 qww lo nrem n
theorem qik(lo nrem:Nat):countRun' lo nrem=(do
 let mut n:=1
 for _ in [1:nrem] do
  let some smaller ←ltAt' (lo+n) (lo+n-1)|return none
  if smaller then break
  n:=n+1
 if n==nrem then return some n
 if n>1 then
  let some rose ←ltAt' lo (lo+n-1)|return none
  if rose then return some n
  reverseSlice' lo (lo+n)
 qpv lo nrem n):=rfl
def EPl(lt:Nat->Nat->Bool)(p:Array Nat)(a b:Nat):Prop:=∀i j,a<=i->i<b->a<=j->j<b->lt (p.getD i 0) (p.getD j 0)=false
theorem qrx{lo k a b:Nat}(hb:b<=p.size)(h0:lo<=a)(hk:b<=lo+k)(e:EPl lt p a b)(h:DPl lt p lo k):DPl lt (mirror p a b ((b-a) / 2)) lo k:=λi j hi hij hj=>by
 rw[qbo hb,qbo hb]
 by_cases c1:a<=i/\i<b
 ·rw[if_pos c1]
  by_cases c2:a<=j/\j<b
  ·rw[if_pos c2]
   exact e _ _ (by lia) (by lia) (by lia) (by lia)
  ·rw[if_neg c2]
   exact h _ _ (by lia) (by lia) hj
 ·rw[if_neg c1]
  by_cases c2:a<=j/\j<b
  ·rw[if_pos c2]
   exact h _ _ hi (by lia) (by lia)
  ·rw[if_neg c2]
   exact h _ _ hi hij hj
structure CrI(n:Nat)(f:Nat->Keyed)(lo:Nat)(p:Array Nat)(st:SortSt)(q:Array Nat)(st':SortSt):Prop where
 st:st'=setArr st (q.map f)
 pm:q.Perm p
 bef:∀i,i<lo->q.getD i 0=p.getD i 0
theorem CrI.rev{lo a b:Nat}{q:Array Nat}{st':SortSt}(h:CrI n f lo p st q st')(hb:b<=q.size)(ha:lo<=a):CrI n f lo p st (mirror q a b ((b-a) / 2)) (setArr st' ((mirror q a b ((b-a) / 2)).map f)):=by
 refine⟨by rw[h.st],(mirror_perm _ _ _ _).trans h.pm,λi hi=>?_⟩
 rw[qbo hb,if_neg (by lia)]
 exact h.bef i hi
theorem qm8(hc:Asks prog w A s κ f n lt)(L:LtOk n lt)(hk:kindOf st=κ)(hp:p.Perm (List.range n).toArray){lo nrem:Nat}(hn:lo+nrem=n){q:Array Nat}{st':SortSt}(I:CrI n f lo p st q st'){m:Nat}(k1:2<=m)(k2:m<=nrem)(hd:DPl lt q lo m){Q:Option Nat->SortSt->Prop}
  (h:∀m st',1<=m->m<=nrem->RunQ n lt f lo p st m st'->Q (some m) st'):wpS (model prog w) A E s (qww lo nrem m) Q st':=by
 have P:=PermOk.of (I.pm.trans hp)
 have hz:lo+m<=q.size:=by rw[P.sz];lia
 have I2:=I.rev hz (Nat.le_refl lo)
 have s2:=qyr (lt:=lt) hz hd
 have ha:arrOf st'=q.map f:=by rw[I.st]
 unfold qww
 refine wpS_bind (qj4 ha ?_)
 have P2:=PermOk.of (I2.pm.trans hp)
 have hk2:kindOf (setArr st' ((mirror q lo (lo+m) ((lo+m-lo) / 2)).map f))=κ:=by rw[I2.st];exact hk
 have ha2:arrOf (setArr st' ((mirror q lo (lo+m) ((lo+m-lo) / 2)).map f))=(mirror q lo (lo+m) ((lo+m-lo) / 2)).map f:=rfl
 generalize mirror q lo (lo+m) ((lo+m-lo) / 2)=r at *
 generalize setArr st' (r.map f)=st2 at *
 refine wpS_bind (wpS_mono (Q:=λc st3=>st3=st2/\∃m,c=(none,m)/\1<=m/\m<=nrem/\SPl lt r lo m)
  (wpS_forRange (λi c st3=>st3=st2/\c=(none,i)/\i<=nrem/\SPl lt r lo i) ?_ ?_ ⟨rfl,rfl,k2,s2⟩) ?_)
 ·rintro i c st3 hi1 hi2 ⟨rfl,rfl,hi,hs⟩
  dsimp only
  refine wpS_bind (qdb hc hk2 P2 ha2 (by lia) (by lia) ?_)
  dsimp only
  cases e:lt (r.getD (lo+i) 0) (r.getD (lo+i-1) 0) with
 |true =>
   rw[if_pos rfl]
   exact wpS_pure ⟨rfl,i,rfl,by lia,hi,hs⟩
 |false =>
   rw[if_neg (by simp)]
   exact wpS_pure ⟨rfl,rfl,by lia,hs.snoc L P2 (by lia) (by lia) e⟩
 ·rintro c st3 ⟨rfl,rfl,hi,hs⟩
  have e:max m nrem=nrem:=by lia
  rw[e] at hs ⊢
  exact⟨rfl,nrem,rfl,by lia,by lia,hs⟩
 ·rintro c st3 ⟨rfl,m',rfl,j1,j2,hs⟩
  exact wpS_pure (h m' _ j1 j2 ⟨r,I2.st,I2.pm,I2.bef,hs⟩)
theorem qkh(hc:Asks prog w A s κ f n lt)(L:LtOk n lt)(hk:kindOf st=κ)(hp:p.Perm (List.range n).toArray){lo nrem:Nat}(hn:lo+nrem=n){q:Array Nat}{st':SortSt}(I:CrI n f lo p st q st'){m:Nat}(k1:1<=m)(k2:m<nrem)(hd:DPl lt q lo (m+1)){Q:Option Nat->SortSt->Prop}
  (h:∀m st',1<=m->m<=nrem->RunQ n lt f lo p st m st'->Q (some m) st'):wpS (model prog w) A E s (qpv lo nrem m) Q st':=by
 unfold qpv
 refine wpS_bind (wpS_lift (wpAny_rule ⟨rfl,?_⟩))
 refine wpS_bind (wpS_mono (Q:=λc st2=>∃q m neq,c=(none,m,neq)/\CrI n f lo p st q st2/\2<=m/\m<=nrem/\neq+1<=m/\DPl lt q lo m/\EPl lt q (lo+m-(neq+1)) (lo+m))
  (wpS_forRange (λi c st2=>∃q neq,c=(none,i,neq)/\CrI n f lo p st q st2/\i<=nrem/\neq+1<=i/\DPl lt q lo i/\EPl lt q (lo+i-(neq+1)) (lo+i)) ?_ ?_ ⟨q,0,rfl,I,by lia,by lia,hd,λi j a b c d=>?_⟩) ?_)
 ·rintro i c st2 hi1 hi2 ⟨q,neq,rfl,I,hi,hq,hd,he⟩
  have P:=PermOk.of (I.pm.trans hp)
  have ha:arrOf st2=q.map f:=by rw[I.st]
  have hk2:kindOf st2=κ:=by rw[I.st];exact hk
  dsimp only
  refine wpS_bind (qdb hc hk2 P ha (by lia) (by lia) ?_)
  dsimp only
  cases e:lt (q.getD (lo+i) 0) (q.getD (lo+i-1) 0) with
 |true =>
   rw[if_pos rfl]
   have e1:=L.as _ _ (P.lt _ (by lia)) (P.lt _ (by lia)) e
   have one:∀r:Array Nat,EPl lt r (lo+(i+1)-(0+1)) (lo+(i+1))↔lt (r.getD (lo+i) 0) (r.getD (lo+i) 0)=false:=λr=>⟨λz=>z _ _ (by lia) (by lia) (by lia) (by lia),λz a b c d e' f'=>by
    rw[show a=lo+i by lia,show b=lo+i by lia]
    exact z⟩
   have irr:∀x,x<n->lt x x=false:=λx hx=>by
    cases z:lt x x with
   |false=>rfl
   |true=>rw[←z];exact L.as x x hx hx z
   by_cases hz:neq>0
   ·rw[if_pos hz]
    refine wpS_bind (qj4 ha ?_)
    have hb:lo+i<=q.size:=by rw[P.sz];lia
    have I2:=I.rev (a:=lo+i-(neq+1)) hb (by lia)
    have d2:=qrx (lt:=lt) (a:=lo+i-(neq+1)) hb (by lia) (Nat.le_refl _) he hd
    have g:∀k,(mirror q (lo+i-(neq+1)) (lo+i) ((lo+i-(lo+i-(neq+1))) / 2)).getD k 0=if lo+i-(neq+1)<=k/\k<lo+i then q.getD (lo+i-(neq+1)+(lo+i)-1-k) 0 else q.getD k 0:=λk=>qbo hb k
    have P2:=PermOk.of (I2.pm.trans hp)
    generalize mirror q (lo+i-(neq+1)) (lo+i) ((lo+i-(lo+i-(neq+1))) / 2)=r at *
    refine wpS_pure ⟨r,0,rfl,I2,by lia,by lia,?_,(one r).mpr (irr _ (P2.lt _ (by lia)))⟩
    refine d2.snoc2 L P2 (by lia) (by lia) ?_
    rw[g (lo+i),if_neg (by lia),g (lo+i-1),if_pos (by lia)]
    exact L.tr _ _ _ (P.lt _ (by lia)) (P.lt _ (by lia)) (P.lt _ (by lia)) e1 (he _ _ (by lia) (by lia) (by lia) (by lia))
   ·rw[if_neg hz]
    exact wpS_pure ⟨q,0,rfl,I,by lia,by lia,hd.snoc2 L P (by lia) (by lia) e1,(one q).mpr (irr _ (P.lt _ (by lia)))⟩
 |false =>
   rw[if_neg (by simp)]
   refine wpS_bind (qdb hc hk2 P ha (by lia) (by lia) ?_)
   dsimp only
   cases e2:lt (q.getD (lo+i-1) 0) (q.getD (lo+i) 0) with
  |true =>
    rw[if_pos rfl]
    exact wpS_pure ⟨q,i,neq,rfl,I,by lia,hi,hq,hd,he⟩
  |false =>
    rw[if_neg (by simp)]
    refine wpS_pure ⟨q,neq+1,rfl,I,by lia,by lia,hd.snoc2 L P (by lia) (by lia) e2,λa b c d c' d'=>?_⟩
    have irr:∀x,x<n->lt x x=false:=λx hx=>by
     cases z:lt x x with
    |false=>rfl
    |true=>rw[←z];exact L.as x x hx hx z
    have lst:∀a,lo+(i+1)-(neq+1+1)<=a->a<lo+i->lt (q.getD a 0) (q.getD (lo+i) 0)=false/\lt (q.getD (lo+i) 0) (q.getD a 0)=false:=λa x y =>
     ⟨L.tr _ _ _ (P.lt _ (by lia)) (P.lt (lo+i-1) (by lia)) (P.lt _ (by lia)) e2 (he _ _ (by lia) (by lia) (by lia) (by lia)),L.tr _ _ _ (P.lt _ (by lia)) (P.lt (lo+i-1) (by lia)) (P.lt _ (by lia)) (he _ _ (by lia) (by lia) (by lia) (by lia)) e⟩
    by_cases ea:a=lo+i
    ·rw[ea]
     by_cases eb:b=lo+i
     ·rw[eb];exact irr _ (P.lt _ (by lia))
     ·exact(lst b c' (by lia)).2
    ·by_cases eb:b=lo+i
     ·rw[eb];exact(lst a c (by lia)).1
     ·exact he _ _ (by lia) (by lia) (by lia) (by lia)
 ·rintro c st2 ⟨q,neq,rfl,I,hi,hq,hd,he⟩
  have e:max (m+1) nrem=nrem:=by lia
  rw[e] at hd he hq ⊢
  exact⟨q,nrem,neq,rfl,I,by lia,by lia,hq,hd,he⟩
 ·have P:=PermOk.of (I.pm.trans hp)
  have ij:i=lo+m/\j=lo+m:=by lia
  rw[ij.1,ij.2]
  cases z:lt (q.getD (lo+m) 0) (q.getD (lo+m) 0) with
 |false=>rfl
 |true=>rw[←z];exact L.as _ _ (P.lt _ (by lia)) (P.lt _ (by lia)) z
 ·rintro c st2 ⟨q,m,neq,rfl,I,j1,j2,hq,hd,he⟩
  dsimp only
  have P:=PermOk.of (I.pm.trans hp)
  have ha:arrOf st2=q.map f:=by rw[I.st]
  by_cases hz:neq>0
  ·rw[if_pos hz]
   refine wpS_bind (qj4 ha ?_)
   have hb:lo+m<=q.size:=by rw[P.sz];lia
   exact qm8 hc L hk hp hn (I.rev (a:=lo+m-(neq+1)) hb (by lia)) j1 j2 (qrx (lt:=lt) (a:=lo+m-(neq+1)) hb (by lia) (Nat.le_refl _) he hd) h
  ·rw[if_neg hz]
   exact qm8 hc L hk hp hn I j1 j2 hd h
theorem qsy(hc:Asks prog w A s κ f n lt)(L:LtOk n lt)(hk:kindOf st=κ)(hp:p.Perm (List.range n).toArray)(ha:arrOf st=p.map f){lo nrem:Nat}(h1:1<=nrem)(hn:lo+nrem=n){Q:Option Nat->SortSt->Prop}
  (h:∀m st',1<=m->m<=nrem->RunQ n lt f lo p st m st'->Q (some m) st'):wpS (model prog w) A E s (countRun' lo nrem) Q st:=by
 have P:=PermOk.of hp
 rw[qik]
 dsimp only
 refine wpS_bind (wpS_mono (Q:=λc st'=>st'=st/\∃m,c=(none,m)/\1<=m/\m<=nrem/\SPl lt p lo m/\(m<nrem->lt (p.getD (lo+m) 0) (p.getD (lo+m-1) 0)=true))
  (wpS_forRange (λi c st'=>st'=st/\c=(none,i)/\i<=nrem/\SPl lt p lo i) ?_ ?_ ⟨rfl,rfl,h1,λi j h0 hi hj=>by lia⟩) ?_)
 ·rintro i c st' hi1 hi2 ⟨rfl,rfl,hi,hs⟩
  dsimp only
  refine wpS_bind (qdb hc hk P ha (by lia) (by lia) ?_)
  dsimp only
  cases e:lt (p.getD (lo+i) 0) (p.getD (lo+i-1) 0) with
 |true =>
   rw[if_pos rfl]
   exact wpS_pure ⟨rfl,i,rfl,hi1,hi,hs,λ_=>e⟩
 |false =>
   rw[if_neg (by simp)]
   exact wpS_pure ⟨rfl,rfl,by lia,hs.snoc L P (by lia) hi1 e⟩
 ·rintro c st' ⟨rfl,rfl,hi,hs⟩
  have e:max 1 nrem=nrem:=by lia
  rw[e] at hs ⊢
  exact⟨rfl,nrem,rfl,h1,by lia,hs,λz=>by lia⟩
 ·rintro c st' ⟨rfl,m,rfl,m1,m2,hs,hl⟩
  dsimp only
  have same:RunQ n lt f lo p st' m st':=⟨p,(qeq ha).symm,.refl _,λ_ _=>rfl,hs⟩
  have I0:CrI n f lo p st' p st':=⟨(qeq ha).symm,.refl _,λ_ _=>rfl⟩
  by_cases hm:m=nrem
  ·rw[if_pos (beq_iff_eq.mpr hm)]
   exact wpS_pure (h m st' m1 m2 same)
  ·rw[if_neg (λe=>hm (eq_of_beq e))]
   have e0:=L.as _ _ (P.lt _ (by lia)) (P.lt _ (by lia)) (hl (by lia))
   by_cases hm1:m>1
   ·rw[if_pos hm1]
    refine wpS_bind (qdb hc hk P ha (by lia) (by lia) ?_)
    dsimp only
    cases e:lt (p.getD lo 0) (p.getD (lo+m-1) 0) with
   |true =>
     rw[if_pos rfl]
     exact wpS_pure (h m st' m1 m2 same)
   |false =>
     rw[if_neg (by simp)]
     refine wpS_bind (qj4 ha ?_)
     have irr:∀x,x<n->lt x x=false:=λx hx=>by
      cases z:lt x x with
     |false=>rfl
     |true=>rw[←z];exact L.as x x hx hx z
     have sle:∀i j,lo<=i->i<=j->j<lo+m->lt (p.getD j 0) (p.getD i 0)=false:=λi j a b c=>by
      by_cases z:i=j
      ·rw[z];exact irr _ (P.lt _ (by lia))
      ·exact hs i j a (by lia) c
     have al:EPl lt p lo (lo+m):=λi j a b c d =>
      L.tr _ _ _ (P.lt j (by lia)) (P.lt lo (by lia)) (P.lt i (by lia)) (L.tr _ _ _ (P.lt j (by lia)) (P.lt (lo+m-1) (by lia)) (P.lt lo (by lia)) (sle j (lo+m-1) c (by lia) (by lia)) e) (sle lo i (Nat.le_refl lo) a b)
     have hb:lo+m<=p.size:=by rw[P.sz];lia
     refine qkh hc L hk hp hn (I0.rev hb (Nat.le_refl lo)) m1 (by lia) (λi j a b c=>?_) h
     rw[qbo hb,qbo hb,if_pos (by lia)]
     by_cases ej:j=lo+m
     ·rw[if_neg (by lia),ej]
      exact L.tr _ _ _ (P.lt _ (by lia)) (P.lt (lo+m-1) (by lia)) (P.lt _ (by lia)) e0 (al _ _ (by lia) (by lia) (by lia) (by lia))
     ·rw[if_pos (by lia)]
      exact al _ _ (by lia) (by lia) (by lia) (by lia)
   ·rw[if_neg hm1]
    have:m=1:=by lia
    subst this
    refine qkh hc L hk hp hn I0 (Nat.le_refl 1) (by lia) (λi j a b c=>?_) h
    rw[show i=lo by lia,show j=lo+1 by lia]
    exact e0
theorem qgi{src d:Nat}(hs:src<p.size)(hd:d<=src)(k:Nat):(bubble p src d).getD k 0=if k=src-d then p.getD src 0 else if src-d<k/\k<=src then p.getD (k-1) 0 else p.getD k 0:=by
 rw[qcd,getElem?_bubble hs d hd k]
 by_cases h1:k=src-d
 ·rw[if_pos h1,if_pos h1,qcd]
 ·rw[if_neg h1,if_neg h1]
  by_cases h2:src-d<k/\k<=src
  ·rw[if_pos h2,if_pos h2,qcd]
  ·rw[if_neg h2,if_neg h2,qcd]
theorem qof{lo k l:Nat}(hz:lo+k<p.size)(hl:l<=k)(hs:SPl lt p lo k)(c:∀i,i<l->lt (p.getD (lo+k) 0) (p.getD (lo+i) 0)=false)(d:∀i,l<=i->i<k->lt (p.getD (lo+i) 0) (p.getD (lo+k) 0)=false) :
  SPl lt (bubble p (lo+k) (lo+k-(lo+l))) lo (k+1):=λi j h0 hi hj=>by
 have G:=qgi (p:=p) (src:=lo+k) (d:=lo+k-(lo+l)) hz (by lia)
 rw[G i,G j,show lo+k-(lo+k-(lo+l))=lo+l by lia]
 by_cases i1:i=lo+l
 ·rw[if_pos i1,if_neg (by lia),if_pos (by lia)]
  have:=d (j-1-lo) (by lia) (by lia)
  rw[show lo+(j-1-lo)=j-1 by lia] at this
  exact this
 ·rw[if_neg i1]
  by_cases j1:j=lo+l
  ·rw[if_pos j1,if_neg (by lia)]
   have:=c (i-lo) (by lia)
   rw[show lo+(i-lo)=i by lia] at this
   exact this
  ·rw[if_neg j1]
   by_cases i2:lo+l<i
   ·rw[if_pos (by lia),if_pos (by lia)]
    exact hs (i-1) (j-1) (by lia) (by lia) (by lia)
   ·rw[if_neg (show ¬ (lo+l<i/\i<=lo+k) by lia)]
    by_cases j2:lo+l<j
    ·rw[if_pos (by lia)]
     exact hs i (j-1) (by lia) (by lia) (by lia)
    ·rw[if_neg (by lia)]
     exact hs i j (by lia) hi (by lia)
theorem qzq(hc:Asks prog w A s κ f n lt)(L:LtOk n lt)(hk:kindOf st=κ)(hp:p.Perm (List.range n).toArray)(ha:arrOf st=p.map f){lo ok m:Nat}(h1:1<=ok)(hm:ok<=m)(hn:lo+m<=n)(hs:SPl lt p lo ok){Q:Bool->SortSt->Prop}
  (h:∀st',RunQ n lt f lo p st m st'->Q true st'):wpS (model prog w) A E s (binarySort' lo m ok) Q st:=by
 rw[binarySort'_eq]
 dsimp only
 have e1:max ok 1=ok:=by lia
 rw[e1]
 refine wpS_bind (wpS_forRange (λk c st'=>c=(none,())/\RunQ n lt f lo p st k st') ?_ ?_ ⟨rfl,p,(qeq ha).symm,.refl _,λ_ _=>rfl,hs⟩)
 ·rintro k c st' hk1 hk2 ⟨rfl,q,rfl,hq,bef,hs⟩
  have P:=PermOk.of (hq.trans hp)
  refine wpS_bind (wpS_mono (Q:=λc st'=>st'=setArr st (q.map f)/\∃l r,c=(none,l,r)/\l<=k/\(∀i,i<l->lt (q.getD (lo+k) 0) (q.getD (lo+i) 0)=false)/\(∀i,l<=i->i<k->lt (q.getD (lo+i) 0) (q.getD (lo+k) 0)=false))
   (wpS_forRange (λj c st'=>st'=setArr st (q.map f)/\∃l r,c=(none,l,r)/\l<=r/\r<=k/\r-l<=k-j/\(∀i,i<l->lt (q.getD (lo+k) 0) (q.getD (lo+i) 0)=false)/\(∀i,r<=i->i<k->lt (q.getD (lo+i) 0) (q.getD (lo+k) 0)=false)) ?_ ?_ ⟨rfl,0,k,rfl,by lia,by lia,by lia,λi hi=>by lia,λi h1 h2=>by lia⟩) ?_)
  ·rintro j c st' - hj ⟨rfl,l,r,rfl,a1,a2,a3,a4,a5⟩
   dsimp only
   by_cases hlr:l≥r
   ·rw[if_pos hlr]
    have:l=r:=by lia
    subst this
    exact wpS_pure ⟨rfl,_,_,rfl,a2,a4,a5⟩
   ·rw[if_neg hlr]
    refine wpS_bind (qdb (st:=setArr st (q.map f)) hc hk P rfl (by lia) (by lia) ?_)
    dsimp only
    cases e:lt (q.getD (lo+k) 0) (q.getD (lo+(l+r) / 2) 0) with
   |true =>
     rw[if_pos rfl]
     have e:=L.as _ _ (P.lt _ (by lia)) (P.lt _ (by lia)) e
     refine wpS_pure ⟨rfl,_,_,rfl,by lia,by lia,by lia,a4,λi b1 b2=>?_⟩
     by_cases z:i=(l+r) / 2
     ·rw[z];exact e
     ·exact L.tr _ _ _ (P.lt _ (by lia)) (P.lt _ (by lia)) (P.lt _ (by lia)) e (hs (lo+(l+r) / 2) (lo+i) (by lia) (by lia) (by lia))
   |false =>
     rw[if_neg (by simp)]
     have l1:=e
     refine wpS_pure ⟨rfl,_,_,rfl,by lia,by lia,by lia,λi b1=>?_,a5⟩
     by_cases z:i=(l+r) / 2
     ·rw[z];exact l1
     ·exact L.tr _ _ _ (P.lt _ (by lia)) (P.lt _ (by lia)) (P.lt _ (by lia)) (hs (lo+i) (lo+(l+r) / 2) (by lia) (by lia) (by lia)) l1
  ·rintro c st' ⟨rfl,l,r,rfl,a1,a2,a3,a4,a5⟩
   have:l=r:=by lia
   subst this
   exact⟨rfl,_,_,rfl,a2,a4,a5⟩
  ·rintro c st' ⟨rfl,l,r,rfl,a2,a4,a5⟩
   dsimp only
   refine wpS_bind (qu1 (st:=setArr st (q.map f)) rfl (wpS_pure ⟨rfl,_,rfl,(bubble_perm _ _ _).trans hq,λi hi=>?_,?_⟩))
   ·rw[qgi (by rw[P.sz];lia) (by lia),if_neg (by lia),if_neg (by lia)]
    exact bef i hi
   ·exact qof (by rw[P.sz];lia) a2 hs a4 a5
 ·rintro c st' ⟨rfl,hr⟩
  rw[show max ok m=m by lia] at hr
  exact wpS_pure (h st' hr)
end
end L2
namespace L2
open PySem PySem.W PyProof.Rows
theorem ql4(i:Nat):mergeAt' i=(do
 let s ←get
 let (some (sa,na,power),some (sb,nb,_)):=((pendingOf s)[i]?,(pendingOf s)[i+1]?)|unsupported "internal:list.sort.pending"
 set (setPending s (((pendingOf s).setIfInBounds i (sa,na+nb,power)).eraseIdxIfInBounds (i+1)))
 let some k ←qca false (←elem' (arrOf s) sb) (arrOf s) sa na 0|return false
 let (sa,na):=(sa+k,na-k)
 if na==0 then return true
 let some nb ←qca true (←elem' (arrOf s) (sa+na-1)) (arrOf s) sb nb (nb-1)|return false
 if nb==0 then return true
 let x:=(arrOf s).extract sa sb
 let y:=(arrOf s).extract sb (sb+nb)
 let merged ←if na<=nb then qix x y else qiw x y
 modify λs=>setArr s (merged.toList.zipIdx.foldl (λa (p,j)=>a.setIfInBounds (sa+j) p) (arrOf s))
 return (failedOf (←get)).isNone):=rfl
section
variable {prog:Program} {w:World} {A:Around} {E:Value->Shared->Prop} {s:Shared} {κ:SortKind} {f:Nat->Keyed} {n:Nat} {lt:Nat->Nat->Bool} {st:SortSt}
theorem qzg{M:Model}{σ:Type}{x st:σ}{Q:PUnit->σ->Prop}(h:Q ⟨⟩ x):wpS M A E s (set x:StateT σ Sem PUnit) Q st:=by
 unfold wpS;rw[StateT.run_set];exact wpAny_pure ⟨rfl,h⟩
def enc:Nat->List (List Nat×Nat)->List (Nat×Nat×Nat)
|_,[]=>[]
|k,(r,p)::t=>(k,r.length,p)::enc (k+r.length) t
def flat(rp:List (List Nat×Nat)):List Nat:=(rp.map (·.1)).flatten
theorem qf7(a b:List (List Nat×Nat)):flat (a++b)=flat a++flat b:=by simp[flat]
theorem qcu(r:List Nat)(p:Nat)(t:List (List Nat×Nat)):flat ((r,p)::t)=r++flat t:=by simp[flat]
theorem qfi:∀(a b:List (List Nat×Nat)) (k:Nat),enc k (a++b)=enc k a++enc (k+(flat a).length) b
|[],b,k=>by simp[enc,flat]
|(r,p)::t,b,k=>by
  rw[List.cons_append,enc,enc,qfi t b,qcu,List.length_append,Nat.add_assoc]
  rfl
theorem qio:∀(a:List (List Nat×Nat)) (k:Nat),(enc k a).length=a.length
|[],k=>rfl
|(r,p)::t,k=>by rw[enc,List.length_cons,qio t,List.length_cons]
structure RunsOk(n:Nat)(lt:Nat->Nat->Bool)(κ:SortKind)(f:Nat->Keyed)(rp:List (List Nat×Nat))(rest:List Nat)(st:SortSt):Prop where
 kd:kindOf st=κ
 arr:arrOf st=ar f (flat rp++rest)
 pd:pendingOf st=(enc 0 rp).toArray
 fl:failedOf st=none
 pm:(flat rp++rest).Perm (List.range n)
 up:∀r∈rp,Up lt r.1/\r.1≠[]
theorem qnh:∀(X Y P S:List Nat) (b k:Nat),Y.length=X.length->b+k=P.length ->
  ((Y.map f).zipIdx k).foldl (λa x=>a.setIfInBounds (b+x.snd) x.fst) (ar f (P++(X++S)))=ar f (P++(Y++S))
|[],[],P,S,b,k,_,_=>by simp
|x::X,[],P,S,b,k,h,_=>by simp at h
|[],y::Y,P,S,b,k,h,_=>by simp at h
|x::X,y::Y,P,S,b,k,h,hb=>by
  rw[List.map_cons,List.zipIdx_cons,List.foldl_cons]
  have e:(ar f (P++(x::X++S))).setIfInBounds (b+k) (f y)=ar f (P++[y]++(X++S)):=by
   rw[hb]
   simp[ar]
  show List.foldl _ ((ar f (P++(x::X++S))).setIfInBounds (b+k) (f y)) _=_
  rw[e,qnh X Y (P++[y]) S b (k+1) (by simpa using h) (by simp;lia)]
  simp
theorem qov(hc:Asks prog w A s κ f n lt)(L:LtOk n lt){pre post:List (List Nat×Nat)}{r1 r2:List Nat}{p1 p2:Nat}{rest:List Nat}(R:RunsOk n lt κ f (pre++(r1,p1)::(r2,p2)::post) rest st){i:Nat}(hi:i=pre.length){Q:Bool->SortSt->Prop}
  (h:∀r' st',RunsOk n lt κ f (pre++(r',p1)::post) rest st'->Q true st'):wpS (model prog w) A E s (mergeAt' i) Q st:=by
 obtain⟨kd,arr,pd,fl,pm,up⟩:=R
 obtain⟨u1,ne1⟩:=up (r1,p1) (by simp)
 obtain⟨u2,ne2⟩:=up (r2,p2) (by simp)
 have upp:∀r∈pre,Up lt r.1/\r.1≠[]:=λr hr=>up r (by simp[hr])
 have upq:∀r∈post,Up lt r.1/\r.1≠[]:=λr hr=>up r (by simp[hr])
 clear up
 dsimp only at u1 ne1 u2 ne2
 have eT:flat (pre++(r1,p1)::(r2,p2)::post)++rest=flat pre++(r1++(r2++(flat post++rest))):=by
  rw[qf7,qcu,qcu]
  simp
 rw[eT] at arr pm
 have eP:enc 0 (pre++(r1,p1)::(r2,p2)::post)=enc 0 pre++((flat pre).length,r1.length,p1)::((flat pre).length+r1.length,r2.length,p2)::enc ((flat pre).length+r1.length+r2.length) post:=by
  rw[qfi,enc,enc,Nat.zero_add]
 have eN:∀r':List Nat,r'.length=r1.length+r2.length->enc 0 (pre++(r',p1)::post)=enc 0 pre++((flat pre).length,r1.length+r2.length,p1)::enc ((flat pre).length+r1.length+r2.length) post:=λr' hr=>by
  rw[qfi,enc,Nat.zero_add,hr,Nat.add_assoc]
 have eF:∀r':List Nat,flat (pre++(r',p1)::post)++rest=flat pre++(r'++(flat post++rest)):=λr'=>by
  rw[qf7,qcu]
  simp
 rw[eP] at pd
 have hil:i=(enc 0 pre).length:=by rw[qio];exact hi
 generalize flat pre=L0 at arr pm pd eN eF
 generalize flat post++rest=L1 at arr pm eF
 have nd:(L0++(r1++(r2++L1))).Nodup:=pm.nodup_iff.mpr List.nodup_range
 have mem:∀x∈L0++(r1++(r2++L1)),x<n:=λx hx=>by simpa using pm.mem_iff.mp hx
 have m1:∀x∈r1,x<n:=λx hx=>mem x (by simp[hx])
 have m2:∀x∈r2,x<n:=λx hx=>mem x (by simp[hx])
 have dis:∀x∈r1,x∉r2:=λx hx hy=>by
  have:=(List.nodup_append.mp (List.nodup_append.mp nd).2.1).2.2 x hx x (List.mem_append_left _ hy)
  exact this rfl
 have fin:∀r' g,r'.Perm (r1++r2)->Up lt r'->RunsOk n lt κ f (pre++(r',p1)::post) rest (SortSt.mk' (kindOf st) (ar f (L0++(r'++L1))) (enc 0 pre++(L0.length,r1.length+r2.length,p1)::enc (L0.length+r1.length+r2.length) post).toArray g (failedOf st)):=λr' g hp hu=>{
  kd:=kd
  arr:=by rw[eF]
  pd:=by
   rw[eN r' (by rw[hp.length_eq];simp)]
  fl:=fl
  pm:=by
   rw[eF]
   refine List.Perm.trans ?_ pm
   rw[←List.append_assoc r1]
   exact(hp.append_right L1).append_left L0
  up:=λr hr=>by
   rcases List.mem_append.mp hr with hr|hr
   ·exact upp r hr
   ·rcases List.mem_cons.mp hr with rfl|hr
    ·exact⟨hu,λe=>by
      have hr':r'=[]:=e
      subst hr'
      exact ne1 (List.append_eq_nil_iff.mp hp.nil_eq.symm).1⟩
    ·exact upq r hr }
 rw[ql4]
 dsimp only
 refine wpS_bind (wpS_get ?_)
 have g1:(pendingOf st)[i]?=some (L0.length,r1.length,p1):=by rw[pd,hil];simp
 have g2:(pendingOf st)[i+1]?=some (L0.length+r1.length,r2.length,p2):=by rw[pd,hil];simp
 rw[g1,g2]
 dsimp only
 have pd2:((pendingOf st).setIfInBounds i (L0.length,r1.length+r2.length,p1)).eraseIdxIfInBounds (i+1)=(enc 0 pre++(L0.length,r1.length+r2.length,p1)::enc (L0.length+r1.length+r2.length) post).toArray:=by
  rw[pd,hil]
  simp[List.eraseIdx_append]
  intro h
  lia
 rw[pd2]
 refine wpS_bind (qzg (wpS_bind ?_))
 obtain⟨b0,r2',hb0⟩:∃b r,r2=b::r:=by
  cases r2 with
 |nil=>exact absurd rfl ne2
 |cons b r=>exact⟨b,r,rfl⟩
 have b0m:b0∈r2:=by rw[hb0];simp
 have kd2:∀ {pe:Array (Nat×Nat×Nat)},kindOf (setPending st pe)=κ:=kd
 rw[arr]
 refine qcq (x:=b0) (pre:=L0++r1) (post:=r2'++L1) (by rw[hb0];simp) (by simp) (wpS_bind ?_)
 refine qcc hc L kd2 m1 (m2 b0 b0m) u1 (List.length_pos_iff.mpr ne1) rfl rfl λl1 l2 el c1 _ _ c2=>?_
 have c2:=c2 rfl
 dsimp only
 have lr:r1.length=l1.length+l2.length:=by rw[el];simp
 have ul:=List.pairwise_append.mp (el▸u1)
 have low1:∀x∈l1,∀y∈r2,lt y x=false:=λx hx=>by
  rw[hb0]
  exact qhg L (m1 x (by rw[el];simp[hx])) (by rw[←hb0];exact m2) (hb0▸u2) (c1 x hx)
 by_cases hz:l2=[]
 ·rw[if_pos (by simp[lr,hz])]
  refine wpS_pure (h (r1++r2) _ ?_)
  have e:=fin (r1++r2) (gallopOf st) (.refl _) (List.pairwise_append.mpr ⟨u1,u2,λx hx y hy=>low1 x (by rw[el,hz] at hx;simpa using hx) y hy⟩)
  rw[List.append_assoc,←arr] at e
  exact e
 ·have l2p:1<=l2.length:=List.length_pos_iff.mpr hz
  rw[if_neg (λe=>by have:=eq_of_beq e;lia)]
  obtain⟨l2',z,ez⟩:=conc l2p
  have l2l:l2.length=l2'.length+1:=by rw[ez];simp
  have zm:z∈r1:=by rw[el,ez];simp
  have zl:z∈l2:=by rw[ez];simp
  refine wpS_bind (qcq (pre:=L0++l1++l2') (post:=r2++L1) (x:=z) (by rw[el,ez];simp) (by simp;lia) (wpS_bind ?_))
  rw[←List.append_assoc L0 r1]
  refine qcc hc L kd2 m2 (m1 z zm) u2 (by have:=List.length_pos_iff.mpr ne2;lia) (by simp) rfl λq1 q2 eq _ d2 d1 _=>?_
  have d1:=d1 rfl
  dsimp only
  have b0z:lt b0 z=true:=c2 z zl
  have bq:∃q1',q1=b0::q1':=by
   cases q1 with
  |nil =>
    exfalso
    have:lt b0 z=false:=d2 b0 (by rw[List.nil_append] at eq;rw[←eq];exact b0m)
    rw[this] at b0z
    cases b0z
  |cons u q1' =>
    rw[hb0] at eq
    exact⟨q1',by rw[(List.cons.inj eq).1]⟩
  obtain⟨q1',eq1⟩:=bq
  have q1p:1<=q1.length:=by rw[eq1];simp
  rw[if_neg (λe=>by have:=eq_of_beq e;lia)]
  have ex1:(ar f (L0++r1++(r2++L1))).extract (L0.length+l1.length) (L0.length+r1.length)=ar f l2:=by
   have:L0++r1++(r2++L1)=(L0++l1)++(l2++(r2++L1)):=by rw[el];simp
   rw[this]
   exact qge _ _ _ (by simp) (by simp;lia)
  have ex2:(ar f (L0++r1++(r2++L1))).extract (L0.length+r1.length) (L0.length+r1.length+q1.length)=ar f q1:=by
   have:L0++r1++(r2++L1)=(L0++r1)++(q1++(q2++L1)):=by rw[eq];simp
   rw[this]
   exact qge _ _ _ (by simp) (by simp)
  rw[ex1,ex2]
  have uq:=List.pairwise_append.mp (eq▸u2)
  have C:MgC n lt l2 q1:={
   L:=L
   ha:=λx hx=>m1 x (by rw[el];simp[hx])
   hb:=λx hx=>m2 x (by rw[eq];simp[hx])
   nd:=λx hx hy=>dis x (by rw[el];simp[hx]) (by rw[eq];simp[hy])
   ua:=ul.2.1
   ub:=uq.1 }
  have lowz:∀x∈l2,∀y∈q2,lt y x=false:=λx hx y hy=>by
   have ym:=m2 y (by rw[eq];simp[hy])
   exact qhh L ym (λv hv=>C.ha v (ez▸hv)) (ez▸ul.2.1) (d2 y hy) x (ez▸hx)
  have fin2:∀r g,MgQ lt f l2 q1 r->wpS (model prog w) A E s (do
    modify λs=>setArr s (List.foldl (λa x=>a.setIfInBounds (L0.length+l1.length+x.snd) x.fst) (arrOf s) r.toList.zipIdx)
    let __do_lift ←get
    pure (failedOf __do_lift).isNone) Q (qa8 (setPending st (enc 0 pre++(L0.length,r1.length+r2.length,p1)::enc (L0.length+r1.length+r2.length) post).toArray) g):=λr g hr=>by
   obtain⟨Y,rfl,hY,uY⟩:=hr
   refine wpS_bind (wpS_modify (wpS_bind (wpS_get (wpS_pure ?_))))
   have hfl:(failedOf st).isNone=true:=by rw[fl];rfl
   show Q (failedOf st).isNone _
   rw[hfl]
   refine h (l1++(Y++q2)) _ ?_
   have e:=fin (l1++(Y++q2)) g ?_ ?_
   ·have fs:=qnh (f:=f) (l2++q1) Y (L0++l1) (q2++L1) (L0.length+l1.length) 0 hY.length_eq (by simp)
    have ea:arrOf st=ar f (L0++l1++(l2++q1++(q2++L1))):=by rw[arr,el,eq];simp
    rw[←ea] at fs
    have eb:L0++l1++(Y++(q2++L1))=L0++(l1++(Y++q2)++L1):=by simp
    rw[eb] at fs
    rw[←fs] at e
    exact e
   ·rw[el,eq,List.append_assoc,←List.append_assoc l2]
    exact(hY.append_right q2).append_left l1
   ·refine List.pairwise_append.mpr ⟨ul.1,List.pairwise_append.mpr ⟨uY,uq.2.1,λx hx y hy=>?_⟩,λx hx y hy=>?_⟩
    ·rcases List.mem_append.mp (hY.mem_iff.mp hx) with hx|hx
     ·exact lowz x hx y hy
     ·exact uq.2.2 x hx y hy
    ·rcases List.mem_append.mp hy with hy|hy
     ·rcases List.mem_append.mp (hY.mem_iff.mp hy) with hy|hy
      ·exact ul.2.2 x hx y hy
      ·exact low1 x hx y (by rw[eq];simp[hy])
     ·exact low1 x hx y (by rw[eq];simp[hy])
  by_cases hle:r1.length-l1.length<=q1.length
  ·rw[if_pos hle]
   exact wpS_bind (qox hc C d1 ⟨l2',ez⟩ kd2 eq1 c2 fin2)
  ·rw[if_neg hle]
   exact wpS_bind (qow hc C c2 eq1 kd2 ez d1 fin2)
end
end L2
namespace L2
open PySem PySem.W PyProof.Rows
def qn6(size lo n:Nat):StateT SortSt Sem (ForInStep (Option Unit×Nat)):=do
 let g ←get
 match (pendingOf g).back? with
|some (s1,n1,_)=>do
  let r ←forIn [0:size] ((none,()):Option Unit×Unit) λ_ _=>do
   let g ←get
   match (if (pendingOf g).size>1 then (pendingOf g)[(pendingOf g).size-2]? else none) with
  |some (_,_,older) =>
    if older<=power' size (2*s1+n1) (2*s1+n1+n1+n) size then pure (.done (none,()))
    else do
     let b ←mergeAt' ((pendingOf g).size-2)
     if !b then pure (.done (some (),())) else pure (.yield (none,()))
  |_=>pure (.done (none,()))
  match r.fst with
 |some r=>pure (.done (some r,lo))
 |none=>do
   modify λs=>setPending s ((pendingOf s).modify ((pendingOf s).size-1) λx=>(x.fst,x.2.fst,power' size (2*s1+n1) (2*s1+n1+n1+n) size))
   modify λs=>setPending s ((pendingOf s).push (lo,n,0))
   pure (.yield (none,lo+n))
|_=>do
  modify λs=>setPending s ((pendingOf s).push (lo,n,0))
  pure (.yield (none,lo+n))
section
variable {prog:Program} {w:World} {A:Around} {E:Value->Shared->Prop} {s:Shared} {κ:SortKind} {f:Nat->Keyed} {n:Nat} {lt:Nat->Nat->Bool} {st:SortSt}
theorem qun{α:Type}{l:List α}{i:Nat}(h:i+1<l.length):∃pre a b post,l=pre++a::b::post/\i=pre.length:=by
 refine⟨l.take i,l[i],l[i+1],l.drop (i+2),?_,by simp;lia⟩
 rw[←List.drop_eq_getElem_cons h,←List.drop_eq_getElem_cons (by lia),List.take_append_drop]
theorem RunsOk.merge(hc:Asks prog w A s κ f n lt)(L:LtOk n lt){rp:List (List Nat×Nat)}{rest:List Nat}(R:RunsOk n lt κ f rp rest st){i:Nat}(hi:i+1<rp.length){Q:Bool->SortSt->Prop}
  (h:∀rp' st',RunsOk n lt κ f rp' rest st'->rp'.length+1=rp.length->Q true st'):wpS (model prog w) A E s (mergeAt' i) Q st:=by
 obtain⟨pre,⟨r1,p1⟩,⟨r2,p2⟩,post,rfl,e⟩:=qun hi
 exact qov hc L R e λr' st' R'=>h _ st' R' (by simp;lia)
theorem RunsOk.len{rp:List (List Nat×Nat)}{rest:List Nat}(R:RunsOk n lt κ f rp rest st):(flat rp).length+rest.length=n:=by
 have:=R.pm.length_eq
 simpa using this
theorem qg3{α:Type}(g:α->α)(x:α):∀a:List α,(a++[x]).modify a.length g=a++[g x]
|[]=>rfl
|y::a=>congrArg (y::·) (qg3 g x a)
theorem qz0(k:Nat)(pre:List (List Nat×Nat))(r:List Nat)(p pw:Nat):((enc k (pre++[(r,p)])).toArray.modify ((enc k (pre++[(r,p)])).toArray.size-1) λx=>(x.fst,x.2.fst,pw))=(enc k (pre++[(r,pw)])).toArray:=by
 rw[qfi,qfi,enc,enc,enc,enc]
 apply Array.ext'
 simp[qg3]
theorem RunsOk.push{rp:List (List Nat×Nat)}{r rest:List Nat}(R:RunsOk n lt κ f rp (r++rest) st)(u:Up lt r)(ne:r≠[]){lo m:Nat}(hlo:lo=(flat rp).length)(hm:m=r.length):RunsOk n lt κ f (rp++[(r,0)]) rest (setPending st ((pendingOf st).push (lo,m,0))) where
 kd:=R.kd
 arr:=by
  show arrOf st=_
  rw[R.arr,qf7,qcu]
  simp[flat]
 pd:=by
  show (pendingOf st).push (lo,m,0)=_
  rw[R.pd,qfi,enc,enc,hlo,hm]
  simp
 fl:=R.fl
 pm:=by
  have:=R.pm
  rw[qf7,qcu]
  simpa [flat] using this
 up:=λx hx=>by
  rcases List.mem_append.mp hx with hx|hx
  ·exact R.up x hx
  ·rw[List.mem_singleton.mp hx]
   exact⟨u,ne⟩
theorem RunsOk.power{pre:List (List Nat×Nat)}{r0 rest:List Nat}{p0 pw:Nat}(R:RunsOk n lt κ f (pre++[(r0,p0)]) rest st):RunsOk n lt κ f (pre++[(r0,pw)]) rest (setPending st ((pendingOf st).modify ((pendingOf st).size-1) λx=>(x.fst,x.2.fst,pw))) where
 kd:=R.kd
 arr:=by
  show arrOf st=_
  rw[R.arr]
  simp[flat]
 pd:=(congrArg (λz:Array (Nat×Nat×Nat)=>z.modify (z.size-1) λx=>(x.fst,x.2.fst,pw)) R.pd).trans (qz0 _ _ _ _ _)
 fl:=R.fl
 pm:=by
  have:=R.pm
  simpa [flat] using this
 up:=λx hx=>by
  rcases List.mem_append.mp hx with hx|hx
  ·exact R.up x (by simp[hx])
  ·rw[List.mem_singleton.mp hx]
   exact R.up (r0,p0) (by simp)
theorem qk1(hc:Asks prog w A s κ f n lt)(L:LtOk n lt){rp:List (List Nat×Nat)}{r rest:List Nat}(R:RunsOk n lt κ f rp (r++rest) st)(u:Up lt r)(ne:r≠[]){size lo m:Nat}(hlo:lo=(flat rp).length)(hm:m=r.length):wpS (model prog w) A E s (qn6 size lo m) (λr st'=>r=.yield (none,lo+m)/\∃rp',RunsOk n lt κ f rp' rest st') st:=by
 unfold qn6
 refine wpS_bind (wpS_get ?_)
 cases e:(pendingOf st).back? with
|none=>exact wpS_bind (wpS_modify (wpS_pure ⟨rfl,_,R.push u ne hlo hm⟩))
|some x =>
  obtain⟨s1,n1,p1⟩:=x
  dsimp only
  have ne0:rp≠[]:=λz=>by
   subst z
   rw[R.pd] at e
   simp[enc] at e
  refine wpS_bind (wpS_mono (Q:=λc st'=>c=(none,())/\∃rp',RunsOk n lt κ f rp' (r++rest) st'/\rp'≠[]) (wpS_forRange (λ_ c st'=>c=(none,())/\∃rp',RunsOk n lt κ f rp' (r++rest) st'/\rp'≠[]) ?_ (λc st' q=>q) ⟨rfl,rp,R,ne0⟩) ?_)
  ·rintro i c st' - - ⟨rfl,rp',R',ne'⟩
   refine wpS_bind (wpS_get ?_)
   have sz:(pendingOf st').size=rp'.length:=by rw[R'.pd,List.size_toArray,qio]
   by_cases h2:(pendingOf st').size>1
   ·rw[if_pos h2]
    cases e2:(pendingOf st')[(pendingOf st').size-2]? with
   |none=>exact wpS_pure ⟨rfl,rp',R',ne'⟩
   |some y =>
     obtain⟨a,b,older⟩:=y
     dsimp only
     split
     ·exact wpS_pure ⟨rfl,rp',R',ne'⟩
     ·refine wpS_bind (R'.merge hc L (by lia) λrp2 st2 R2 l2=>?_)
      rw[if_neg (by simp)]
      exact wpS_pure ⟨rfl,rp2,R2,λz=>by subst z;simp at l2;lia⟩
   ·rw[if_neg h2]
    exact wpS_pure ⟨rfl,rp',R',ne'⟩
  ·rintro c st' ⟨rfl,rp',R',ne'⟩
   dsimp only
   obtain⟨pre,⟨r0,p0⟩,rfl⟩:∃pre x,rp'=pre++[x]:=by
    rcases List.eq_nil_or_concat rp' with q|⟨l0,y,q⟩
    ·exact absurd q ne'
    ·exact⟨l0,y,by rw[q,List.concat_eq_append]⟩
   refine wpS_bind (wpS_modify (wpS_bind (wpS_modify (wpS_pure ⟨rfl,_,(R'.power).push u ne ?_ hm⟩))))
   have l1:=R.len
   have l2:=(R'.power (pw:=0)).len
   have l3:(flat (pre++[(r0,0)])).length=(flat (pre++[(r0,p0)])).length:=by simp[flat]
   have l4:∀pw,(flat (pre++[(r0,pw)])).length=(flat (pre++[(r0,0)])).length:=λpw=>by simp[flat]
   rw[l4]
   lia
theorem qkz{p:Array Nat}{F rest:List Nat}{lo m:Nat}{st':SortSt}(hp:p=(F++rest).toArray)(hlo:lo=F.length)(hm:lo+m<=(F++rest).length)(h:RunQ n lt f lo p st m st') :
  ∃r rest',st'=setArr st (ar f (F++(r++rest')))/\(F++(r++rest')).Perm (F++rest)/\r.length=m/\SPl lt (F++(r++rest')).toArray lo m/\Up lt r:=by
 obtain⟨q,rfl,hq,bef,hs⟩:=h
 have ql:q.toList.length=(F++rest).length:=by
  have:=hq.size_eq
  rw[hp,List.size_toArray] at this
  simpa using this
 have gd:∀i (hi:i<q.toList.length),q.getD i 0=q.toList[i]:=λi hi=>by
  have hz:i<q.size:=by simpa using hi
  rw[qcd]
  simp[hz]
 have hF:q.toList.take lo=F:=by
  apply List.ext_getElem
  ·rw[List.length_take,ql,List.length_append]
   lia
  ·intro i h1 h2
   have hi:i<q.toList.length:=by rw[ql,List.length_append];lia
   rw[List.getElem_take,←gd i hi,bef i (by lia),hp,qcd]
   simp[List.getElem?_append,h2]
 have e1:q.toList=F++((q.toList.drop lo).take m++(q.toList.drop lo).drop m):=by
  rw[List.take_append_drop,←hF]
  simp
 have len1:((q.toList.drop lo).take m).length=m:=by
  rw[List.length_take,List.length_drop,ql]
  lia
 refine⟨(q.toList.drop lo).take m,(q.toList.drop lo).drop m,?_,?_,len1,by rw[←e1];simpa using hs,?_⟩
 ·rw[←e1]
  exact congrArg (setArr st) (Array.ext' (by simp[ar]))
 ·rw[←e1]
  have:=hq.toList
  rw[hp] at this
  simpa using this
 ·rw[Up,List.pairwise_iff_getElem]
  intro i j hi hj hij
  rw[List.getElem_take,List.getElem_take,List.getElem_drop,List.getElem_drop]
  have:=hs (lo+i) (lo+j) (by lia) (by lia) (by lia)
  rw[gd _ (by rw[ql];lia),gd _ (by rw[ql];lia)] at this
  exact this
theorem qmx(l:List Nat):ar f l=l.toArray.map f:=by simp[ar]
theorem qul(hc:Asks prog w A s κ f n lt)(L:LtOk n lt)(h1:1<=n)(R:RunsOk n lt κ f [] (List.range n) st){Q:Unit->SortSt->Prop}
  (h:∀(q:List Nat) st',q.Perm (List.range n)->Up lt q->arrOf st'=ar f q->failedOf st'=none->Q () st'):wpS (model prog w) A E s sortRuns' Q st:=by
 rw[sortRuns'_eq]
 dsimp only
 refine wpS_bind (wpS_get ?_)
 have sz:(arrOf st).size=n:=by rw[R.arr,qb7];simp[flat]
 rw[sz]
 generalize minRun' n n 0=mr
 refine wpS_bind (wpS_mono (Q:=λc st'=>∃lo,c=(none,lo)/\∃rp,RunsOk n lt κ f rp [] st') (wpS_forRange (λk c st'=>∃lo,c=(none,lo)/\k<=lo/\∃rp rest,RunsOk n lt κ f rp rest st'/\lo=(flat rp).length) ?_ ?_ ⟨0,rfl,Nat.le_refl _,[],List.range n,R,rfl⟩) ?_)
 ·rintro k c st' - hk ⟨lo,rfl,hkl,rp,rest,R',hlo⟩
  have len:=R'.len
  by_cases hge:lo≥n
  ·rw[if_pos hge]
   have:rest=[]:=List.length_eq_zero_iff.mp (by lia)
   subst this
   exact wpS_pure ⟨lo,rfl,rp,R'⟩
  ·rw[if_neg hge]
   have hp0:((flat rp++rest).toArray).Perm (List.range n).toArray:=by
    have:=R'.pm
    exact List.Perm.toArray this
   have lenT:(flat rp++rest).length=n:=by rw[List.length_append];exact len
   refine wpS_bind (qsy hc L R'.kd hp0 (by rw[R'.arr,qmx]) (by lia) (by lia) λm st2 m1 m2 hr=>?_)
   obtain⟨r,rest',e2,pm2,rl,rs,ru⟩:=qkz rfl hlo (by lia) hr
   have R2:RunsOk n lt κ f rp (r++rest') st2:={
    kd:=by rw[e2];exact R'.kd
    arr:=by rw[e2]
    pd:=by rw[e2];exact R'.pd
    fl:=by rw[e2];exact R'.fl
    pm:=pm2.trans R'.pm
    up:=R'.up }
   dsimp only
   by_cases hmr:m<mr
   ·rw[if_pos hmr]
    refine wpS_bind (wpS_lift (wpAny_rule ⟨rfl,?_⟩))
    have len2:=R2.len
    have hp2:((flat rp++(r++rest')).toArray).Perm (List.range n).toArray:=List.Perm.toArray R2.pm
    refine wpS_bind (qzq hc L R2.kd hp2 (by rw[R2.arr,qmx]) m1 (by lia) (by lia) rs λst3 hr3=>?_)
    rw[if_neg (by simp)]
    obtain⟨r3,rest3,e3,pm3,rl3,-,ru3⟩:=qkz rfl hlo (by rw[List.length_append];lia) hr3
    have R3:RunsOk n lt κ f rp (r3++rest3) st3:={
     kd:=by rw[e3];exact R2.kd
     arr:=by rw[e3]
     pd:=by rw[e3];exact R2.pd
     fl:=by rw[e3];exact R2.fl
     pm:=pm3.trans R2.pm
     up:=R2.up }
    refine Eq.mp (congrArg (λz=>wpS (model prog w) A E s z _ _) ?eq) (wpS_mono (qk1 (size:=n) (E:=E) hc L R3 ru3 (λz=>by subst z;simp at rl3;lia) hlo rl3.symm) ?_)
    case eq =>
     unfold qn6
     refine congrArg (λz=>get >>= z) (funext λg=>?_)
     cases (pendingOf g).back? with
    |none=>rfl
    |some x =>
      obtain⟨a,b,c⟩:=x
      dsimp only
      refine congr (congrArg bind (congrArg (forIn [0:n] (none,())) (funext λi=>funext λj=>congrArg (λz=>get >>= z) (funext λg2=>?_)))) (funext λr=>?_)
      ·cases (if (pendingOf g2).size>1 then (pendingOf g2)[(pendingOf g2).size-2]? else none) with
      |none=>rfl
      |some y=>rfl
      ·obtain⟨r,_⟩:=r
       cases r<;>rfl
    rintro x st4 ⟨rfl,rp',R4⟩
    have l4:=R4.len
    have l3:=R3.len
    rw[List.length_append] at l3
    exact⟨_,rfl,by lia,rp',rest3,R4,by lia⟩
   ·rw[if_neg hmr]
    refine Eq.mp (congrArg (λz=>wpS (model prog w) A E s z _ _) ?eq) (wpS_mono (qk1 (size:=n) (E:=E) hc L R2 ru (λz=>by subst z;simp at rl;lia) hlo rl.symm) ?_)
    case eq =>
     unfold qn6
     refine congrArg (λz=>get >>= z) (funext λg=>?_)
     cases (pendingOf g).back? with
    |none=>rfl
    |some x =>
      obtain⟨a,b,c⟩:=x
      dsimp only
      refine congr (congrArg bind (congrArg (forIn [0:n] (none,())) (funext λi=>funext λj=>congrArg (λz=>get >>= z) (funext λg2=>?_)))) (funext λr=>?_)
      ·cases (if (pendingOf g2).size>1 then (pendingOf g2)[(pendingOf g2).size-2]? else none) with
      |none=>rfl
      |some y=>rfl
      ·obtain⟨r,_⟩:=r
       cases r<;>rfl
    rintro x st4 ⟨rfl,rp',R4⟩
    have l4:=R4.len
    have l3:=R2.len
    rw[List.length_append] at l3
    exact⟨_,rfl,by lia,rp',rest',R4,by lia⟩
 ·rintro c st' ⟨lo,rfl,hkl,rp,rest,R',hlo⟩
  have len:=R'.len
  have:rest=[]:=List.length_eq_zero_iff.mp (by lia)
  subst this
  exact⟨lo,rfl,rp,R'⟩
 ·rintro c st' ⟨lo,rfl,rp,R'⟩
  dsimp only
  have fin:∀rp st',RunsOk n lt κ f rp [] st'->rp.length<=1->Q () st':=λrp st' R' hl=>by
   have len:=R'.len
   cases rp with
  |nil=>simp[flat] at len;lia
  |cons x t =>
    have:t=[]:=by simpa using hl
    subst this
    obtain⟨r,p⟩:=x
    have e:flat [(r,p)]++[]=r:=by simp[flat]
    refine h r st' (by have:=R'.pm;rw[e] at this;exact this) (R'.up (r,p) (by simp)).1 (by have:=R'.arr;rw[e] at this;exact this) R'.fl
  have many:∀rp:List (List Nat×Nat),(∀r∈rp,r.1≠[])->rp.length<=(flat rp).length:=λrp=>by
   induction rp with
  |nil=>intro _;simp
  |cons x t ih =>
    intro hx
    obtain⟨r,p⟩:=x
    have:=ih λr hr=>hx r (by simp[hr])
    have r1:1<=r.length:=List.length_pos_iff.mpr (hx (r,p) (by simp))
    rw[qcu,List.length_append,List.length_cons]
    lia
  refine wpS_bind (wpS_forRange (λk c st'=>c=(none,())/\∃rp,RunsOk n lt κ f rp [] st'/\rp.length+k<=n) ?_ ?_ ⟨rfl,rp,R',by have:=many rp λr hr=>(R'.up r hr).2;have:=R'.len;simp at this;lia⟩)
  ·rintro k c st' - hk ⟨rfl,rp,R',hl⟩
   refine wpS_bind (wpS_get ?_)
   have sz:(pendingOf st').size=rp.length:=by rw[R'.pd,List.size_toArray,qio]
   by_cases h2:(pendingOf st').size<=1
   ·rw[if_pos h2]
    exact wpS_pure (wpS_pure (fin rp st' R' (by lia)))
   ·rw[if_neg h2]
    refine wpS_bind ?_
    have key:∀i,i+1<rp.length->wpS (model prog w) A E s (mergeAt' i) (λb st2=>b=true/\∃rp,RunsOk n lt κ f rp [] st2/\rp.length+(k+1)<=n) st':=λi hi=>R'.merge hc L hi λrp2 st2 R2 l2=>⟨rfl,rp2,R2,by lia⟩
    refine wpS_mono (key _ (by split<;>lia)) ?_
    rintro b st2 ⟨rfl,hq⟩
    rw[if_neg (by simp)]
    exact wpS_pure ⟨rfl,hq⟩
  ·rintro c st' ⟨rfl,rp,R',hl⟩
   exact wpS_pure (fin rp st' R' (by lia))
end
end L2
namespace L2
open PySem PySem.Spec PyProof.Rows PySem.W
def LtA(A:Around)(s:Shared)(x y:Value)(c:Bool):Prop:=∀(prog:Program) (w:World) (E:Value->Shared->Prop) (Q:Value->Shared->Prop),Q (.bool c) s->wpAny (model prog w) A (richCompare .Lt x y) Q E s
def LtC(A:Around)(s:Shared)(p q:Addr)(c:Bool):Prop:=∀(prog:Program) (w:World) (E:Value->Shared->Prop) (Q:Value->Shared->Prop),Q (.bool c) s->wpAny (model prog w) A (call (.builtin "tuple.__lt__") [.ref p,.ref q]) Q E s
def lexV(e l:Nat->Bool)(z:Bool):Nat->Nat->Bool
|0,_=>z
|k+1,i=>if e i=true then lexV e l z k (i+1) else l i
theorem qwd(p q:Addr)(us ws:Array Value)(m k:Nat)(dp dq:Option Addr)(sp sq:Array (Option Value))(e c:Nat->Bool) :
  Meets (Builtin.«tuple.__lt__» ⟨[.ref p,.ref q],[]⟩)
   (λA R s=>s.heap.get? p=some { cls:=.type "tuple",dict:=dp,data:=.seq us m,slots:=sp }/\s.heap.get? q=some { cls:=.type "tuple",dict:=dq,data:=.seq ws k,slots:=sq } /\
    (∀j (h1:j<us.size) (h2:j<ws.size),SeqAt.EqAt A.in1 s us[j] ws[j] (e j))/\(∀j (h1:j<us.size) (h2:j<ws.size),e j=false->LtA A.in1 s us[j] ws[j] (c j)) /\
    R (.ok (.ret (.bool (lexV e c (decide (us.size<ws.size)) (min us.size ws.size) 0)))) s) :=
 .of_wp λprog w A R s h=>by
  obtain⟨h1,g1,d1,t1,o1⟩:=s
  obtain⟨hl,hb,he,hc,hR0⟩:=h
  have f2:=AutoSeq1.sub_tuple_tuple
  have hZ:(us.toList.zip ws.toList).length=min us.size ws.size:=by simp
  wp_walk using wpAny_loadPart' hl,wpAny_loadPart' hb,wpAny_forIn_list _ (λrest b s'=>b.1=none/\s'=⟨h1,g1,d1,t1,o1⟩/\∃i k,i+k=min us.size ws.size/\rest=(us.toList.zip ws.toList).drop i /\
   R (.ok (.ret (.bool (lexV e c (decide (us.size<ws.size)) k i)))) ⟨h1,g1,d1,t1,o1⟩) _
  case turn =>
   rintro⟨y,x⟩ rest b s' ⟨hb',rfl,i,k,hik,hz,hR⟩
   have hm:i<(us.toList.zip ws.toList).length:=by
    apply Nat.lt_of_not_le
    intro z
    rw[List.drop_of_length_le z] at hz
    cases hz
   have l1:i<us.size:=by lia
   have l2:i<ws.size:=by lia
   rw[List.drop_eq_getElem_cons hm] at hz
   injection hz with hyx hrest
   obtain rfl:y=us[i]:=by simpa using congrArg Prod.fst hyx
   obtain rfl:x=ws[i]:=by simpa using congrArg Prod.snd hyx
   obtain⟨k,rfl⟩:∃k',k=k'+1:=⟨k-1,by lia⟩
   have hR':R (.ok (.ret (.bool (if e i=true then lexV e c (decide (us.size<ws.size)) k (i+1) else c i)))) ⟨h1,g1,d1,t1,o1⟩:=hR
   refine wpAny_bind (he i l1 l2 prog w _ _ ?_)
   cases hy:e i with
  |true =>
    rw[hy,if_pos rfl] at hR'
    wp_walk
    exact⟨rfl,rfl,i+1,k,by lia,hrest,hR'⟩
  |false =>
    rw[hy,if_neg (by decide)] at hR'
    simp only[Bool.not_false,if_true]
    refine wpAny_bind (wpAny_rule (wpAny_bind (hc i l1 l2 hy prog w _ _ ?_)))
    wp_walk
    exact⟨_,rfl,hR'⟩
  case fin =>
   rintro⟨b1,b2⟩ s' ⟨hb',rfl,i,k,hik,hz,hR⟩
   simp only at hb'
   subst hb'
   have hk:k=0:=by
    rcases Nat.lt_or_ge i (us.toList.zip ws.toList).length with z|z
    ·rw[List.drop_eq_getElem_cons z] at hz;cases hz
    ·lia
   subst hk
   wp_walk
   exact⟨_,rfl,by simpa [Builtin.Tuple.tupleCompareSizes,lexV] using hR⟩
  case h =>
   exact⟨rfl,rfl,0,_,Nat.zero_add _,rfl,hR0⟩
section
variable {A:Around} {s:Shared} {p q:Addr} {us ws:Array Value} {e c:Nat->Bool}
theorem LtA.tups(hp:s.heap.IsTuple p us)(hq:s.heap.IsTuple q ws)(hu:A.units<cLine)(he:∀j (h1:j<us.size) (h2:j<ws.size),SeqAt.EqAt A.in1 s us[j] ws[j] (e j))
  (hc:∀j (h1:j<us.size) (h2:j<ws.size),e j=false->LtA A.in1 s us[j] ws[j] (c j)):LtA A s (.ref p) (.ref q) (lexV e c (decide (us.size<ws.size)) (min us.size ws.size) 0)/\LtC A s p q (lexV e c (decide (us.size<ws.size)) (min us.size ws.size) 0):=by
 obtain⟨⟨cl1,dp,da1,sp⟩,o1,z1,m,y1⟩:=id hp
 obtain⟨⟨cl2,dq,da2,sq⟩,o2,z2,k,y2⟩:=id hq
 cases z1;cases y1;cases z2;cases y2
 refine⟨λprog w E Q h=>?_,λprog w E Q h=>call_meets F.slot_tuple_lt ⟨_,o1,rfl⟩ F.entry_tuple_lt (F.args_tuple_lt_2 _ _) (qwd p q us ws m k dp dq sp sq e c) ⟨o1,o2,he,hc,h⟩⟩
 exact richCompare_meets_room (op:=.Lt) ⟨_,o1,rfl⟩ ⟨_,o2,rfl⟩ F.slot_tuple_lt F.entry_tuple_lt (F.args_tuple_lt_2 _ _) (qwd p q us ws m k dp dq sp sq e c) ⟨o1,o2,he,hc,(λx=>nomatch x),h⟩ hu
theorem LtA.strs{a b:Str}{t u:Tok}:LtA A s (.str a t) (.str b u) (decide (a.cps.toList<b.cps.toList)):=λprog w E Q h=>by
 refine wpAny_richCompare_same_or (typeIs_str s a t) (typeIs_str s b u) slot_str_lt (call_str_lt (Q:=λv s'=>v≠.notImplemented/\Q v s') ⟨(λx=>nomatch x),h⟩) (.inl rfl)
end
mutual
noncomputable def ltD:D->D->Bool
|.str a,.str b=>decide (a.cps.toList<b.cps.toList)
|.tup ds,.tup es=>ltDs ds es
|_,_=>false
noncomputable def ltDs:List D->List D->Bool
|[],[]=>false
|[],_::_=>true
|_::_,[]=>false
|d::ds,e::es=>if eqD d e=true then ltDs ds es else ltD d e
end
mutual
def ordD:D->D->Bool
|.str _,.str _=>true
|.tup ds,.tup es=>qc8 ds es
|_,_=>false
def qc8:List D->List D->Bool
|d::ds,e::es=>ordD d e&&qc8 ds es
|_,_=>true
end
mutual
theorem qrj:∀(d e:D),ordD d e=true->cmpD d e=true
|.str _,e,h=>by
  cases e<;>first|rfl|(unfold ordD at h;cases h)
|.tup ds,e,h=>by
  cases e<;>first|(unfold ordD at h;cases h;done)|skip
  rename_i es
  unfold ordD at h
  unfold cmpD
  exact qi3 ds es h
|.non,e,h=>by unfold ordD at h;cases h
|.bl _,e,h=>by unfold ordD at h;cases h
|.int _,e,h=>by unfold ordD at h;cases h
|.lst _,e,h=>by unfold ordD at h;cases h
|.dT _ _,e,h=>by unfold ordD at h;cases h
|.dK _ _,e,h=>by unfold ordD at h;cases h
|.scr _,e,h=>by unfold ordD at h;cases h
|.kt _,e,h=>by unfold ordD at h;cases h
|.exc _,e,h=>by unfold ordD at h;cases h
theorem qi3:∀(ds es:List D),qc8 ds es=true->qb2 ds es=true
|[],_,_=>by unfold qb2;rfl
|_::_,[],_=>by unfold qb2;rfl
|d::ds,e::es,h=>by
  unfold qc8 at h
  rw[Bool.and_eq_true] at h
  unfold qb2
  rw[qrj d e h.1,qi3 ds es h.2]
  rfl
end
theorem qnz:∀ {ds es:List D} {j:Nat} {d e:D},qc8 ds es=true->ds[j]?=some d->es[j]?=some e->ordD d e=true
|[],_,j,_,_,_,q,_=>by simp at q
|_::_,[],j,_,_,_,_,q=>by simp at q
|d::ds,e::es,0,_,_,h,q1,q2=>by
  unfold qc8 at h
  rw[Bool.and_eq_true] at h
  simp at q1 q2
  rw[←q1,←q2]
  exact h.1
|d::ds,e::es,j+1,_,_,h,q1,q2=>by
  unfold qc8 at h
  rw[Bool.and_eq_true] at h
  exact qnz h.2 (by simpa using q1) (by simpa using q2)
theorem qh4(e l:Nat->Bool)(z:Bool):∀k i,lexV e l z k (i+1)=lexV (λj=>e (j+1)) (λj=>l (j+1)) z k i
|0,_=>rfl
|k+1,i=>by
  show (if e (i+1)=true then lexV e l z k (i+1+1) else l (i+1))=if e (i+1)=true then lexV (λj=>e (j+1)) (λj=>l (j+1)) z k (i+1) else l (i+1)
  rw[qh4 e l z k (i+1)]
theorem qvk:∀ds es:List D,lexV (λj=>eqD (ds.getD j .non) (es.getD j .non)) (λj=>ltD (ds.getD j .non) (es.getD j .non)) (decide (ds.length<es.length)) (min ds.length es.length) 0=ltDs ds es
|[],[]=>by unfold ltDs;rfl
|[],_::_=>by unfold ltDs;simp[lexV]
|_::_,[]=>by unfold ltDs;simp[lexV]
|d::ds,e::es=>by
  have ih:=qvk ds es
  rw[List.length_cons,List.length_cons,Nat.add_min_add_right]
  show (if eqD d e=true then lexV _ _ _ (min ds.length es.length) (0+1) else ltD d e)=_
  rw[qh4]
  unfold ltDs
  have ed:decide (ds.length+1<es.length+1)=decide (ds.length<es.length):=decide_eq_decide.mpr (by lia)
  rw[ed]
  have h2:lexV (λj=>eqD ((d::ds).getD (j+1) .non) ((e::es).getD (j+1) .non)) (λj=>ltD ((d::ds).getD (j+1) .non) ((e::es).getD (j+1) .non)) (decide (ds.length<es.length)) (min ds.length es.length) 0=ltDs ds es:=ih
  rw[h2]
section
variable {X:Cx} {pins:List (Addr×Obj)} {σ:St} {H:Hp} {s:Shared}
theorem qvl{A:Around}(I:Inv X pins σ H s){a b:Addr}{ds es:List D}{xs ys:List V}(ha:SqT X.K H a xs)(hb:SqT X.K H b ys)(r1:Reps X.K H ds xs)(r2:Reps X.K H es ys)(ho:qc8 ds es=true)(hu:A.units+qbt ds+1<cLine)
  (ih:∀d∈ds,∀(e:D) (v z:V) (u w:Value),Rep X.K H d v->Rep X.K H e z->RelV v u->RelV z w->ordD d e=true->LtA A.in1 s u w (ltD d e)):LtA A s (.ref a) (.ref b) (ltDs ds es)/\LtC A s a b (ltDs ds es):=by
 obtain⟨its,v1,p1,_⟩:=I.tuple ha
 obtain⟨its2,v2,p2,_⟩:=I.tuple hb
 have hc:=qi3 ds es ho
 have ihe:∀d∈ds,∀(e:D) (v z:V) (u w:Value),Rep X.K H d v->Rep X.K H e z->RelV v u->RelV z w->cmpD d e=true->SeqAt.EqAt A.in1 s u w (eqD d e):=λd hd e v z u w h1 h2 h3 h4 h5 =>
  qf0 I _ A.in1 d e v z u w (Nat.le_refl _) h1 h2 h3 h4 h5 (by have:=qcg hd;have un:A.in1.units=A.units+1:=rfl;lia)
 have:=LtA.tups (A:=A) (s:=s) (e:=λj=>eqD (ds.getD j .non) (es.getD j .non)) (c:=λj=>ltD (ds.getD j .non) (es.getD j .non)) (show s.heap.IsTuple a its.toArray from p1) (show s.heap.IsTuple b its2.toArray from p2) (by lia) (qgq r1 r2 v1 v2 hc ihe) ?_
 ·rw[List.size_toArray,List.size_toArray,←v1.length,←v2.length,←r1.length,←r2.length,qvk] at this
  exact this
 ·intro j h1 h2 _
  have l1:j<ds.length:=by rw[r1.length,v1.length];simpa using h1
  have l2:j<es.length:=by rw[r2.length,v2.length];simpa using h2
  obtain⟨x,qx,rx⟩:=r1.at (List.getElem?_eq_getElem l1)
  obtain⟨y,qy,ry⟩:=r2.at (List.getElem?_eq_getElem l2)
  obtain⟨ux,e1,rux⟩:=v1.get qx
  obtain⟨uy,e2,ruy⟩:=v2.get qy
  have e1':its.toArray[j]=ux:=by
   have z:its[j]?=some its.toArray[j]:=by simp
   rw[e1] at z
   exact(Option.some.inj z).symm
  have e2':its2.toArray[j]=uy:=by
   have z:its2[j]?=some its2.toArray[j]:=by simp
   rw[e2] at z
   exact(Option.some.inj z).symm
  have e3:ds.getD j .non=ds[j]:=by simp[List.getD_eq_getElem?_getD,l1]
  have e4:es.getD j .non=es[j]:=by simp[List.getD_eq_getElem?_getD,l2]
  rw[e1',e2',e3,e4]
  exact ih ds[j] (List.getElem_mem l1) es[j] x y ux uy rx ry rux ruy (qnz ho (List.getElem?_eq_getElem l1) (List.getElem?_eq_getElem l2))
theorem qq6(I:Inv X pins σ H s):∀(n:Nat) (A:Around) (d e:D) (v z:V) (u w:Value),sizeOf d<=n->Rep X.K H d v->Rep X.K H e z->RelV v u->RelV z w->ordD d e=true->A.units+depD d<cLine->LtA A s u w (ltD d e)
|0,_,d,_,_,_,_,_,hn,_,_,_,_,_,_=>by cases d<;>simp at hn
|n+1,A,d,e,v,z,u,w,hn,hd,he,ru,rw',ho,hu=>by
  have un:A.in1.units=A.units+1:=rfl
  cases d with
 |str a =>
   cases e with
  |str b =>
    unfold Rep at hd he
    subst hd he
    obtain⟨t1,rfl⟩:=ru
    obtain⟨t2,rfl⟩:=rw'
    unfold ltD
    exact LtA.strs
  |_=>unfold ordD at ho;cases ho
 |tup ds =>
   cases e with
  |tup es =>
    unfold Rep at hd he
    obtain⟨a,xs,rfl,ha,r1⟩:=hd
    obtain⟨b,ys,rfl,hb,r2⟩:=he
    cases ru
    cases rw'
    unfold ordD at ho
    unfold ltD
    unfold depD at hu
    refine(qvl I ha.sq hb.sq r1 r2 ho (by lia) λd hd e v z u w h1 h2 h3 h4 h5=>qq6 I n A.in1 d e v z u w ?_ h1 h2 h3 h4 h5 ?_).1
    ·have:=List.sizeOf_lt_of_mem hd
     simp at hn
     lia
    ·have:=qcg hd
     lia
  |_=>unfold ordD at ho;cases ho
 |_=>unfold ordD at ho;cases ho
end
end L2
namespace L2
open PySem PySem.Spec PyProof.Rows PySem.W
section
variable {X:Cx} {pins:List (Addr×Obj)} {σ:St} {H:Hp} {s:Shared} {E:Value->Shared->Prop}
theorem qmb(I:Inv X pins σ H s){A:Around}(c:Bool){d e:D}{v z:V}{u w:Value}{Q:Bool->Shared->Prop}(hd:Rep X.K H d v)(he:Rep X.K H e z)(ru:RelV v u)(rw':RelV z w)(ho:ordD d e=true)(hu:A.units+depD d+1<cLine)(h:Q (ltD d e) s) :
  wpAny (model X.prog X.w) A (oneLt' c u w) Q E s:=by
 have L:=qq6 I _ A d e v z u w (Nat.le_refl _) hd he ru rw' ho (by lia)
 cases c with
|false=>exact kat_one u w (L X.prog X.w E (PySem.W.BoolBack Q) h)
|true =>
  cases d with
 |str a =>
   cases e with
  |str b =>
    unfold Rep at hd he
    subst hd he
    obtain⟨t1,rfl⟩:=ru
    obtain⟨t2,rfl⟩:=rw'
    unfold ltD at h
    exact oneLt_str h
  |_=>unfold ordD at ho;cases ho
 |tup ds =>
   cases e with
  |tup es =>
    unfold Rep at hd he
    obtain⟨a,xs,rfl,ha,r1⟩:=hd
    obtain⟨b,ys,rfl,hb,r2⟩:=he
    cases ru
    cases rw'
    unfold ordD at ho
    unfold ltD at h
    unfold depD at hu
    have C:=(qvl (A:=A) I ha.sq hb.sq r1 r2 ho (by lia) λd hd e v z u w h1 h2 h3 h4 h5=>qq6 I _ A.in1 d e v z u w (Nat.le_refl _) h1 h2 h3 h4 h5 (by have:=qcg hd;have un:A.in1.units=A.units+1:=rfl;lia)).2
    obtain⟨its,_,pl,_⟩:=I.tuple ha.sq
    rw[oneLt'_eq]
    simp only[if_true]
    refine wpAny_bind (wpAny_cRoomFor (by lia) (wpAny_bind (wpAny_callSpecialIfBound?_slot pl.typeIs F.slot_tuple_lt (C X.prog X.w _ _ ?_))))
    exact wpAny_truthy_bool h
  |_=>unfold ordD at ho;cases ho
 |_=>unfold ordD at ho;cases ho
theorem q0h(I:Inv X pins σ H s){A:Around}{b z:Bool}{Q:Bool->Shared->Prop}:∀(ds es:List D) (xs ys:List V) (us ws:List Value) (i:Nat),Reps X.K H ds xs->Reps X.K H es ys->Vals xs us->Vals ys ws->qc8 ds es=true->A.units+qbt ds+1<cLine->decide (ds.length<es.length)=z->Q (ltDs ds es) s ->
  KatLex X.prog X.w A b z Q (us.zip ws) i s
|[],es,xs,ys,us,ws,i,r1,r2,v1,v2,ho,hu,hz,h=>by
  have e1:=r1.length
  have e2:=v1.length
  have:us=[]:=List.length_eq_zero_iff.mp (by rw[←e2,←e1];rfl)
  subst this
  rw[List.zip_nil_left]
  refine kat_nil ?_
  cases es with
 |nil=>unfold ltDs at h;rw[←hz];exact h
 |cons e es=>unfold ltDs at h;rw[←hz];simpa using h
|d::ds,[],xs,ys,us,ws,i,r1,r2,v1,v2,ho,hu,hz,h=>by
  have e1:=r2.length
  have e2:=v2.length
  have:ws=[]:=List.length_eq_zero_iff.mp (by rw[←e2,←e1];rfl)
  subst this
  rw[List.zip_nil_right]
  refine kat_nil ?_
  unfold ltDs at h
  rw[←hz]
  simpa using h
|d::ds,e::es,xs,ys,us,ws,i,r1,r2,v1,v2,ho,hu,hz,h=>by
  unfold Reps at r1 r2
  obtain⟨x,xs,rfl,rx,r1⟩:=r1
  obtain⟨y,ys,rfl,ry,r2⟩:=r2
  cases v1 with
 |cons ru v1 =>
  cases v2 with
 |cons rw' v2 =>
  rename_i u us w ws
  unfold qc8 at ho
  rw[Bool.and_eq_true] at ho
  have hd1:depD d<=qbt (d::ds):=qcg (List.mem_cons_self ..)
  have hd2:qbt ds<=qbt (d::ds):=by show _<=max (depD d) (qbt ds);lia
  show KatLex X.prog X.w A b z Q ((u,w)::us.zip ws) i s
  refine kat_cons (qf0 I _ A d e x y u w (Nat.le_refl _) rx ry ru rw' (qrj d e ho.1) (by lia) X.prog X.w _ _ ?_)
  unfold ltDs at h
  cases he:eqD d e with
 |true =>
   rw[he,if_pos rfl] at h
   refine kat_yes (q0h I ds es xs ys us ws (i+1) r1 r2 v1 v2 ho.2 (by lia) ?_ h)
   rw[←hz,List.length_cons,List.length_cons]
   exact decide_eq_decide.mpr (by lia)
 |false =>
   rw[he,if_neg (by decide)] at h
   exact kat_no (qmb I _ rx ry ru rw' ho.1 (by lia) h)
theorem qxb(I:Inv X pins σ H s){A:Around}(κ:SortKind){ds es:List D}{v z:V}{u w:Value}{Q:Bool->Shared->Prop}(hd:Rep X.K H (.tup ds) v)(he:Rep X.K H (.tup es) z)(ru:RelV v u)(rw':RelV z w)(ho:qc8 ds es=true)(hu:A.units+qbt ds+2<cLine)(h:Q (ltDs ds es) s) :
  wpAny (model X.prog X.w) A (keyLt' κ u w) Q E s:=by
 have hl:ltD (.tup ds) (.tup es)=ltDs ds es:=by unfold ltD;rfl
 have ho':ordD (.tup ds) (.tup es)=true:=by unfold ordD;exact ho
 have hdp:depD (.tup ds)=qbt ds+1:=by unfold depD;rfl
 have one:∀c,wpAny (model X.prog X.w) A (oneLt' c u w) Q E s:=λc=>qmb I c hd he ru rw' ho' (by lia) (by rw[hl];exact h)
 cases κ with
|general=>exact one false
|oneType=>exact one true
|tuples b =>
  unfold Rep at hd he
  obtain⟨a,xs,rfl,ha,r1⟩:=hd
  obtain⟨c,ys,rfl,hb,r2⟩:=he
  cases ru
  cases rw'
  obtain⟨its,v1,p1,_⟩:=I.tuple ha.sq
  obtain⟨its2,v2,p2,_⟩:=I.tuple hb.sq
  obtain⟨o1,q1,_,n1,y1⟩:=id p1
  obtain⟨o2,q2,_,n2,y2⟩:=id p2
  refine kat_lt q1 y1 q2 y2 ?_
  refine q0h I ds es xs ys _ _ 0 r1 r2 v1 v2 ho (by lia) ?_ h
  rw[r1.length,r2.length,v1.length,v2.length]
  simp
end
end L2
namespace L2
open PySem PySem.Spec PyProof.Rows PySem.W
section
variable {M:Model} {A:Around} {E:Value->Shared->Prop} {s:Shared}
theorem qiu{α β:Type}{f:α->Sem β}{P:β->Prop}:∀(l:List α) {Q:List β->Shared->Prop},(∀v∈l,∀(Q':β->Shared->Prop),(∀r,P r->Q' r s)->wpAny M A (f v) Q' E s)->(∀rs,(∀r∈rs,P r)->Q rs s)->wpAny M A (l.mapM f) Q E s
|[],_,_,h=>by rw[List.mapM_nil];exact wpAny_pure (h [] (by simp))
|x::l,Q,hf,h=>by
  rw[List.mapM_cons]
  refine wpAny_bind (hf x (List.mem_cons_self ..) _ λr hr=>wpAny_bind (qiu l (λv hv=>hf v (List.mem_cons_of_mem _ hv)) λrs hrs=>wpAny_pure (h _ λy hy=>?_)))
  rcases List.mem_cons.mp hy with rfl|hy
  ·exact hr
  ·exact hrs y hy
def TyOk(h:Heap)(u:Value):Prop:=∃T,∀M:Model,Looks M h (typeOf u) T
theorem qg4{vs:Array Value}{Q:Option Value->Shared->Prop}(ht:∀u∈vs.toList,TyOk s.heap u)(h:∀r,Q r s):wpAny M A (oneTypeOnly' vs) Q E s:=by
 rw[oneTypeOnly'_eq]
 obtain⟨vs⟩:=vs
 rw[List.mapM_toArray,map_eq_pure_bind]
 refine wpAny_bind (wpAny_bind (qiu (P:=λ_=>True) vs (λv hv Q' hq=>?_) λrs _=>wpAny_pure ?_))
 ·obtain⟨T,hT⟩:=ht v hv
  exact(hT M).here (hq T trivial)
 ·cases rs.toArray[0]? with
 |none=>exact wpAny_pure (h _)
 |some t=>exact wpAny_pure (h _)
theorem kind_any{vs:List Value}{Q:SortKind->Shared->Prop}(ht:∀v∈vs,∃(a:Addr) (o:Obj) (us:Array Value) (n:Nat),v=.ref a/\s.heap.get? a=some o/\o.cls=.type "tuple" /\ o.data=.seq us n/\∀f,us[0]?=some f->TyOk s.heap f)(h:∀κ,Q κ s):wpAny M A (keyKind' vs.toArray) Q E s:=by
 have tr:∀(a:Addr) (o:Obj),s.heap.get? a=some o->∀M:Model,Looks M s.heap (typeOf (.ref a)) o.cls:=λa o ho M=>(Looks.ld ho).andThen .now
 rw[keyKind'_eq,List.mapM_toArray,map_eq_pure_bind]
 refine wpAny_bind (wpAny_bind (qiu (P:=λr=>∀f,r=some f->TyOk s.heap f) vs (λv hv Q' hq=>?_) λrs hrs=>wpAny_pure ?_))
 ·obtain⟨a,o,us,n,rfl,ho,hc,hd,hf⟩:=ht v hv
  rw[kas_first_eq]
  refine wpAny_bind ((tr a o ho M).here ?_)
  rw[hc,if_neg (by simp)]
  exact wpAny_bind (listItems_at ho hd (wpAny_pure (hq _ λf e=>hf f e)))
 ·split
  ·refine wpAny_bind (wpAny_rule (wpAny_bind (qg4 (λu hu=>?_) λr=>wpAny_pure (h _))))
   have hu':u∈rs.filterMap id:=by simpa using hu
   obtain⟨r,hr,e⟩:=List.mem_filterMap.mp hu'
   exact hrs r hr u e
  ·split
   ·exact wpAny_pure (h _)
   ·refine wpAny_bind (qg4 (λu hu=>?_) λr=>?_)
    ·obtain⟨a,o,us,n,rfl,ho,_⟩:=ht u hu
     exact⟨o.cls,tr a o ho⟩
    ·split<;>exact wpAny_pure (h _)
end
section
variable {K:PySem.W.Frag} {H:Hp}
theorem Reps.pick{ds:List D}{xs:List V}(r:Reps K H ds xs):∀l:List Nat,(∀i∈l,i<ds.length)->Reps K H (l.map λi=>ds.getD i .non) (l.map λi=>xs.getD i .non)
|[],_=>.nil
|i::l,h=>by
  have hi:=h i (List.mem_cons_self ..)
  obtain⟨x,hx,rx⟩:=r.at (List.getElem?_eq_getElem hi)
  refine .cons ?_ (r.pick l λj hj=>h j (List.mem_cons_of_mem _ hj))
  have e1:ds.getD i .non=ds[i]:=by simp[List.getD_eq_getElem?_getD,hi]
  have e2:xs.getD i .non=x:=by simp[List.getD_eq_getElem?_getD,hx]
  show Rep K H (ds.getD i .non) (xs.getD i .non)
  rw[e1,e2]
  exact rx
theorem Vals.pick{xs:List V}{us:List Value}(r:Vals xs us):∀l:List Nat,(∀i∈l,i<xs.length)->Vals (l.map λi=>xs.getD i .non) (l.map λi=>us.getD i Value.none)
|[],_=>.nil
|i::l,h=>by
  have hi:=h i (List.mem_cons_self ..)
  obtain⟨u,hu,ru⟩:=r.get (List.getElem?_eq_getElem hi)
  refine .cons ?_ (Vals.pick r l λj hj=>h j (List.mem_cons_of_mem _ hj))
  have e1:xs.getD i .non=xs[i]:=by simp[List.getD_eq_getElem?_getD,hi]
  have e2:us.getD i Value.none=u:=by simp[List.getD_eq_getElem?_getD,hu]
  show RelV (xs.getD i .non) (us.getD i Value.none)
  rw[e1,e2]
  exact ru
end
def qvh:D->Bool
|.str _=>true
|.tup _=>true
|_=>false
structure SortD(ds:List D):Prop where
 tup:(∀d∈ds,∃es,d=.tup es/\qbt es<=20/\∀x,es[0]?=some x->qvh x=true)\/∀d∈ds,∃z,d=.str z
 ord:∀d∈ds,∀e∈ds,ordD d e=true
 tr:∀a∈ds,∀b∈ds,∀c∈ds,ltD a b=true->ltD b c=true->ltD a c=true
 as:∀a∈ds,∀b∈ds,ltD a b=true->ltD b a=false
 tot:∀a∈ds,∀b∈ds,a≠b->ltD a b=true\/ltD b a=true
 nd:ds.Nodup
theorem getD_mem{ds:List D}{i:Nat}(h:i<ds.length):ds.getD i .non∈ds:=by
 have e1:ds.getD i .non=ds[i]:=by simp[List.getD_eq_getElem?_getD,h]
 rw[e1]
 exact List.getElem_mem h
structure SortW(ds:List D):Prop where
 tup:(∀d∈ds,∃es,d=.tup es/\qbt es<=20/\∀x,es[0]?=some x->qvh x=true)\/∀d∈ds,∃z,d=.str z
 ord:∀d∈ds,∀e∈ds,ordD d e=true
 tr:∀a∈ds,∀b∈ds,∀c∈ds,ltD b a=false->ltD c b=false->ltD c a=false
 as:∀a∈ds,∀b∈ds,ltD a b=true->ltD b a=false
theorem SortD.w{ds:List D}(S:SortD ds):SortW ds:=⟨S.tup,S.ord,λa ha b hb c hc h1 h2=>by
 cases h:ltD c a with
|false=>rfl
|true =>
  by_cases e1:a=b
  ·rw[e1,h2] at h;cases h
  by_cases e2:b=c
  ·rw[←e2,h1] at h;cases h
  have q1:=(S.tot a ha b hb e1).resolve_right (by rw[h1];exact Bool.false_ne_true)
  have q2:=(S.tot b hb c hc e2).resolve_right (by rw[h2];exact Bool.false_ne_true)
  have:=S.as a ha c hc (S.tr a ha b hb c hc q1 q2)
  exact absurd (this.symm.trans h) Bool.false_ne_true,S.as⟩
theorem SortW.ltOk{ds:List D}(S:SortW ds):LtOk ds.length λi j=>ltD (ds.getD i .non) (ds.getD j .non) where
 tr:=λa b c ha hb hc=>S.tr _ (getD_mem ha) _ (getD_mem hb) _ (getD_mem hc)
 as:=λa b ha hb=>S.as _ (getD_mem ha) _ (getD_mem hb)
end L2
namespace L2
open PySem PySem.Spec PyProof.Rows PySem.W
theorem range_getD(vs:List Value):((List.range vs.length).map λi=>vs.getD i Value.none)=vs:=by
 apply List.ext_getElem
 ·simp
 ·intro i h1 h2
  simp[List.getD_eq_getElem?_getD,h2]
section
variable {X:Cx} {pins:List (Addr×Obj)} {σ:St} {H:Hp} {s:Shared} {E:Value->Shared->Prop}
theorem q3u(I:Inv X pins σ H s){A:Around}{ds:List D}{xs:List V}{vs:List Value}(r:Reps X.K H ds xs)(v:Vals xs vs)(S:SortW ds)(h2:2<=vs.length)(hu:A.units+30<cLine)(κ:SortKind)(hκ:(∀d∈ds,∃z,d=.str z)->2<=ds.length->κ=oneType'){Q:SortSt->Shared->Prop}
  (h:∀(st:SortSt) (q:List Nat),q.Perm (List.range ds.length)->q.Pairwise (λi j=>ltD (ds.getD j .non) (ds.getD i .non)=false)->(arrOf st).map (·.2)=List.toArray (q.map λi=>vs.getD i Value.none)->failedOf st=none->Q st s) :
  wpAny (model X.prog X.w) A ((sortRuns').run (SortSt.mk' κ (vs.toArray.zip vs.toArray) #[] 7 none)) (λr s'=>Q r.2 s') E s:=by
 have hl:ds.length=vs.length:=r.length.trans v.length
 have hc:Asks X.prog X.w A s κ (kas_item (vs.toArray.zip vs.toArray)) ds.length (λi j=>ltD (ds.getD i .non) (ds.getD j .non)):=λi j hi hj C hC'=>by
  obtain⟨x,hx,rx⟩:=r.at (List.getElem?_eq_getElem hi)
  obtain⟨y,hy,ry⟩:=r.at (List.getElem?_eq_getElem hj)
  obtain⟨u,eu,ru⟩:=v.get hx
  obtain⟨w,ew,rw'⟩:=v.get hy
  have e1:ds.getD i .non=ds[i]:=by simp[List.getD_eq_getElem?_getD,hi]
  have e2:ds.getD j .non=ds[j]:=by simp[List.getD_eq_getElem?_getD,hj]
  have e3:vs.getD i Value.none=u:=by simp[List.getD_eq_getElem?_getD,eu]
  have e4:vs.getD j Value.none=w:=by simp[List.getD_eq_getElem?_getD,ew]
  have m1:ds[i]∈ds:=List.getElem_mem hi
  have m2:ds[j]∈ds:=List.getElem_mem hj
  have ho:=S.ord _ m1 _ m2
  dsimp only at hC'
  rw[e1,e2] at hC'
  rw[kat_item rfl,kat_item rfl]
  show wpAny (model X.prog X.w) A (keyLt' κ (vs.getD i Value.none) (vs.getD j Value.none)) C (λ_ _=>False) s
  rw[e3,e4]
  rcases S.tup with T|T
  ·obtain⟨es,ee,he,_⟩:=T _ m1
   obtain⟨fs,ef,_,_⟩:=T _ m2
   rw[ee,ef] at hC'
   rw[ee,ef] at ho
   rw[ee] at rx
   rw[ef] at ry
   have hlt:ltD (.tup es) (.tup fs)=ltDs es fs:=by unfold ltD;rfl
   have hoo:qc8 es fs=true:=by unfold ordD at ho;exact ho
   rw[hlt] at hC'
   exact qxb I κ rx ry ru rw' hoo (by lia) hC'
  ·rw[hκ T (by lia),keyLt'_oneType]
   exact qmb I true rx ry ru rw' ho (by obtain⟨z,ez⟩:=T _ m1;rw[ez];unfold depD;lia) hC'
 have har:vs.toArray.zip vs.toArray=ar (kas_item (vs.toArray.zip vs.toArray)) (List.range ds.length):=by
  rw[qmx,hl]
  have e:=kas_range (vs.toArray.zip vs.toArray)
  rw[show (vs.toArray.zip vs.toArray).size=vs.length by simp] at e
  exact e.symm
 have R0:RunsOk ds.length (λi j=>ltD (ds.getD i .non) (ds.getD j .non)) κ (kas_item (vs.toArray.zip vs.toArray)) [] (List.range ds.length) (SortSt.mk' κ (vs.toArray.zip vs.toArray) #[] 7 none):={
  kd:=rfl
  arr:=har
  pd:=rfl
  fl:=rfl
  pm:=List.Perm.refl _
  up:=λr hr=>by cases hr }
 refine wpAny_mono (qul (E:=E) hc S.ltOk (by lia) R0 (Q:=λ_ st=>Q st s) λq st hp hu ha hf=>h st q hp hu ?_ hf) (λr' s' hr=>?_) λ_ _ z=>z
 ·have:=kat_snds (ks:=vs) (vs:=vs) rfl (ha.trans (qmx q))
  simpa using this
 ·obtain⟨rfl,hq⟩:=hr
  exact hq
theorem qxh{A:Around}{a:Addr}{n:Nat}{ds:List D}{xs:List V}{vs:List Value}{P:Fin->Shared->Prop}(ho:s.heap.get? a=some (seqObj "list" vs.toArray n))
  (I:∀h',(∀b o,b≠a->s.heap.get? b=some o->h'.get? b=some o)->Inv X pins σ H { s with heap:=h' }) (r:Reps X.K H ds xs) (v:Vals xs vs) (S:SortW ds) (h64:vs.length<=sizeLine) (hu:A.units+30<cLine)
  (h:∀(q:List Nat) (h':Heap) (m:Nat),q.Perm (List.range ds.length)->q.Pairwise (λi j=>ltD (ds.getD j .non) (ds.getD i .non)=false)->(∀b o,b≠a->s.heap.get? b=some o->h'.get? b=some o)->h'.get? a=some (seqObj "list" (q.map λi=>vs.getD i Value.none).toArray m) ->
   P (.done (.ret .none)) { s with heap:=h' }):wpAny (model X.prog X.w) A (Builtin.«list.sort» ⟨[.ref a],[]⟩) P E s:=by
 have hl:ds.length=vs.length:=r.length.trans v.length
 rw[list_sort_plain]
 have ha:a<s.heap.objs.size:=Heap.lt_size ho
 have hz:vs.toArray.size<=sizeLine:=by rw[List.size_toArray];exact h64
 refine wpAny_bind (listItems_at ho rfl (wpAny_bind (listUpdate_at ho rfl ?_ hz (Nat.zero_le _))))
 generalize e1:s.heap.update a (Obj.mapSeq λ_=>#[])=h1
 obtain⟨m1,ho1⟩:∃m1,h1.get? a=some (seqObj "list" #[] m1):=⟨_,by rw[←e1];exact get?_update_seq ho (λ_=>#[])⟩
 have k1:∀b o,b≠a->s.heap.get? b=some o->h1.get? b=some o:=λb o hb hq=>by
  rw[←e1,Heap.get?_update_ne _ _ _ _ hb]
  exact hq
 refine wpAny_bind (seqEpoch_at (s:={ s with heap:=h1 }) ho1 rfl (wpAny_bind (wpAny_newTuple ?_ h64)))
 generalize e2:h1.push { cls:=.type "tuple",data:=.seq vs.toArray }=h2
 have k2:∀b o,h1.get? b=some o->h2.get? b=some o:=λb o hq=>by rw[←e2];exact Heap.get?_push_of_some _ hq
 refine wpAny_bind (wpAny_newList ?_ (Nat.zero_le _))
 generalize e3:Heap.push _ _=h3
 have k3:∀b o,h2.get? b=some o->h3.get? b=some o:=λb o hq=>by rw[←e3];exact Heap.get?_push_of_some _ hq
 have ho3:h3.get? a=some (seqObj "list" #[] m1):=k3 _ _ (k2 _ _ ho1)
 have kk:∀b o,b≠a->s.heap.get? b=some o->h3.get? b=some o:=λb o hb hq=>k3 _ _ (k2 _ _ (k1 b o hb hq))
 have I3:Inv X pins σ H { s with heap:=h3 }:=I h3 kk
 refine wpAny_holding ?_
 show wpAny (model X.prog X.w) A _ P E { s with heap:=h3 }
 have fin:∀(q:List Nat) (out:Array Value),q.Perm (List.range ds.length)->q.Pairwise (λi j=>ltD (ds.getD j .non) (ds.getD i .non)=false)->out=(q.map λi=>vs.getD i Value.none).toArray ->
   P (.done (.ret .none)) { s with heap:=h3.update a (Obj.mapSeq λ_=>out) }:=λq out hq hp e=>by
  subst e
  refine h q _ _ hq hp (λb o hb hs=>?_) (get?_update_seq ho3 (λ_=>_))
  rw[Heap.get?_update_ne _ _ _ _ hb]
  exact kk b o hb hs
 dsimp only
 by_cases h2':vs.toArray.size<2
 ·rw[if_pos h2']
  refine wpAny_bind (wpAny_pure ?_)
  rw[if_pos h2',StateT.run_pure]
  refine wpAny_bind (wpAny_pure ?_)
  dsimp only
  refine wpAny_bind (seqEpoch_at (s:={ s with heap:=h3 }) ho3 rfl (wpAny_bind (listUpdate_at (s:={ s with heap:=h3 }) ho3 rfl ?_ (Nat.zero_le _) ?_)))
  ·simp only[bne_self_eq_false,Bool.false_eq_true,if_false]
   refine wpAny_pure (fin (List.range ds.length) _ (List.Perm.refl _) ?_ ?_)
   ·rw[List.size_toArray] at h2'
    rw[List.pairwise_iff_getElem]
    intro i j hi hj hij
    simp at hi hj
    lia
   ·apply Array.toList_inj.mp
    show (Array.map (λx:Value×Value=>x.2) (vs.toArray.zip vs.toArray)).toList=_
    rw[hl,range_getD]
    simp only[Array.toList_map,Array.toList_zip]
    exact List.map_snd_zip (Nat.le_refl _)
  ·show (Array.map (λx:Value×Value=>x.2) (vs.toArray.zip vs.toArray)).size<=_
   simp
   lia
 ·rw[if_neg h2']
  have h2v:2<=vs.length:=by rw[List.size_toArray] at h2';lia
  have kind:∀Q:SortKind->Shared->Prop,(∀κ,((∀d∈ds,∃z,d=.str z)->2<=ds.length->κ=oneType')->Q κ { s with heap:=h3 })->wpAny (model X.prog X.w) A (keyKind' vs.toArray) Q E { s with heap:=h3 }:=λQ hQ=>by
   rcases S.tup with T|T
   case inr =>
    refine kas_kind (T:=.type "str") (s:={ s with heap:=h3 }) h2v (λu hu=>?_) (by decide) (by decide) (hQ _ λ_ _=>rfl)
    obtain⟨i,hi,rfl⟩:=List.mem_iff_getElem.mp hu
    have hi2:i<ds.length:=by lia
    obtain⟨x,hx,rx⟩:=r.at (List.getElem?_eq_getElem hi2)
    obtain⟨u',eu,ru⟩:=v.get hx
    rw[List.getElem?_eq_getElem hi] at eu
    cases eu
    obtain⟨z,ez⟩:=T _ (List.getElem_mem hi2)
    rw[ez] at rx
    unfold Rep at rx
    subst rx
    obtain⟨t,et⟩:=ru
    rw[et]
    exact .now
   refine kind_any (s:={ s with heap:=h3 }) (λu hu=>?_) λκ=>hQ κ λhstr hlen=>?b
   case b =>
    have m0:ds[0]'(by lia)∈ds:=List.getElem_mem _
    obtain⟨es,ee,_⟩:=T _ m0
    obtain⟨z,ez⟩:=hstr _ m0
    rw[ee] at ez
    cases ez
   obtain⟨i,hi,rfl⟩:=List.mem_iff_getElem.mp hu
   have hi2:i<ds.length:=by lia
   obtain⟨x,hx,rx⟩:=r.at (List.getElem?_eq_getElem hi2)
   obtain⟨u',eu,ru⟩:=v.get hx
   rw[List.getElem?_eq_getElem hi] at eu
   cases eu
   obtain⟨es,ee,he,hk⟩:=T _ (List.getElem_mem hi2)
   rw[ee] at rx
   unfold Rep at rx
   obtain⟨b,ys,rfl,hb,r1⟩:=rx
   obtain⟨its,v1,p1,_⟩:=I3.tuple hb.sq
   obtain⟨o1,q1,c1,n1,y1⟩:=id p1
   refine⟨b,o1,its.toArray,n1,ru,q1,c1,y1,λf hf=>?_⟩
   have hf':its[0]?=some f:=by simpa using hf
   have h0:0<es.length:=by
    rw[r1.length,v1.length]
    exact(List.getElem?_eq_some_iff.mp hf').1
   obtain⟨y,hy,ry⟩:=r1.at (List.getElem?_eq_getElem h0)
   obtain⟨f',ef,rf⟩:=v1.get hy
   rw[hf'] at ef
   cases ef
   have hkey:=hk _ (List.getElem?_eq_getElem h0)
   generalize es[0]=d0 at hkey ry
   cases d0 with
  |str z =>
    unfold Rep at ry
    subst ry
    obtain⟨t,rfl⟩:=rf
    exact⟨.type "str",λM=>.now⟩
  |tup gs =>
    unfold Rep at ry
    obtain⟨c,zs,rfl,hc,_⟩:=ry
    cases rf
    obtain⟨its3,_,p3,_⟩:=I3.tuple hc.sq
    obtain⟨o3,q3,_⟩:=id p3
    exact⟨o3.cls,λM=>(Looks.ld q3).andThen .now⟩
  |_=>cases hkey
  refine wpAny_bind (kind _ λκ hκ=>?_)
  ·rw[if_neg h2']
   refine wpAny_bind (wpAny_mono (q3u I3 r v S h2v hu κ hκ (Q:=λst s'=>s'={ s with heap:=h3 }/\∃q:List Nat,q.Perm (List.range ds.length)/\q.Pairwise (λi j=>ltD (ds.getD j .non) (ds.getD i .non)=false)/\(arrOf st).map (·.2)=List.toArray (q.map λi=>vs.getD i Value.none)/\failedOf st=none)
    λst q a1 a2 a3 a4=>⟨rfl,q,a1,a2,a3,a4⟩) ?_ λ_ _ z=>z)
   rintro⟨⟨⟩,st⟩ s' ⟨rfl,q,a1,a2,a3,a4⟩
   have hql:q.length=ds.length:=by
    have:=a1.length_eq
    simpa using this
   dsimp only
   refine wpAny_bind (seqEpoch_at (s:={ s with heap:=h3 }) ho3 rfl (wpAny_bind (listUpdate_at (s:={ s with heap:=h3 }) ho3 rfl ?_ (Nat.zero_le _) ?_)))
   ·rw[a4]
    simp only[bne_self_eq_false,Bool.false_eq_true,if_false]
    exact wpAny_pure (fin q _ a1 a2 a3)
   ·show ((arrOf st).map (·.2)).size<=_
    rw[a3]
    simp
    lia
theorem qln(hu:X.A.units+60<cLine):CallR X (.builtin "sorted") (λxs H Q=>∃p ys ds,xs=[.ref p]/\SqL X.K H p ys/\Reps X.K H ds ys/\SortW ds/\∀l (q:List Nat),H l=none->q.Perm (List.range ds.length)->q.Pairwise (λi j=>ltD (ds.getD j .non) (ds.getD i .non)=false)->Q (.ref l) (upd H l (.lst (q.map λi=>ys.getD i .non)))):=by
 intro pins s σ H xs us Q I rx h
 obtain⟨p,ys,ds,rfl,hp,r,S,hq⟩:=h
 obtain⟨u,rfl,ru⟩:=vals1 rx
 cases ru
 obtain⟨its,v,pl,hz⟩:=I.list hp
 have hl:ds.length=its.length:=r.length.trans v.length
 refine Calls.call_function_entry kind_sorted plain_sorted entry_sorted (args_sorted1 _) ?_
 unfold Builtin.«sorted»
 refine wpAny_bind (m:=checkCount "sorted" 1 1 _) (wpAny_pure ?_)
 have hz':its.length<=sizeLine:=by rw[←v.length];exact hz
 refine wpAny_bind (collect_list pl.isList (wpAny_bind (wpAny_newList ?_ hz')) hz')
 generalize e1:(s.heap.push (seqObj "list" #[] 0)).update s.heap.objs.size _=h1
 have n1:h1.objs.size=s.heap.objs.size+1:=by rw[←e1,Heap.size_update,size_push']
 have k1:∀b o,s.heap.get? b=some o->h1.get? b=some o:=λb o q=>by
  have lt:b<s.heap.objs.size:=Heap.lt_size q
  rw[←e1,Heap.get?_update_ne _ _ _ _ (Nat.ne_of_lt lt)]
  exact Heap.get?_push_of_some _ q
 generalize e2:Heap.push _ _=h2
 have hD:h2.get? h1.objs.size=some (seqObj "list" its.toArray 0):=by rw[←e2];exact Heap.get?_push_size _ rfl
 have k2:∀b o,s.heap.get? b=some o->h2.get? b=some o:=λb o q=>by rw[←e2];exact Heap.get?_push_of_some _ (k1 b o q)
 have un:X.A.in1.units=X.A.units+1:=rfl
 have un2:X.A.in1.in1.units=X.A.units+2:=rfl
 show wpAny (model X.prog X.w) X.A.in1 (do let _ ←holding [Value.ref h1.objs.size] (call (.builtin "list.sort") [.ref h1.objs.size]);ret (.ref h1.objs.size)) _ X.xe { s with heap:=h2 }
 refine wpAny_bind (wpAny_holding (wpAny_call_entry (s:={ s with heap:=h2 }) slot_list_sort ⟨_,hD,rfl⟩ entry_list_sort ?_ (args_list_sort _)))
 refine qxh (s:={ s with heap:=h2 }) (H:=H) (σ:=σ) (pins:=pins) (X:=X) hD (λh' kp=>?_) r v S hz' (by lia) λq h' m hqp hqs kp he=>⟨_,rfl,?_⟩
 ·refine I.kept (t':=s.toks) λb o e=>?_
  refine kp b o (λz=>?_) (k2 b o e)
  have lt:b<s.heap.objs.size:=Heap.lt_size e
  rw[z,n1] at lt
  exact Nat.not_succ_le_self _ (Nat.le_of_lt lt)
 ·refine wpAny_pure ⟨_,rfl,.ref h1.objs.size,upd H h1.objs.size (.lst (q.map λi=>ys.getD i .non)),?_,rfl,hq _ q (I.hok.fresh (by lia)) hqp hqs⟩
  have hqm:∀i∈q,i<ys.length:=λi hi=>by
   have:=hqp.mem_iff.mp hi
   rw[←r.length]
   simpa using this
  refine I.laid (t':=s.toks) (λb o e=>?_) (by lia) ⟨?_,_,m,v.pick q hqm,he⟩
  ·refine kp b o (λz=>?_) (k2 b o e)
   have lt:b<s.heap.objs.size:=Heap.lt_size e
   rw[z,n1] at lt
   exact Nat.not_succ_le_self _ (Nat.le_of_lt lt)
  ·have:=hqp.length_eq
   rw[List.length_map,this,List.length_range]
   have:=r.length
   lia
end
end L2
namespace L2
open PySem PySem.Spec PyProof.Rows
section
variable {X:Cx} {EX:St->XK} {K:PySem.W.Frag} {B H H0:Hp} {e:Expr} {es:List Expr} {tA:TVA} {x y:Str} {p pos:Pos}
def qet(rx:R)(Q:R->Prop):Prop:=match rx.d with
|.lst ds=>SortD ds/\∀ds',ds'.Perm ds->ds'.Pairwise (λa b=>ltD a b=true)->Q (.own (.lst ds'))
|_=>False
def qjx(rx:R)(Q:R->Prop):Prop:=match rx.d with
|.lst ds=>SortW ds/\∀ds',ds'.Perm ds->ds'.Pairwise (λa b=>ltD b a=false)->Q (.own (.lst ds'))
|_=>False
theorem qpd(hu64:X.A.units+64<cLine):VF X (.builtin "sorted") qjx:=by
 have hu:X.A.units+60<cLine:=by lia
 refine⟨_,qln hu,λB H x rx Q Qd s px h k=>?_⟩
 unfold qjx at h
 split at h
 ·rename_i ds e1
  obtain⟨hS,hq⟩:=h
  obtain⟨a,xs,rfl,h1,r1⟩:=px.lst s e1
  refine⟨a,xs,ds,rfl,SqL.of h1,r1.same s,hS,λl q hn hp hs=>?_⟩
  have hm:∀i∈q,i<ds.length:=λi hi=>by simpa using hp.mem_iff.mp hi
  have hr:((List.range ds.length).map λi=>ds.getD i .non)=ds:=by
   apply List.ext_getElem
   ·simp
   ·intro i h1 h2
    simp[List.getD_eq_getElem?_getD,h2]
  refine k (.own (.lst (q.map λi=>ds.getD i .non))) _ B _ (.grow s (qae hn _)) ⟨l,rfl,hn,s.free hn,qdg (r1.pick q hm)⟩ (hq _ ?_ ?_)
  ·have:=hp.map λi=>ds.getD i .non
   rw[hr] at this
   exact this
  ·rw[List.pairwise_map]
   exact hs
 ·exact h.elim
theorem qjm{ds es:List D}(S:SortD ds)(hp:es.Perm ds)(h:es.Pairwise (λa b=>ltD b a=false)):es.Pairwise (λa b=>ltD a b=true):=by
 have nd:=hp.nodup_iff.mpr S.nd
 rw[List.nodup_iff_pairwise_ne] at nd
 exact(nd.and h).imp_of_mem λ{a b} ha hb z=>(S.tot a (hp.mem_iff.mp ha) b (hp.mem_iff.mp hb) z.1).resolve_right (by rw[z.2];exact Bool.false_ne_true)
theorem qhm(hu64:X.A.units+64<cLine):VF X (.builtin "sorted") qet :=
 let ⟨_,h1,h2⟩:=(qpd hu64).u;⟨_,h1,λB H x rx Q Qd s px h k=>h2 B H x rx Q Qd s px (by
  unfold qet at h
  unfold qjx
  split at h
  ·rename_i ds e1
   exact⟨h.1.w,λds' hp hs=>h.2 ds' hp (qjm h.1 hp hs)⟩
  ·exact h.elim) k⟩
def quj(r:R)(Q:R->Prop):Prop:=match r with
|.val d=>match dV d with
 |some _=>Q (.val d)
 |none=>False
|_=>False
def qsd(g:DP)(i:Nat)(tA:TVA):TV:=λτ Q=>match τ[i]? with
|some (some (.own d))=>tA τ λa=>exA a (λ_=>False) λds=>g (d::ds) λr=>quj r Q
|_=>False
theorem qy5{k:Nat}{ps:List Str}{g:DP}{i:Nat}{p2:Pos}(C:Cal X.prog X.w X.K X.mg X.base k x ps (spOf X.K g))(hr:Room k X.A)(hg:Gl X x)(ha:VA X EX es tA)(hN:X.N[i]?=some y:=by rfl)(hv:Vis X.env.scope y:=by first|exact Or.inl rfl|exact Or.inr (Or.inl rfl)|exact Or.inr (Or.inr rfl))
  (hd:(y==("__debug__" : Str))=false:=by decide) (hcd:(y==("__classdict__" : Str))=false:=by decide) (hp:(Expr.Name y p2::es).all qa2=true:=by rfl) (hdb:(x==("__debug__" : Str))=false:=by decide) :
  VE X EX (.Call (.Name x p) (.Name y p2::es) [] pos) (qsd g i tA) :=
 let ⟨_,a1,a2⟩:=ha.u;⟨_,qdm C hr hg (qac (qv i hN hv hd hcd) a1 rfl) hp hdb,λH0 B H τ σ Q Qd s S h xc kk=>by
  unfold qsd at h
  split at h
  ·rename_i d e1
   obtain⟨ad,e2,_,hb,ow⟩:=S.own i d e1
   refine⟨.ref ad,e2,a2 H0 B H τ σ _ _ s S h (xno λ_ q=>q) λds vs B1 H1 p1 q1 h1=>?_⟩
   have ow1:OwnAt X.K B1 H1 d ad:=ow.step p1.b (p1.h.at ow.some)
   have hb1:B1 ad=none:=p1.keep hb ow.some ow.nt
   obtain⟨o,eo,rp⟩:=ow1.pub hb1
   refine⟨d::ds,upd B1 ad o,_,qhc p1.s eo,?_,h1,λn C B' H' hq _ _=>?_,λr v B2 H2 hq p2 q2=>?_⟩
   ·rw[List.append_nil]
    exact .cons rp (q1.same (qae hb1 _))
   ·exact(show False from hq).elim
   ·unfold quj at hq
    split at hq
    ·rename_i d'
     split at hq
     ·rename_i z ez
      have:=(show Pk X.K B2 H2 (.val d') v from q2).scal ez
      subst this
      exact kk (.val d') _ B1 H2 (p1.trans (.grow p1.s p2.h)) (repV ez) hq
     ·exact hq.elim
    ·exact hq.elim
  ·exact h.elim⟩
end
def keyW(w:List Str):List (List Nat):=w.map (·.cps.toList)
theorem qnm:∀ {a b:List Str},keyW a=keyW b->a=b
|[],[],_=>rfl
|[],_::_,h=>by cases h
|_::_,[],h=>by cases h
|x::a,y::b,h=>by
  injection h with h1 h2
  rw[qr7 h1,qnm h2]
theorem qnt:∀a b:List Str,ltDs (a.map D.str) (b.map D.str)=decide (keyW a<keyW b)
|[],[]=>by unfold ltDs;simp[keyW]
|[],y::b=>by
  show ltDs [] (.str y::b.map D.str)=_
  unfold ltDs
  simp[keyW]
|x::a,[]=>by
  show ltDs (.str x::a.map D.str) []=_
  unfold ltDs
  simp[keyW]
|x::a,y::b=>by
  show ltDs (.str x::a.map D.str) (.str y::b.map D.str)=decide (x.cps.toList::keyW a<y.cps.toList::keyW b)
  unfold ltDs
  rw[qnt a b]
  by_cases e:x=y
  ·subst e
   rw[if_pos (qch _)]
   exact decide_eq_decide.mpr (by rw[List.cons_lt_cons_iff];simp[List.lt_irrefl])
  ·rw[if_neg (λz=>e (D.str.inj (qnc z)))]
   unfold ltD
   refine decide_eq_decide.mpr ?_
   rw[List.cons_lt_cons_iff]
   constructor
   ·exact .inl
   ·rintro (z|⟨z,_⟩)
    ·exact z
    ·exact absurd (qr7 z) e
theorem qxd{a b c:List (List Nat)}(h1:a<b)(h2:b<c):a<c:=List.lt_trans h1 h2
theorem qxc{a b:List (List Nat)}(h1:a<b):¬ b<a:=λh2=>List.lt_irrefl a (List.lt_trans h1 h2)
theorem qs6(a b:List (List Nat))(h:a≠b):a<b\/b<a:=by
 by_cases h1:a<b
 ·exact .inl h1
 ·by_cases h2:b<a
  ·exact .inr h2
  ·exact absurd (List.le_antisymm (List.not_lt.mp h2) (List.not_lt.mp h1)) h
def ltW(a b:List Str):Bool:=decide (keyW a<keyW b)
theorem qdd(a b:List Str):ltD (wayD a) (wayD b)=ltW a b:=by
 show ltD (.tup (a.map D.str)) (.tup (b.map D.str))=_
 unfold ltD
 exact qnt a b
theorem qq7{a b c:List Str}(h1:ltW a b=true)(h2:ltW b c=true):ltW a c=true:=decide_eq_true (qxd (of_decide_eq_true h1) (of_decide_eq_true h2))
theorem qkq{a b:List Str}(h1:ltW a b=true):ltW b a=false:=decide_eq_false (qxc (of_decide_eq_true h1))
theorem ql2{a b:List Str}(h:a≠b):ltW a b=true\/ltW b a=true:=(qs6 _ _ λe=>h (qnm e)).imp decide_eq_true decide_eq_true
theorem qi2:∀a b:List Str,qc8 (a.map D.str) (b.map D.str)=true
|[],_=>by
  show qc8 [] _=true
  unfold qc8
  rfl
|_::_,[]=>by
  show qc8 (_::_) []=true
  unfold qc8
  rfl
|x::a,y::b=>by
  show qc8 (.str x::a.map D.str) (.str y::b.map D.str)=true
  unfold qc8
  rw[qi2 a b]
  unfold ordD
  rfl
theorem qw1(a:List Str):qbt (a.map D.str)=0:=by
 induction a with
|nil=>rfl
|cons x a ih =>
  show max (depD (.str x)) (qbt (a.map D.str))=0
  rw[ih]
  rfl
theorem qj3{a b:List Str}(h:wayD a=wayD b):a=b:=by
 have h':a.map D.str=b.map D.str:=D.tup.inj h
 exact(qeo _ _).mp h'
theorem qia{ws:List (List Str)}(nd:ws.Nodup):SortD (ws.map wayD) where
 tup:=.inl λd hd=>by
  obtain⟨w,_,rfl⟩:=List.mem_map.mp hd
  refine⟨w.map D.str,rfl,by rw[qw1];lia,λx hx=>?_⟩
  rw[List.getElem?_map] at hx
  obtain⟨z,_,rfl⟩:=Option.map_eq_some_iff.mp hx
  rfl
 ord:=λd hd e he=>by
  obtain⟨a,_,rfl⟩:=List.mem_map.mp hd
  obtain⟨b,_,rfl⟩:=List.mem_map.mp he
  show ordD (.tup _) (.tup _)=true
  unfold ordD
  exact qi2 a b
 tr:=λd hd e he f hf=>by
  obtain⟨a,_,rfl⟩:=List.mem_map.mp hd
  obtain⟨b,_,rfl⟩:=List.mem_map.mp he
  obtain⟨c,_,rfl⟩:=List.mem_map.mp hf
  rw[qdd,qdd,qdd]
  exact qq7
 as:=λd hd e he=>by
  obtain⟨a,_,rfl⟩:=List.mem_map.mp hd
  obtain⟨b,_,rfl⟩:=List.mem_map.mp he
  rw[qdd,qdd]
  exact qkq
 tot:=λd hd e he ne=>by
  obtain⟨a,_,rfl⟩:=List.mem_map.mp hd
  obtain⟨b,_,rfl⟩:=List.mem_map.mp he
  rw[qdd,qdd]
  exact ql2 λz=>ne (by rw[z])
 nd:=by
  rw[List.nodup_iff_pairwise_ne] at nd ⊢
  rw[List.pairwise_map]
  exact nd.imp λh z=>h (qj3 z)
theorem qib{α:Type}{lt:α->α->Bool}(as:∀a b,lt a b=true->lt b a=false):∀ {xs ys:List α},xs.Perm ys->xs.Pairwise (λa b=>lt a b=true)->ys.Pairwise (λa b=>lt a b=true)->xs=ys
|[],ys,hp,_,_=>(List.nil_perm.mp hp).symm▸rfl
|x::xs,[],hp,_,_=>by cases hp.length_eq
|x::xs,y::ys,hp,hx,hy=>by
  rw[List.pairwise_cons] at hx hy
  have e:x=y:=by
   have m1:x∈y::ys:=hp.mem_iff.mp (List.mem_cons_self ..)
   have m2:y∈x::xs:=hp.mem_iff.mpr (List.mem_cons_self ..)
   rcases List.mem_cons.mp m1 with z|z
   ·exact z
   rcases List.mem_cons.mp m2 with w|w
   ·exact w.symm
   have l1:=hx.1 y w
   have l2:=hy.1 x z
   rw[as _ _ l1] at l2
   cases l2
  subst e
  rw[qib as (List.perm_cons x |>.mp hp) hx.2 hy.2]
end L2
namespace L2
open PySem PySem.Spec PyProof.Rows
def qwb(tk tv:TE):TE:=λσ H Q=>∀p,H p=none->tk σ (upd H p (.dT [])) λx H1=>tv σ H1 λy H2=>H2 p=some (.dT [])/\∃b ks,x=.ref b/\H2 b=some (.tup (ks.map kV))/\Q (.ref p) (upd H2 p (.dT [(ks,y)]))
def qmc(C:V->V->Hp->Prop)(ps:List (V×V))(H:Hp):Prop:=match ps with
|[(x,y)]=>C x y H
|_=>False
theorem qo3{C:V->V->Hp->Prop}{ps:List (V×V)}{H:Hp}(h:qmc C ps H):∃x y,ps=[(x,y)]/\C x y H:=by
 unfold qmc at h
 split at h
 ·exact⟨_,_,rfl,h⟩
 ·exact h.elim
section
variable {X:Cx} {pos:Pos} {k v:Expr} {tk tv:TE}
theorem qtq(hu:X.A.units+1<cLine)(hk:PE X k tk)(hv:PE X v tv):PE X (.Dict [some k] [v] pos) (qwb tk tv):=by
 intro pins s σ H Q I h
 have hn:=I.hok.fresh (Nat.le_refl s.heap.objs.size)
 have I1:=I.laid (a:=s.heap.objs.size) (o:=.dT []) (h':=s.heap.push { cls:=.type "dict",data:=.dict #[] }) (t':=s.toks) (λ_ _ q=>Heap.get?_push_of_some _ q) (Nat.le_refl _) (qnb s.heap I.big)
 have P:=qtx (pos:=pos) hk hv qya pins _ σ _ (qmc λx y H2=>H2 s.heap.objs.size=some (.dT [])/\∃(b:Addr) (ks:List Key),x=.ref b/\H2 b=some (.tup (ks.map kV))/\Q (.ref s.heap.objs.size) (upd H2 s.heap.objs.size (.dT [(ks,y)]))) I1 (h _ hn)
 rw[arm_eval_Dict,zip_pairTrees [some k] [v] X.env pos rfl rfl,dictDisplay_pairs _ (by simp[pairTrees]) (by simp[pairTrees])]
 refine wpAny_bind (wpAny_standAt (wpAny_bind ?_))
 unfold subDict
 refine wpAny_bind (wpAny_alloc (wpAny_bind (wpAny_holding ?_)))
 rw[if_pos (by simp[pairTrees])]
 refine wpAny_bind (wpAny_mono P (λws s2 hw=>?_) λ_ _ e=>e)
 obtain⟨ps,H2,I2,rel,hp⟩:=hw
 obtain⟨x,y,rfl,e,b,ks,rfl,eb,q2⟩:=qo3 hp
 cases rel with
|cons hr rel =>
 cases rel
 obtain⟨ru,rv⟩:=hr
 rename_i wp
 obtain⟨u,r⟩:=wp
 obtain rfl:u=Value.ref b:=ru
 obtain⟨z,hd,xs,rk,dd⟩:=qzy I2.hok e
 cases rk
 refine wpAny_holding ?_
 rw[List.forIn_cons]
 refine wpAny_bind (wpAny_bind (wpAny_bind (wpAny_dictSet_heap (hsz:=Nat.zero_le _) (show (tupleKind (qbi X.prog X.w)).room X.A from by show X.A.units<cLine;lia) (qgr I2.hok eb) dd λh' dd' hs=>wpAny_pure ?_)))
 dsimp only
 rw[List.forIn_nil]
 refine wpAny_pure (wpAny_pure (wpAny_pure (wpAny_pure ⟨.ref s.heap.objs.size,_,?_,rfl,q2⟩)))
 obtain⟨q,es,ep,hq,g2,g3,g4,_,g5⟩:=dd'
 refine qlp I2 (by rw[e];exact True.intro) hs ⟨q,hq⟩ ⟨by show 1<=sizeLine;decide,hd,[(ks,b,r)],.cons ⟨rfl,?_,rv⟩ .nil,q,es,ep,hq,g2,g3,g4,g5⟩
 rw[qal (q0m eb e (λz=>nomatch z))]
 exact eb
theorem qt0(hu:X.A.units+1<cLine)(hk:QE X k tk)(hv:QE X v tv):QE X (.Dict [some k] [v] pos) (qwb tk tv):=⟨qtq hu hk.u hv.u⟩
end
section
variable {X:Cx} {EX:St->XK} {pos:Pos} {k v:Expr} {tk tv:TV}
def q2g(tk tv:TV):TV:=λτ Q=>tk τ λrk=>match rk.d with
|.tup es=>∃w:List Str,es=w.map D.str/\("" : Str)∉w/\tv τ λrv=>exR rv (λ_=>False) (pubR rv λd=>Q (.own (.dT [w] [d])))
|_=>False
theorem q2y(hu:X.A.units+64<cLine)(hk:VE X EX k tk)(hv:VE X EX v tv):VE X EX (.Dict [some k] [v] pos) (q2g tk tv) :=
 let ⟨_,a1,a2⟩:=hk.u;let ⟨_,b1,b2⟩:=hv.u;⟨_,qt0 (by lia) a1 b1,λH0 B H τ σ Q Qd s S h xc kk p hp=>by
  have g0:Stp B H B (upd H p (.dT [])):=.grow s (qae hp _)
  refine a2 H0 B (upd H p (.dT [])) τ σ _ _ g0.s (S.step g0) h (xno λ_ q=>q) λrk vk B1 H1 p1 q1 h1=>?_
  split at h1
  ·rename_i es ek
   obtain⟨w,rfl,hne,h1⟩:=h1
   obtain⟨b,rfl,hb⟩:=q1.pk.way ek hne
   have S1:=S.step (g0.trans p1)
   refine b2 H0 B1 H1 τ σ _ _ p1.s S1 h1 (xno λ_ q=>by exact q) λrv vv B2 H2 p2 q2 h2=>?_
   obtain⟨d,B3,p3,_,rp,hq⟩:=pub p2 q2 (q2.ok h2)
   have hpp:(upd H p (.dT [])) p=some (.dT []):=qag
   have e1:H1 p=some (.dT []):=p1.h _ _ hpp
   have e2:H2 p=some (.dT []):=p3.h _ _ e1
   refine⟨e2,b,wK w,rfl,?_,?_⟩
   ·rw[qpg]
    exact p3.h _ _ (p1.s _ _ hb)
   ·have hB3:B3 p=none:=(p1.trans p3).keep (s.free hp) (by rw[hpp];exact λz=>by cases z) λxs z=>by rw[hpp] at z;cases z
    refine kk (.own (.dT [w] [d])) _ B3 _ ?_ ⟨p,rfl,hp,hB3,?_⟩ hq
    ·exact(g0.trans (p1.trans p3)).upd hp hB3
    ·refine⟨[(wK w,vv)],qag,rfl,.cons rp .nil⟩
  ·exact h1.elim⟩
end
end L2
namespace L2
open PySem PySem.Spec PyProof.Rows
theorem Room.dict{k:Nat}{A:Around}(r:Room k A):A.units+64<cLine:=by
 have:=r.un
 lia
end L2
namespace L2
open PySem PySem.Spec PyProof.Rows
section
variable {X:Cx} {EX:St->XK} {a:Expr} {ta:TV} {p pos:Pos}
theorem qy7{y:Str}{pb:Pos}{c:Addr}{yes no:List Str}(u:∀n C,clsOf X.K n C->n∈yes\/n∈no->ExcK X.K C)(hy:∀n∈yes,∀C,clsOf X.K n C->PySem.W.kitOne X.K (.ref C) (.ref c)=some true)(hn:∀n∈no,∀C,clsOf X.K n C->PySem.W.kitOne X.K (.ref C) (.ref c)=some false)
  (hg:Gl X "isinstance") (hm:X.mg "isinstance" = none) (hgy:Gl X y) (hmy:X.mg y=some (.ref c)) (ha:VE X EX a ta) (hp:qa2 a=true:=by rfl) (hdy:(y==("__debug__" : Str))=false:=by decide) :
  VE X EX (.Call (.Name "isinstance" p) [a,.Name y pb] [] pos) (vIsX yes no ta) :=
 let ⟨_,a1,a2⟩:=ha.u;⟨_,qcb qfz hg hm PyProof.Rows.Boot.«isinstance» (qac a1 (qac (qmd (v:=.ref c) hgy hmy rfl hdy) qaq rfl) hp) (by rw[List.all_cons,hp];rfl),λH0 B H τ σ Q Qd s S h xc k=>a2 H0 B H τ σ _ _ s S h (xno λ_ q=>q) λr v B1 H1 p1 q1 h1=>by
   split at h1
   ·rename_i n en
    obtain⟨ad,C,rfl,hx,hc⟩:=q1.pk.exc p1.s en
    rcases h1 with ⟨h1,h2⟩|⟨h1,h2⟩
    ·exact⟨ad,C,_,.ref c,true,rfl,hx,u n C hc (.inl h1),λw rw'=>rw',hy n h1 C hc,k _ _ B1 H1 p1 (repV rfl) h2⟩
    ·exact⟨ad,C,_,.ref c,false,rfl,hx,u n C hc (.inr h1),λw rw'=>rw',hn n h1 C hc,k _ _ B1 H1 p1 (repV rfl) h2⟩
   ·exact h1.elim⟩
end
end L2
namespace L2
open PySem PySem.Spec PyProof.Rows
theorem eqW(a b:List Str):eqD (.tup (a.map D.str)) (.tup (b.map D.str))=decide (a=b):=qcn (by
  rw[eqD_iff,decide_eq_true_eq]
  exact⟨λz=>qj3 z,λz=>by rw[z]⟩)
theorem cmpW(a b:List Str):cmpD (.tup (a.map D.str)) (.tup (b.map D.str))=true:=by
 unfold cmpD
 exact qm4 _ _
theorem depW(a:List Str):depD (.tup (a.map D.str))<=50:=by
 unfold depD
 rw[qin]
 decide
def unS:D->Str
|.str z=>z
|_=>""
def unW:D->List Str
|.tup es=>(strsOf es).getD []
|_=>[]
theorem qmq(w:List Str):unW (wayD w)=w:=by
 show (strsOf (w.map D.str)).getD []=w
 rw[qfs]
 rfl
theorem qlf{ds:List D}{ws:List (List Str)}(hp:ds.Perm (ws.map wayD))(hs:ds.Pairwise (λa b=>ltD a b=true)):∃vs:List (List Str),ds=vs.map wayD/\vs.Perm ws/\vs.Pairwise (λa b=>ltW a b=true):=by
 have e:ds=(ds.map unW).map wayD:=by
  rw[List.map_map]
  refine(List.map_id _).symm.trans (List.map_congr_left λd hd=>?_)
  obtain⟨w,_,rfl⟩:=List.mem_map.mp (hp.mem_iff.mp hd)
  show wayD w=wayD (unW (wayD w))
  rw[qmq]
 refine⟨ds.map unW,e,?_,?_⟩
 ·have:=hp.map unW
  rw[List.map_map] at this
  exact this.trans (List.Perm.of_eq ((List.map_congr_left λw _=>qmq w).trans (List.map_id _)))
 ·rw[e,List.pairwise_map] at hs
  exact hs.imp λh=>by rw[←qdd];exact h
abbrev Row:=List Str×Str×Str
def rowD(r:Row):D:=.tup [wayD r.1,.str r.2.1,.str r.2.2]
def unR:D->Row
|.tup [w,.str m,.str t]=>(unW w,m,t)
|_=>([],"","")
theorem qjs(r:Row):unR (rowD r)=r:=by
 show (unW (wayD r.1),r.2.1,r.2.2)=r
 rw[qmq]
theorem quc{a b:Row}(h:rowD a=rowD b):a=b:=by rw[←qjs a,←qjs b,h]
theorem cmpR(a b:Row):cmpD (rowD a) (rowD b)=true:=by
 show cmpD (.tup [.tup (a.1.map D.str),.str a.2.1,.str a.2.2]) (.tup [.tup (b.1.map D.str),.str b.2.1,.str b.2.2])=true
 have h:=cmpW a.1 b.1
 unfold cmpD at h ⊢
 simp only[qb2,cmpD,h,qlo,Bool.and_self,Bool.true_and]
theorem qw0(a:Row):depD (rowD a)=1+0\/depD (rowD a)<=20:=by
 right
 show depD (.tup [.tup (a.1.map D.str),.str a.2.1,.str a.2.2])<=20
 unfold depD
 simp only[qbt,depD,qin]
 decide
theorem depR(a:Row):depD (rowD a)<=20:=by
 rcases qw0 a with h|h
 ·lia
 ·exact h
theorem qd0{a b:Row}(h:a.1=b.1->a=b):ltD (rowD a) (rowD b)=ltW a.1 b.1:=by
 have e:ltD (rowD a) (rowD b)=ltDs [wayD a.1,.str a.2.1,.str a.2.2] [wayD b.1,.str b.2.1,.str b.2.2]:=by
  show ltD (.tup _) (.tup _)=_
  unfold ltD
  rfl
 rw[e]
 by_cases q:a.1=b.1
 ·have:=h q
  subst this
  unfold ltDs
  rw[if_pos (qch _)]
  unfold ltDs
  rw[if_pos (qch _)]
  unfold ltDs
  rw[if_pos (qch _)]
  unfold ltDs
  exact(decide_eq_false (List.lt_irrefl _)).symm
 ·unfold ltDs
  rw[if_neg (λz=>q (qj3 (qnc z)))]
  exact qdd a.1 b.1
theorem qbp{rs:List Row}(nd:(rs.map (·.1)).Nodup){a b:Row}(ha:a∈rs)(hb:b∈rs)(h:a.1=b.1):a=b:=by
 induction rs with
|nil=>cases ha
|cons r rs ih =>
  rw[List.map_cons,List.nodup_cons] at nd
  rcases List.mem_cons.mp ha with ea|ha2
  ·rcases List.mem_cons.mp hb with eb|hb2
   ·rw[ea,eb]
   ·exact absurd (show r.1∈rs.map (·.1) from List.mem_map.mpr ⟨b,hb2,by rw[←h,ea]⟩) nd.1
  ·rcases List.mem_cons.mp hb with eb|hb2
   ·exact absurd (show r.1∈rs.map (·.1) from List.mem_map.mpr ⟨a,ha2,by rw[h,eb]⟩) nd.1
   ·exact ih nd.2 ha2 hb2
theorem qo8{rs:List Row}(nd:(rs.map (·.1)).Nodup):SortD (rs.map rowD) where
 tup:=.inl λd hd=>by
  obtain⟨r,_,rfl⟩:=List.mem_map.mp hd
  refine⟨_,rfl,?_,λx hx=>?_⟩
  ·have:=depR r
   unfold rowD depD at this
   lia
  ·cases hx
   rfl
 ord:=λd hd e he=>by
  obtain⟨a,_,rfl⟩:=List.mem_map.mp hd
  obtain⟨b,_,rfl⟩:=List.mem_map.mp he
  show ordD (.tup [.tup (a.1.map D.str),.str a.2.1,.str a.2.2]) (.tup [.tup (b.1.map D.str),.str b.2.1,.str b.2.2])=true
  simp only[ordD,qc8,qi2,Bool.and_self]
 tr:=λd hd e he f hf=>by
  obtain⟨a,ha,rfl⟩:=List.mem_map.mp hd
  obtain⟨b,hb,rfl⟩:=List.mem_map.mp he
  obtain⟨c,hc,rfl⟩:=List.mem_map.mp hf
  rw[qd0 (qbp nd ha hb),qd0 (qbp nd hb hc),qd0 (qbp nd ha hc)]
  exact qq7
 as:=λd hd e he=>by
  obtain⟨a,ha,rfl⟩:=List.mem_map.mp hd
  obtain⟨b,hb,rfl⟩:=List.mem_map.mp he
  rw[qd0 (qbp nd ha hb),qd0 (qbp nd hb ha)]
  exact qkq
 tot:=λd hd e he ne=>by
  obtain⟨a,ha,rfl⟩:=List.mem_map.mp hd
  obtain⟨b,hb,rfl⟩:=List.mem_map.mp he
  rw[qd0 (qbp nd ha hb),qd0 (qbp nd hb ha)]
  exact ql2 λz=>ne (by rw[qbp nd ha hb z])
 nd:=by
  rw[List.nodup_iff_pairwise_ne] at nd ⊢
  rw[List.pairwise_map] at nd ⊢
  exact nd.imp λh z=>h (by rw[quc z])
abbrev qa1(rs:List Row):Prop:=rs.Pairwise (λa b=>ltW a.1 b.1=true)
theorem qrz{ds:List D}{rs:List Row}(nd:(rs.map (·.1)).Nodup)(hp:ds.Perm (rs.map rowD))(hs:ds.Pairwise (λa b=>ltD a b=true)):∃ts:List Row,ds=ts.map rowD/\ts.Perm rs/\qa1 ts:=by
 have e:ds=(ds.map unR).map rowD:=by
  rw[List.map_map]
  refine(List.map_id _).symm.trans (List.map_congr_left λd hd=>?_)
  obtain⟨r,_,rfl⟩:=List.mem_map.mp (hp.mem_iff.mp hd)
  show rowD r=rowD (unR (rowD r))
  rw[qjs]
 have pm:(ds.map unR).Perm rs:=by
  have:=hp.map unR
  rw[List.map_map] at this
  exact this.trans (List.Perm.of_eq ((List.map_congr_left λr _=>qjs r).trans (List.map_id _)))
 refine⟨ds.map unR,e,pm,?_⟩
 rw[e,List.pairwise_map] at hs
 have nd2:((ds.map unR).map (·.1)).Nodup:=((pm.map (·.1)).nodup_iff).mpr nd
 exact hs.imp_of_mem λ{a b} ma mb h=>by rw[←qd0 (qbp nd2 ma mb)];exact h
theorem qbh{rs:List Row}(h:qa1 rs):(rs.map (·.1)).Nodup:=by
 rw[List.nodup_iff_pairwise_ne,List.pairwise_map]
 exact h.imp λ{a b} q z=>by
  rw[z] at q
  have:=qkq q
  rw[q] at this
  cases this
theorem qme{rs ts:List Row}(hp:rs.Perm ts)(h1:qa1 rs)(h2:qa1 ts):rs=ts:=qib (lt:=λa b:Row=>ltW a.1 b.1) (λ_ _=>qkq) hp h1 h2
def qai(rs:List Row):D:=.lst (rs.map rowD)
theorem qzs:∀rs ts:List Row,qb2 (rs.map rowD) (ts.map rowD)=true
|[],_=>by cases ‹List Row›<;>rfl
|_::_,[]=>rfl
|a::rs,b::ts=>by
  show qb2 (rowD a::rs.map rowD) (rowD b::ts.map rowD)=true
  unfold qb2
  rw[cmpR,qzs rs ts]
  rfl
theorem q23(rs ts:List Row):cmpD (qai rs) (qai ts)=true:=by
 show cmpD (.lst _) (.lst _)=true
 unfold cmpD
 exact qzs rs ts
theorem qzw:∀rs:List Row,qbt (rs.map rowD)<=20
|[]=>by
  show qbt []<=20
  unfold qbt
  lia
|a::rs=>by
  show qbt (rowD a::rs.map rowD)<=20
  unfold qbt
  have:=depR a
  have:=qzw rs
  lia
theorem q24(rs:List Row):depD (qai rs)<=21:=by
 show depD (.lst _)<=21
 unfold depD
 have:=qzw rs
 lia
section
variable {X:Cx} {pins:List (Addr×Obj)} {σ:St} {H:Hp} {s:Shared}
theorem q17{A:Around}(I:Inv X pins σ H s){a b:Addr}{ds es:List D}{xs ys:List V}(ha:SqT X.K H a xs)(hb:SqT X.K H b ys)(r1:Reps X.K H ds xs)(r2:Reps X.K H es ys)(hc:qb2 ds es=true)(hu:A.units<cLine)
  (ih:∀d∈ds,∀(e:D) (v z:V) (u w:Value),Rep X.K H d v->Rep X.K H e z->RelV v u->RelV z w->cmpD d e=true->SeqAt.EqAt A.in1 s u w (eqD d e)):SeqAt.RcNeAt A s (.ref a) (.ref b) (!eqD (.tup ds) (.tup es)):=by
 obtain⟨its,v1,p1,_⟩:=I.tuple ha
 obtain⟨its2,v2,p2,_⟩:=I.tuple hb
 have:=SeqAt.RcNeAt.tuples (A:=A) (s:=s) (e:=λj=>eqD (ds.getD j .non) (es.getD j .non)) (show s.heap.IsTuple a its.toArray from p1) (show s.heap.IsTuple b its2.toArray from p2) hu (qgq r1 r2 v1 v2 hc ih)
 rw[List.size_toArray,List.size_toArray,←v1.length,←v2.length,←r1.length,←r2.length,qd8] at this
 rw[qp4]
 exact this
theorem q16{A:Around}(I:Inv X pins σ H s){a b:Addr}{ds es:List D}{xs ys:List V}(ha:H a=some (.lst xs))(hb:H b=some (.lst ys))(r1:Reps X.K H ds xs)(r2:Reps X.K H es ys)(hc:qb2 ds es=true)(hu:A.units<cLine)
  (ih:∀d∈ds,∀(e:D) (v z:V) (u w:Value),Rep X.K H d v->Rep X.K H e z->RelV v u->RelV z w->cmpD d e=true->SeqAt.EqAt A.in1 s u w (eqD d e)):SeqAt.RcNeAt A s (.ref a) (.ref b) (!eqD (.lst ds) (.lst es)):=by
 obtain⟨its,v1,p1,_⟩:=I.list (SqL.of ha)
 obtain⟨its2,v2,p2,_⟩:=I.list (SqL.of hb)
 have er:=qd8 ds es
 rw[qp3]
 by_cases hl:ds.length=es.length
 ·have hz:its.toArray.size=its2.toArray.size:=by rw[List.size_toArray,List.size_toArray,←v1.length,←v2.length,←r1.length,←r2.length,hl]
  have:=SeqAt.RcNeAt.lists (A:=A) (s:=s) (e:=λj=>eqD (ds.getD j .non) (es.getD j .non)) p1.isList p2.isList hz hu (qgq r1 r2 v1 v2 hc ih)
  rw[List.size_toArray,←v1.length,←r1.length] at this
  rw[←hl,Nat.min_self] at er
  have e2:(ds.length==ds.length)=true:=by simp
  rw[e2,Bool.and_true] at er
  rw[er] at this
  exact this
 ·have e2:(ds.length==es.length)=false:=by simpa using hl
  rw[e2,Bool.and_false] at er
  rw[←er]
  refine SeqAt.RcNeAt.lists_lengths p1.isList p2.isList ?_ hu
  rw[List.size_toArray,List.size_toArray,←v1.length,←v2.length,←r1.length,←r2.length]
  simpa using hl
theorem q0t(hu:X.A.units+60<cLine):OpR X (compareOp .NotEq) (rEqD X.K not):=by
 intro pins s σ H x y v u Q I rx ry h
 obtain⟨d,e,hd,he,hc,hn,q⟩:=h
 have fin:EP X pins σ Q (.bool (!eqD d e)) s:=⟨.bl (!eqD d e),H,I,rfl,q⟩
 have un:X.A.in1.units=X.A.units+1:=rfl
 cases d with
|tup ds =>
  cases e with
 |tup es =>
   unfold Rep at hd he
   obtain⟨a,xs,rfl,ha,r1⟩:=hd
   obtain⟨b,ys,rfl,hb,r2⟩:=he
   cases rx
   cases ry
   unfold cmpD at hc
   unfold depD at hn
   exact q17 I ha.sq hb.sq r1 r2 hc (by lia) (λd hd e v z u w h1 h2 h3 h4 h5=>qf0 I _ X.A.in1 d e v z u w (Nat.le_refl _) h1 h2 h3 h4 h5 (by have:=qcg hd;lia)) _ _ _ _ fin
 |_=>unfold cmpD at hc;cases hc
|lst ds =>
  cases e with
 |lst es =>
   unfold Rep at hd he
   obtain⟨a,xs,rfl,ha,r1⟩:=hd
   obtain⟨b,ys,rfl,hb,r2⟩:=he
   cases rx
   cases ry
   unfold cmpD at hc
   unfold depD at hn
   exact q16 I ha hb r1 r2 hc (by lia) (λd hd e v z u w h1 h2 h3 h4 h5=>qf0 I _ X.A.in1 d e v z u w (Nat.le_refl _) h1 h2 h3 h4 h5 (by have:=qcg hd;lia)) _ _ _ _ fin
 |_=>unfold cmpD at hc;cases hc
|_ =>
  obtain⟨v',z',q1,q2,q3⟩:=qji hc (λ_ h=>by cases h) (λ_ h=>by cases h)
  have e1:=qc2 hd q1
  have e2:=qc2 he q2
  subst e1 e2
  have q':Q (.bl (!eqD _ _)) H:=q
  rw[qip q1 q2] at q'
  exact q3c pins s σ H _ _ v u Q I rx ry ⟨q3,q'⟩
def vNeD(rx ry:R)(Q:R->Prop):Prop:=cmpD rx.d ry.d=true/\depD rx.d<=50/\Q (.val (.bl (!eqD rx.d ry.d)))
theorem qdq(hu:X.A.units+64<cLine):VO X (compareOp .NotEq) vNeD :=
 ⟨_,q0t (by lia),λB H x y rx ry Q Qd s px py h k=>⟨rx.d,ry.d,px.rep s,py.rep s,h.1,h.2.1,k _ _ B H (.refl s) (repV rfl) h.2.2⟩⟩
end
section
variable {X:Cx} {pos p2:Pos} {e st:Expr} {te:TE} {lo hi:Option Expr} {tl th ts:TO}
end
section
variable {X:Cx} {EX:St->XK} {pos p2:Pos} {e st:Expr} {te:TV} {lo hi:Option Expr} {tl th ts:TVO} {K:PySem.W.Frag} {B:Hp}
end
end L2
namespace L2
section
variable {α:Type} [DecidableEq α]
end
section
variable {α β:Type} [DecidableEq α]
end
end L2
namespace L2
open PySem
abbrev qaz:Str:="folder"
abbrev qbr:Str:="shut"
abbrev qbn:Str:="gone"
abbrev qde:Str:="file"
abbrev qdf:Str:="link"
abbrev qd5:Str:=""
theorem mne:qbr≠qaz/\qbn≠qaz/\qde≠qaz/\qdf≠qaz/\qbn≠qbr/\qde≠qbr/\qdf≠qbr/\qde≠qbn/\qdf≠qbn/\qdf≠qde:=by decide +kernel
theorem qxi(l:List (List Nat))(x:List Nat):l<l++[x]:=by
 induction l with
|nil=>exact List.nil_lt_cons _ _
|cons y l ih=>exact List.cons_lt_cons_iff.mpr (.inr ⟨rfl,ih⟩)
theorem qtc{w:List Str}(h:w≠[]):ltW w.dropLast w=true:=by
 refine decide_eq_true ?_
 conv=>rhs;rw[←List.dropLast_concat_getLast h]
 unfold keyW
 rw[List.map_append]
 exact qxi _ _
def inR(p:List Row)(w:List Str):Bool:=decide (w∈p.map (·.1))
def qbw(p:List Row)(w:List Str):Option Str:=(p.find? λr=>decide (r.1=w)).map (·.2.1)
def qb4:Option Str->Bool
|none=>false
|some m=>!decide (m=qaz)
def qbf(p:List Row)(w:List Str):Bool:=(List.range w.length).any λk=>qb4 (qbw p (w.take k))
theorem qqk(p:List Row):qbf p []=false:=rfl
theorem qdt{β:Type}{f g:β->Bool}:∀ {l:List β},(∀x∈l,f x=g x)->l.any f=l.any g
|[],_=>rfl
|x::l,h=>by rw[List.any_cons,List.any_cons,h x (List.mem_cons_self ..),qdt λy hy=>h y (List.mem_cons_of_mem _ hy)]
theorem qh2(p:List Row){w:List Str}(h:w≠[]):qbf p w=(qbf p w.dropLast||qb4 (qbw p w.dropLast)):=by
 have hl:w.length=w.dropLast.length+1:=by
  rw[List.length_dropLast]
  have:=List.length_pos_iff.mpr h
  lia
 unfold qbf
 rw[hl,List.range_succ,List.any_append]
 congr 1
 ·refine qdt λk hk=>?_
  have hk:=List.mem_range.mp hk
  rw[List.dropLast_eq_take,List.take_take,Nat.min_eq_left (by lia)]
 ·rw[List.any_cons,List.any_nil,Bool.or_false,List.dropLast_eq_take,List.length_take,Nat.min_eq_left (by lia)]
theorem qf9(p:List Row)(w:List Str):(qbw p w).isSome=inR p w:=by
 unfold qbw inR
 rw[Option.isSome_map]
 by_cases h:w∈p.map (·.1)
 ·rw[decide_eq_true h,List.find?_isSome]
  obtain⟨r,mr,er⟩:=List.mem_map.mp h
  exact⟨r,mr,decide_eq_true er⟩
 ·rw[decide_eq_false h,Bool.eq_false_iff]
  intro q
  rw[List.find?_isSome] at q
  obtain⟨r,mr,er⟩:=q
  exact h (List.mem_map.mpr ⟨r,mr,of_decide_eq_true er⟩)
theorem qe1{p:List Row}(nd:(p.map (·.1)).Nodup){r:Row}(h:r∈p):qbw p r.1=some r.2.1:=by
 unfold qbw
 cases e:p.find? λq=>decide (q.1=r.1) with
|none=>exact absurd (decide_eq_true rfl) (List.find?_eq_none.mp e r h)
|some q =>
  have h1:=List.mem_of_find?_eq_some e
  have h2:q.1=r.1:=of_decide_eq_true (p:=q.1=r.1) (by simpa using List.find?_some e)
  rw[qbp nd h1 h h2]
  rfl
theorem qfn{p:List Row}{w:List Str}(h:inR p w=false):qbw p w=none:=by
 rw[←qf9] at h
 exact Option.not_isSome_iff_eq_none.mp (by rw[h];exact Bool.false_ne_true)
structure TreeOk(tr:List Row):Prop where
 so:qa1 tr
 cl:∀r∈tr,r.1≠[]/\(r.1.dropLast=[]\/r.1.dropLast∈tr.map (·.1))
structure PaneOk(p:List Row):Prop where
 so:qa1 p
 cl:∀r∈p,r.1=[]\/r.1.dropLast=[]\/∃q∈p,q.1=r.1.dropLast/\q.2.1≠qbn
 mr:∀r∈p,(r.2.1=qde\/r.2.1=qdf)\/(r.2.1=qaz/\r.2.2=qd5)\/r.2.1=qbr\/r.2.1=qbn
 rt:∀r∈p,r.1=[]->r.2.1=qbr
theorem qw2{w:List Str}(h:w≠[]):w.dropLast≠w:=λe=>by
 have:=congrArg List.length e
 rw[List.length_dropLast] at this
 have:=List.length_pos_iff.mpr h
 lia
theorem qlh{tr:List Row}(so:qa1 tr){i:Nat}{r:Row}(hr:tr[i]?=some r)(h0:r.1≠[])(hm:r.1.dropLast∈tr.map (·.1)):r.1.dropLast∈(tr.take i).map (·.1):=by
 obtain⟨hi,er⟩:=List.getElem?_eq_some_iff.mp hr
 obtain⟨q,mq,eq⟩:=List.mem_map.mp hm
 obtain⟨j,hj,ej⟩:=List.mem_iff_getElem.mp mq
 have lt1:ltW q.1 r.1=true:=by
  rw[eq]
  exact qtc h0
 have hji:j<i:=by
  rcases Nat.lt_trichotomy j i with h|h|h
  ·exact h
  ·subst h
   have:r=q:=er.symm.trans ej
   subst this
   exact absurd eq.symm (qw2 h0)
  ·have:=(List.pairwise_iff_getElem.mp so) i j hi hj h
   rw[er,ej] at this
   rw[qkq lt1] at this
   cases this
 refine List.mem_map.mpr ⟨q,?_,eq⟩
 rw[←ej]
 exact List.mem_take_iff_getElem.mpr ⟨j,by lia,rfl⟩
def hidW(p tr:List Row):List (List Str):=(tr.filter λr=>qbf p r.1).map (·.1)
structure Clo(tr:List Row):Prop where
 so:qa1 tr
 cl:∀r∈tr,r.1=[]\/r.1.dropLast=[]\/r.1.dropLast∈tr.map (·.1)
theorem TreeOk.clo{tr:List Row}(T:TreeOk tr):Clo tr:=⟨T.so,λr hr=>.inr (T.cl r hr).2⟩
theorem qe8{rs:List Row}(nd:(rs.map (·.1)).Nodup){i:Nat}{r:Row}(hr:rs[i]?=some r):r.1∉(rs.take i).map (·.1):=λm=>by
 obtain⟨hi,er⟩:=List.getElem?_eq_some_iff.mp hr
 obtain⟨q,mq,eq⟩:=List.mem_map.mp m
 rw[List.nodup_iff_pairwise_ne,List.pairwise_map,List.pairwise_iff_getElem] at nd
 obtain⟨j,hj,ej⟩:=List.mem_iff_getElem.mp mq
 have hj':j<i:=by rw[List.length_take] at hj;lia
 have:=nd j i (by lia) hi hj'
 rw[List.getElem_take] at ej
 rw[ej,er] at this
 exact this eq
theorem qqm{p tr:List Row}(T:Clo tr){i:Nat}{r:Row}(hr:tr[i]?=some r)(h0:r.1≠[]):(decide (r.1.dropLast∈hidW p (tr.take i))||qb4 (qbw p r.1.dropLast))=qbf p r.1:=by
 have mr:=List.mem_of_getElem? hr
 have hc:=(T.cl r mr).resolve_left h0
 rw[qh2 p h0]
 congr 1
 by_cases hh:qbf p r.1.dropLast=true
 ·rw[hh]
  refine decide_eq_true ?_
  rcases hc with hc|hc
  ·rw[hc,qqk] at hh
   cases hh
  ·obtain⟨q,mq,eq⟩:=List.mem_map.mp (qlh T.so hr h0 hc)
   refine List.mem_map.mpr ⟨q,List.mem_filter.mpr ⟨mq,?_⟩,eq⟩
   rw[eq]
   exact hh
 ·rw[Bool.not_eq_true] at hh
  rw[hh]
  refine decide_eq_false λm=>?_
  obtain⟨q,mq,eq⟩:=List.mem_map.mp m
  have:=(List.mem_filter.mp mq).2
  rw[eq,hh] at this
  cases this
theorem qw6{p tr:List Row}{w:List Str}(hw:w∈tr.map (·.1)):decide (w∈hidW p tr)=qbf p w:=by
 cases hh:qbf p w with
|true =>
  refine decide_eq_true ?_
  obtain⟨q,mq,eq⟩:=List.mem_map.mp hw
  exact List.mem_map.mpr ⟨q,List.mem_filter.mpr ⟨mq,by rw[eq];exact hh⟩,eq⟩
|false =>
  refine decide_eq_false λm=>?_
  obtain⟨q,mq,eq⟩:=List.mem_map.mp m
  have:=(List.mem_filter.mp mq).2
  rw[eq,hh] at this
  cases this
def qan(p tr:List Row):List Row:=tr.filter λr=>!inR p r.1&&!qbf p r.1
def qe7(r:Row):Row:=if r.2.1=qbr then (r.1,qaz,qd5) else r
def putR(p:List Row):List Row:=(p.filter λr=>!decide (r.1=[])&&!decide (r.2.1=qbn)).map qe7
theorem qfr(r:Row):(qe7 r).1=r.1:=by
 unfold qe7
 split<;>rfl
theorem qi4(p:List Row):(putR p).map (·.1)=(p.filter λr=>!decide (r.1=[])&&!decide (r.2.1=qbn)).map (·.1):=by
 unfold putR
 rw[List.map_map]
 exact List.map_congr_left λr _=>qfr r
theorem qlx{p tr:List Row}(hp:(p.map (·.1)).Nodup)(ht:(tr.map (·.1)).Nodup):((qan p tr++putR p).map (·.1)).Nodup:=by
 rw[List.map_append,qi4,List.nodup_append]
 refine⟨ht.sublist ((List.filter_sublist).map _),hp.sublist ((List.filter_sublist).map _),λx hx y hy e=>?_⟩
 subst e
 obtain⟨r,mr,rfl⟩:=List.mem_map.mp hx
 obtain⟨q,mq,eq⟩:=List.mem_map.mp hy
 have h1:=(List.mem_filter.mp mr).2
 have h2:inR p r.1=true:=decide_eq_true (List.mem_map.mpr ⟨q,(List.mem_filter.mp mq).1,eq⟩)
 rw[h2] at h1
 cases h1
theorem qgt{p tr ts:List Row}(P:PaneOk p)(T:TreeOk tr)(hp:ts.Perm (qan p tr++putR p))(hs:qa1 ts):TreeOk ts:=by
 refine⟨hs,λr hr=>?_⟩
 have mem:∀w,w∈ts.map (·.1)↔w∈(qan p tr).map (·.1)\/w∈(putR p).map (·.1):=λw=>by
  rw[(hp.map (·.1)).mem_iff,List.map_append,List.mem_append]
 have ndp:=qbh P.so
 rcases List.mem_append.mp (hp.mem_iff.mp hr) with h|h
 ·obtain⟨mr,hb⟩:=List.mem_filter.mp h
  obtain⟨h0,hc⟩:=T.cl r mr
  refine⟨h0,?_⟩
  rcases hc with hc|hc
  ·exact .inl hc
  right
  rw[mem]
  have hb':inR p r.1=false/\qbf p r.1=false:=by simpa using hb
  have hs2:=qh2 p h0
  rw[hb'.2] at hs2
  have hs3:qbf p r.1.dropLast=false/\qb4 (qbw p r.1.dropLast)=false:=by simpa using hs2.symm
  by_cases hin:inR p r.1.dropLast=true
  ·right
   rw[qi4]
   obtain⟨q,mq,eq⟩:=List.mem_map.mp (of_decide_eq_true hin)
   refine List.mem_map.mpr ⟨q,List.mem_filter.mpr ⟨mq,?_⟩,eq⟩
   have e1:q.2.1=qaz:=by
    have:=hs3.2
    rw[←eq,qe1 ndp mq] at this
    simpa [qb4] using this
   have e2:q.1≠[]:=λz=>by
    have:=P.rt q mq z
    rw[e1] at this
    exact mne.1 this.symm
   rw[decide_eq_false e2,e1,decide_eq_false (Ne.symm mne.2.1)]
   rfl
  ·left
   rw[Bool.not_eq_true] at hin
   obtain⟨q,mq,eq⟩:=List.mem_map.mp hc
   refine List.mem_map.mpr ⟨q,List.mem_filter.mpr ⟨mq,?_⟩,eq⟩
   rw[eq,hin,hs3.1]
   rfl
 ·unfold putR at h
  obtain⟨q,mq,rfl⟩:=List.mem_map.mp h
  rw[qfr]
  obtain⟨mq,hb⟩:=List.mem_filter.mp mq
  have hb':q.1≠[]/\q.2.1≠qbn:=by simpa using hb
  refine⟨hb'.1,?_⟩
  rcases P.cl q mq with c|c|⟨o,mo,eo,go⟩
  ·exact absurd c hb'.1
  ·exact .inl c
  ·by_cases c:q.1.dropLast=[]
   ·exact .inl c
   right
   rw[mem]
   right
   rw[qi4]
   refine List.mem_map.mpr ⟨o,List.mem_filter.mpr ⟨mo,?_⟩,eo⟩
   rw[decide_eq_false (by rw[eo];exact c),decide_eq_false go]
   rfl
theorem qis(p tr:List Row):(qan p tr++putR p).length<=tr.length+(p.filter λr=>!decide (r.1=[])).length:=by
 unfold qan putR
 rw[List.length_append,List.length_map]
 have h1:=List.length_filter_le (λr:Row=>!inR p r.1&&!qbf p r.1) tr
 have h2:(p.filter λr=>!decide (r.1=[])&&!decide (r.2.1=qbn)).length<=(p.filter λr=>!decide (r.1=[])).length:=by
  have:(p.filter λr=>!decide (r.1=[])&&!decide (r.2.1=qbn))=(p.filter λr=>!decide (r.1=[])).filter λr=>!decide (r.2.1=qbn):=by
   rw[List.filter_filter]
   congr 1
   funext r
   exact Bool.and_comm _ _
  rw[this]
  exact List.length_filter_le _ _
 lia
def qbj(p:List Row):List Row:=(p.filter λr=>decide (r.2.1=qde)||decide (r.2.1=qdf)||(!decide (r.2.1=qbn)&&!decide (r.1=[]))).map λr=>if r.2.1=qde\/r.2.1=qdf then r else (r.1,qaz,qd5)
theorem qqv{p:List Row}(P:PaneOk p):qbj p=putR p:=by
 unfold qbj putR
 have e:(p.filter λr=>decide (r.2.1=qde)||decide (r.2.1=qdf)||(!decide (r.2.1=qbn)&&!decide (r.1=[])))=p.filter λr=>!decide (r.1=[])&&!decide (r.2.1=qbn):=by
  refine List.filter_congr λr hr=>?_
  by_cases h0:r.1=[]
  ·have:=P.rt r hr h0
   rw[this,decide_eq_true h0,decide_eq_false (Ne.symm mne.2.2.2.2.2.1),decide_eq_false (Ne.symm mne.2.2.2.2.2.2.1)]
   simp
  ·rw[decide_eq_false h0]
   have m:=P.mr r hr
   rcases m with (m|m)|⟨m,_⟩|m|m
   ·rw[m,decide_eq_false mne.2.2.2.2.2.2.2.1];simp
   ·rw[m,decide_eq_false mne.2.2.2.2.2.2.2.2.1];simp
   ·rw[m,decide_eq_false (Ne.symm mne.2.1)];simp
   ·rw[m,decide_eq_false (Ne.symm mne.2.2.2.2.1)];simp
   ·rw[m,decide_eq_false (Ne.symm mne.2.2.2.2.2.2.2.1),decide_eq_false (Ne.symm mne.2.2.2.2.2.2.2.2.1)];simp
 rw[e]
 refine List.map_congr_left λr hr=>?_
 have hb:=(List.mem_filter.mp hr).2
 have mr:=(List.mem_filter.mp hr).1
 have hb':r.1≠[]/\r.2.1≠qbn:=by simpa using hb
 unfold qe7
 rcases P.mr r mr with m|⟨m,t⟩|m|m
 ·rw[if_pos m,if_neg]
  rcases m with m|m
  ·rw[m];exact mne.2.2.2.2.2.1
  ·rw[m];exact mne.2.2.2.2.2.2.1
 ·rw[if_neg (by rw[m];exact λz=>z.elim (λz=>mne.2.2.1 z.symm) λz=>mne.2.2.2.1 z.symm),if_neg (by rw[m];exact Ne.symm mne.1),←m,←t]
 ·rw[if_neg (by rw[m];exact λz=>z.elim (λz=>mne.2.2.2.2.2.1 z.symm) λz=>mne.2.2.2.2.2.2.1 z.symm),if_pos m]
 ·exact absurd m hb'.2
def thD:Str×Str->D:=λt=>.tup [.str t.1,.str t.2]
def WyOk(w:List Str):Prop:=w.length<=20/\∀z∈w,1<=z.length/\z.length<=12
def Wy14(w:List Str):Prop:=w.length<=14/\∀z∈w,1<=z.length/\z.length<=12
theorem Wy14.ok{w:List Str}(h:Wy14 w):WyOk w:=⟨by have:=h.1;lia,h.2⟩
theorem WyOk.ne{w:List Str}(h:WyOk w):("" : Str)∉w:=λm=>by
 have:=(h.2 _ m).1
 have e:("" : Str).length=0:=by decide +kernel
 lia
theorem WyOk.take{w:List Str}(h:WyOk w)(k:Nat):WyOk (w.take k):=⟨by rw[List.length_take];have:=h.1;lia,λz m=>h.2 z (List.mem_of_mem_take m)⟩
theorem WyOk.drop{w:List Str}(h:WyOk w):WyOk w.dropLast:=by rw[List.dropLast_eq_take];exact h.take _
def prR(r:Row):List Str×D:=(r.1,thD r.2)
theorem qq3(rs:List Row)(w:List Str):lkP (rs.map prR) w=(rs.find? λr=>decide (r.1=w)).map λr=>thD r.2:=by
 unfold lkP
 rw[List.find?_map,Option.map_map]
 rfl
def prM(r:Row):List Str×D:=(r.1,.str r.2.1)
theorem qnr(rs:List Row)(w:List Str):lkP (rs.map prM) w=(qbw rs w).map D.str:=by
 unfold lkP qbw
 rw[List.find?_map,Option.map_map,Option.map_map]
 rfl
theorem qmw(rs:List Row):(rs.map prR).map (·.1)=rs.map (·.1):=by rw[List.map_map];rfl
theorem qst(rs:List Row):(rs.map prM).map (·.1)=rs.map (·.1):=by rw[List.map_map];rfl
theorem qq2(ws:List (List Str))(d:D)(w:List Str):lkP (ws.map λx=>(x,d)) w=if w∈ws then some d else none:=by
 unfold lkP
 rw[List.find?_map,Option.map_map]
 induction ws with
|nil=>rfl
|cons x ws ih =>
  by_cases h:x=w
  ·rw[List.find?_cons_of_pos (by simpa using h),if_pos (by rw[h];exact List.mem_cons_self ..)]
   rfl
  ·rw[List.find?_cons_of_neg (by simpa using h),ih]
   by_cases m:w∈ws
   ·rw[if_pos m,if_pos (List.mem_cons_of_mem _ m)]
   ·rw[if_neg m,if_neg (λz=>(List.mem_cons.mp z).elim (λe=>h e.symm) m)]
theorem qnk:∀(es:List D),(∀e∈es,∃z:Int,e=.int z)->∃cs:List Int,es=cs.map D.int
|[],_=>⟨[],rfl⟩
|e::es,h=>by
  obtain⟨z,rfl⟩:=h e (List.mem_cons_self ..)
  obtain⟨cs,rfl⟩:=qnk es λx hx=>h x (List.mem_cons_of_mem _ hx)
  exact⟨z::cs,rfl⟩
def qhd(rs:List Row)(w:List Str):Bool:=(List.range w.length).any λk=>decide (qbw rs (w.take k)=some qbr)
noncomputable def qr5(rs:List Row):List Row:=open Classical in if h:∃ts:List Row,ts.Perm rs/\qa1 ts then Classical.choose h else rs
theorem qjl{ts rs:List Row}(hp:ts.Perm rs)(hs:qa1 ts):qr5 rs=ts:=by
 have h:∃ts:List Row,ts.Perm rs/\qa1 ts:=⟨ts,hp,hs⟩
 unfold qr5
 rw[dif_pos h]
 exact qme ((Classical.choose_spec h).1.trans hp.symm) (Classical.choose_spec h).2 hs
noncomputable def qc5(p tr:List Row):List Row:=qr5 (qan p tr++putR p)
noncomputable def qa6(ps:List (List Row)):List Row:=ps.foldl (λt p=>qc5 p t) []
theorem qec(ps:List (List Row))(p:List Row):qa6 (ps++[p])=qc5 p (qa6 ps):=by
 unfold qa6
 rw[List.foldl_append]
 rfl
def bulk(p:List Row):Nat:=(p.filter λr=>!decide (r.1=[])).length
def mkOk(r:Row):Prop:=(r.2.1=qde\/r.2.1=qdf)\/(r.2.1=qaz/\r.2.2=qd5)\/r.2.1=qbr\/r.2.1=qbn
def FS(m:Str):Prop:=m=qaz\/m=qbr
theorem FS.live{m:Str}(h:FS m):m≠qbn:=by
 rcases h with rfl|rfl
 ·exact Ne.symm mne.2.1
 ·exact Ne.symm mne.2.2.2.2.1
def FolIn(rs:List Row)(f:List Str):Prop:=Wy14 f/\(f=[]\/∃q∈rs,q.1=f/\FS q.2.1)
def qwo(rs:List Row)(r:Row):Prop:=(r.1=[]/\r.2.1=qbr)\/(r.1≠[]/\Wy14 r.1/\FolIn rs r.1.dropLast/\mkOk r)
structure PInv(i:Nat)(rs:List Row)(fs:List (List Str)):Prop where
 nd:(rs.map (·.1)).Nodup
 row:∀r∈rs,qwo rs r
 blk:bulk rs<=i
 len:rs.length<=i+1
 ne:fs≠[]
 fol:∀f∈fs,FolIn rs f
 fln:fs.length<=i+1
 nu:∀r∈rs,r.2.1=qbn\/r.2.1=qbr->qbf rs r.1=false
theorem anc{rs:List Row}(row:∀r∈rs,qwo rs r):∀(n:Nat) (f:List Str),f.length=n->FolIn rs f->∀k,0<k->k<=f.length->∃q∈rs,q.1=f.take k/\FS q.2.1
|0,f,hn,_,k,h0,hk=>by lia
|n+1,f,hn,hf,k,h0,hk=>by
  have fne:f≠[]:=λz=>by rw[z] at hn;cases hn
  obtain⟨q,mq,eq,fq⟩:=hf.2.resolve_left fne
  rcases Nat.lt_or_ge k f.length with h|h
  ·rcases row q mq with c|⟨_,_,c,_⟩
   ·exact absurd (eq▸c.1) fne
   ·rw[eq] at c
    have hl:f.dropLast.length=n:=by rw[List.length_dropLast];lia
    obtain⟨o,mo,eo,fo⟩:=anc row n f.dropLast hl c k h0 (by lia)
    refine⟨o,mo,?_,fo⟩
    rw[eo,List.dropLast_eq_take,List.take_take,Nat.min_eq_left (by lia)]
  ·have:k=f.length:=by lia
   rw[this,List.take_length]
   exact⟨q,mq,eq,fq⟩
theorem qs3{rs:List Row}(nd:(rs.map (·.1)).Nodup){w:List Str}(h:∀k,0<k->k<w.length->∃q∈rs,q.1=w.take k/\FS q.2.1)(rt:∀r∈rs,r.1=[]->r.2.1=qbr):qbf rs w=qhd rs w:=by
 unfold qbf qhd
 refine qdt λk hk=>?_
 have hk:=List.mem_range.mp hk
 have key:∀q∈rs,q.1=w.take k->FS q.2.1->qb4 (qbw rs (w.take k))=decide (qbw rs (w.take k)=some qbr):=λq mq eq fq=>by
  rw[←eq,qe1 nd mq]
  rcases fq with e|e
  ·rw[e,decide_eq_false (λz=>mne.1 (Option.some.inj z).symm)];simp[qb4]
  ·rw[e,decide_eq_true rfl];simp[qb4,mne.1]
 by_cases h0:k=0
 ·subst h0
  rw[List.take_zero] at key ⊢
  by_cases hi:inR rs []=true
  ·obtain⟨q,mq,eq⟩:=List.mem_map.mp (of_decide_eq_true hi)
   exact key q mq eq (.inr (rt q mq eq))
  ·rw[Bool.not_eq_true] at hi
   rw[qfn hi]
   rfl
 ·obtain⟨q,mq,eq,fq⟩:=h k (by lia) hk
  exact key q mq eq fq
theorem qou{rs:List Row}{r:Row}{w:List Str}(h:r.1≠w):qbw (rs++[r]) w=qbw rs w:=by
 unfold qbw
 rw[List.find?_append]
 have:[r].find? (λq=>decide (q.1=w))=none:=by simp[h]
 rw[this,Option.or_none]
theorem qh1{rs:List Row}{r:Row}{w:List Str}(h:∀k,k<w.length->r.1≠w.take k):qbf (rs++[r]) w=qbf rs w:=by
 unfold qbf
 exact qdt λk hk=>by rw[qou (h k (List.mem_range.mp hk))]
theorem Wy14.nil:Wy14 []:=⟨Nat.zero_le _,λ_ h=>by cases h⟩
theorem PInv.start{rs:List Row}(h:rs=[]\/rs=[([],qbr,qd5)]):PInv 0 rs [[]]:=by
 rcases h with rfl|rfl
 ·exact⟨List.nodup_nil,(λ_ h=>by cases h),Nat.le_refl _,Nat.zero_le _,by simp,λf hf=>by rw[List.mem_singleton.mp hf];exact⟨.nil,.inl rfl⟩,Nat.le_refl _,(λ_ h=>by cases h)⟩
 ·exact⟨by simp,λr hr=>by rw[List.mem_singleton.mp hr];exact .inl ⟨rfl,rfl⟩,Nat.le_refl _,Nat.le_refl _,by simp,λf hf=>by rw[List.mem_singleton.mp hf];exact⟨.nil,.inl rfl⟩,Nat.le_refl _,λr hr _=>by rw[List.mem_singleton.mp hr];rfl⟩
theorem FolIn.more{rs:List Row}{f:List Str}(h:FolIn rs f)(r:Row):FolIn (rs++[r]) f:=⟨h.1,h.2.imp id λ⟨q,mq,e,g⟩=>⟨q,List.mem_append_left _ mq,e,g⟩⟩
theorem PInv.stay{i:Nat}{rs:List Row}{fs:List (List Str)}(P:PInv i rs fs):PInv (i+1) rs fs:=⟨P.nd,P.row,Nat.le_succ_of_le P.blk,Nat.le_succ_of_le P.len,P.ne,P.fol,Nat.le_succ_of_le P.fln,P.nu⟩
theorem PInv.put{i:Nat}{rs:List Row}{fs:List (List Str)}(P:PInv i rs fs){f:List Str}(hf:f∈fs){z:Str}{m t:Str}(hm:mkOk (f++[z],m,t))(hw:Wy14 (f++[z]))(nw:f++[z]∉rs.map (·.1))(hsh:m=qbn\/m=qbr->qhd rs (f++[z])=false):PInv (i+1) (rs++[(f++[z],m,t)]) fs/\(FS m->PInv (i+1) (rs++[(f++[z],m,t)]) (fs++[f++[z]])):=by
 have A:PInv (i+1) (rs++[(f++[z],m,t)]) fs:=by
  refine⟨?_,λr hr=>?_,?_,?_,P.ne,λg hg=>(P.fol g hg).more _,Nat.le_succ_of_le P.fln,λr hr hm2=>?_⟩
  ·rw[List.map_append,List.nodup_append]
   refine⟨P.nd,by simp,λa ha b hb e=>?_⟩
   have:b=f++[z]:=by simpa using hb
   rw[e,this] at ha
   exact nw ha
  ·rcases List.mem_append.mp hr with q|q
   ·rcases P.row r q with h|⟨h1,h2,h3,h4⟩
    ·exact .inl h
    ·exact .inr ⟨h1,h2,h3.more _,h4⟩
   ·rw[List.mem_singleton.mp q]
    refine .inr ⟨by simp,hw,?_,hm⟩
    show FolIn _ (f++[z]).dropLast
    rw[List.dropLast_concat]
    exact(P.fol f hf).more _
  ·have:=P.blk
   unfold bulk at this ⊢
   rw[List.filter_append,List.length_append]
   have:=List.length_filter_le (λr:Row=>!decide (r.1=[])) [(f++[z],m,t)]
   rw[List.length_singleton] at this
   lia
  ·have:=P.len
   rw[List.length_append,List.length_singleton]
   lia
  ·rcases List.mem_append.mp hr with q|q
   ·have old:=P.nu r q hm2
    rw[qh1 (λk hk e=>?_)]
    ·exact old
    ·have e':f++[z]=r.1.take k:=e
     rcases P.row r q with c|⟨_,_,c,_⟩
     ·rw[c.1] at hk
      cases hk
     ·have k0:0<k:=by
       rcases Nat.eq_zero_or_pos k with z0|z0
       ·rw[z0,List.take_zero] at e'
        exact absurd e' (by simp)
       ·exact z0
      obtain⟨o,mo,eo,_⟩:=anc P.row _ r.1.dropLast rfl c k k0 (by rw[List.length_dropLast];lia)
      refine nw (List.mem_map.mpr ⟨o,mo,?_⟩)
      rw[eo,e',List.dropLast_eq_take,List.take_take,Nat.min_eq_left (by lia)]
   ·have er:=List.mem_singleton.mp q
    subst er
    show qbf (rs++[(f++[z],m,t)]) (f++[z])=false
    rw[qh1 (λk hk e=>?_)]
    ·rw[qs3 P.nd (λk k0 k1=>?_) λr hr h0=>?_]
     ·exact hsh hm2
     ·rw[List.length_append,List.length_singleton] at k1
      obtain⟨o,mo,eo,fo⟩:=anc P.row _ f rfl (P.fol f hf) k k0 (by lia)
      exact⟨o,mo,by rw[eo,List.take_append_of_le_length (by lia)],fo⟩
     ·rcases P.row r hr with c|c
      ·exact c.2
      ·exact absurd h0 c.1
    ·have:=congrArg List.length (show f++[z]=(f++[z]).take k from e)
     rw[List.length_take] at this
     lia
 refine⟨A,λhg=>⟨A.nd,A.row,A.blk,A.len,by simp,λg hg2=>?_,?_,?_⟩⟩
 ·rcases List.mem_append.mp hg2 with q|q
  ·exact A.fol g q
  ·rw[List.mem_singleton.mp q]
   exact⟨hw,.inr ⟨(f++[z],m,t),by simp,rfl,hg⟩⟩
 ·have:=P.fln
  rw[List.length_append,List.length_singleton]
  lia
 ·exact A.nu
theorem PInv.pane{i:Nat}{rs ts:List Row}{fs:List (List Str)}(P:PInv i rs fs)(hp:ts.Perm rs)(hs:qa1 ts):PaneOk ts/\(∀r∈ts,Wy14 r.1)/\bulk ts<=i/\ts.length<=i+1/\∀r∈ts,r.2.1=qbn\/r.2.1=qbr->qbf ts r.1=false:=by
 have mem:∀r,r∈ts->qwo rs r:=λr hr=>P.row r (hp.mem_iff.mp hr)
 refine⟨⟨hs,λr hr=>?_,λr hr=>?_,λr hr h0=>?_⟩,λr hr=>?_,?_,?_,λr hr hm=>?_⟩
 ·rcases mem r hr with h|⟨h1,_,h3,_⟩
  ·exact .inl h.1
  ·rcases h3.2 with h|⟨q,mq,e,g⟩
   ·exact .inr (.inl h)
   ·exact .inr (.inr ⟨q,hp.mem_iff.mpr mq,e,g.live⟩)
 ·rcases mem r hr with h|⟨_,_,_,h4⟩
  ·exact .inr (.inr (.inl h.2))
  ·exact h4
 ·rcases mem r hr with h|⟨h1,_⟩
  ·exact h.2
  ·exact absurd h0 h1
 ·rcases mem r hr with h|⟨_,h2,_⟩
  ·rw[h.1];exact .nil
  ·exact h2
 ·have:=P.blk
  unfold bulk at this ⊢
  rw[(hp.filter _).length_eq]
  exact this
 ·rw[hp.length_eq]
  exact P.len
 ·have nt:=qbh hs
  have:∀w,qbw ts w=qbw rs w:=λw=>by
   by_cases h:inR ts w=true
   ·obtain⟨q,mq,e⟩:=List.mem_map.mp (of_decide_eq_true h)
    rw[←e,qe1 nt mq,qe1 P.nd (hp.mem_iff.mp mq)]
   ·have h2:inR rs w=false:=by
     rw[Bool.not_eq_true] at h
     refine decide_eq_false λm=>of_decide_eq_false h ?_
     exact((hp.map (·.1)).mem_iff).mpr m
    rw[Bool.not_eq_true] at h
    rw[qfn h,qfn h2]
  have e:qbf ts r.1=qbf rs r.1:=qdt λk _=>by rw[this]
  rw[e]
  exact P.nu r (hp.mem_iff.mp hr) hm
def lkR(rs:List Row)(w:List Str):Str×Str:=((rs.find? λr=>decide (r.1=w)).map (·.2)).getD (qd5,qd5)
theorem qnf{rs:List Row}(nd:(rs.map (·.1)).Nodup){r:Row}(h:r∈rs):(rs.find? λq=>decide (q.1=r.1))=some r:=by
 cases e:rs.find? λq=>decide (q.1=r.1) with
|none=>exact absurd (decide_eq_true rfl) (List.find?_eq_none.mp e r h)
|some q =>
  have h1:=List.mem_of_find?_eq_some e
  have h2:q.1=r.1:=of_decide_eq_true (p:=q.1=r.1) (by simpa using List.find?_some e)
  rw[qbp nd h1 h h2]
theorem qf2{rs:List Row}(nd:(rs.map (·.1)).Nodup){vs:List (List Str)}(hv:vs.Perm (rs.map (·.1)))(hs:vs.Pairwise (λa b=>ltW a b=true)):(vs.map λw=>(w,lkR rs w)).Perm rs/\qa1 (vs.map λw=>(w,lkR rs w)):=by
 constructor
 ·refine(hv.map _).trans (List.Perm.of_eq ?_)
  rw[List.map_map]
  refine(List.map_congr_left λr hr=>?_).trans (List.map_id _)
  show (r.1,lkR rs r.1)=r
  unfold lkR
  rw[qnf nd hr]
  rfl
 ·show List.Pairwise _ (List.map _ _)
  rw[List.pairwise_map]
  exact hs
theorem qq1{rs:List Row}(nd:(rs.map (·.1)).Nodup){w:List Str}(h:w∈rs.map (·.1)):lkP (rs.map prR) w=some (thD (lkR rs w)):=by
 obtain⟨r,mr,rfl⟩:=List.mem_map.mp h
 rw[qq3]
 unfold lkR
 rw[qnf nd mr]
 rfl
def s6(u:Nat):Nat:=u%99991%9+(u+96542*1)%99991%9+(u+96542*2)%99991%9+(u+96542*3)%99991%9+(u+96542*4)%99991%9+(u+96542*5)%99991%9
theorem qmf{u:Nat}(h1:u<99991)(h2:17245<=u):s6 u<=30:=by
 have e0:u%99991=u:=by lia
 have e1:(u+96542*1)%99991=u-3449*1:=by lia
 have e2:(u+96542*2)%99991=u-3449*2:=by lia
 have e3:(u+96542*3)%99991=u-3449*3:=by lia
 have e4:(u+96542*4)%99991=u-3449*4:=by lia
 have e5:(u+96542*5)%99991=u-3449*5:=by lia
 unfold s6
 rw[e0,e1,e2,e3,e4,e5]
 obtain⟨a,r,hr,rfl⟩:∃a r,r<9/\u=9*a+r:=⟨u / 9,u%9,by lia,by lia⟩
 have:∀k,3449*k<=9*a+r->(9*a+r-3449*k)%9=(r+7*k)%9:=λk hk=>by lia
 rw[this 1 (by lia),this 2 (by lia),this 3 (by lia),this 4 (by lia),this 5 (by lia)]
 have:(9*a+r)%9=r:=by omega
 rw[this]
 clear e0 e1 e2 e3 e4 e5 this
 have:∀r,r<9->r+(r+7*1)%9+(r+7*2)%9+(r+7*3)%9+(r+7*4)%9+(r+7*5)%9<=30:=by decide
 exact this r hr
theorem qv7{u:Nat}(h1:u<17245):s6 u<=32:=by
 have lo:∀k,k<6->3449*k<=u->(u+96542*k)%99991=u-3449*k:=λk hk h=>by lia
 have hi:∀k,k<6->u<3449*k->(u+96542*k)%99991=u+99991-3449*k:=λk hk h=>by lia
 obtain⟨a,r,hr,e⟩:∃a r,r<9/\u=9*a+r:=⟨u / 9,u%9,by lia,by lia⟩
 have q:∀k b,k<6->(b=0/\3449*k<=u\/b=1/\u<3449*k)->(u+96542*k)%99991%9=(r+7*k+b)%9:=λk b hk h=>by
  rcases h with ⟨rfl,h⟩|⟨rfl,h⟩
  ·rw[lo k hk h];omega
  ·rw[hi k hk h];lia
 have q0:u%99991%9=r:=by lia
 have all:∀r,r<9->∀i,i<5->r+(r+7*1+if 1<=i then 0 else 1)%9+(r+7*2+if 2<=i then 0 else 1)%9+(r+7*3+if 3<=i then 0 else 1)%9+(r+7*4+if 4<=i then 0 else 1)%9+(r+7*5+1)%9<=32:=by decide
 have c:∀k,k<6->((if k<=u / 3449 then 0 else 1)=0/\3449*k<=u\/(if k<=u / 3449 then 0 else 1)=1/\u<3449*k):=λk hk=>by
  by_cases h:k<=u / 3449
  ·left;rw[if_pos h];exact⟨rfl,by lia⟩
  ·right;rw[if_neg h];exact⟨rfl,by lia⟩
 have:=all r hr (u / 3449) (by lia)
 unfold s6
 rw[q0,q 1 _ (by decide) (c 1 (by decide)),q 2 _ (by decide) (c 2 (by decide)),q 3 _ (by decide) (c 3 (by decide)),q 4 _ (by decide) (c 4 (by decide)),q 5 1 (by decide) (.inr ⟨rfl,by omega⟩)]
 exact this
theorem s12{u:Nat}(h:u<99991):s6 u+s6 ((u+48271)%99991)<=62:=by
 by_cases h1:u<17245
 ·have:=qv7 h1
  have:=qmf (u:=(u+48271)%99991) (by lia) (by lia)
  lia
 ·have:=qmf h (by omega)
  by_cases h2:(u+48271)%99991<17245
  ·have:=qv7 h2
   lia
  ·have:=qmf (u:=(u+48271)%99991) (by lia) (by lia)
   lia
def szN(x:Nat):Nat:=x*48271%99991%9
def sumF(f:Nat->Nat):Nat->Nat
|0=>0
|n+1=>sumF f n+f n
theorem qed{f g:Nat->Nat}:∀n,(∀k,k<n->f k=g k)->sumF f n=sumF g n
|0,_=>rfl
|n+1,h=>by unfold sumF;rw[qed n λk hk=>h k (by lia),h n (by lia)]
theorem qr8(f:Nat->Nat):∀ {n m:Nat},n<=m->sumF f n<=sumF f m
|n,0,h=>by
  have:n=0:=by lia
  subst this
  exact Nat.le_refl _
|n,m+1,h=>by
  rcases Nat.lt_or_ge n (m+1) with q|q
  ·exact Nat.le_trans (qr8 f (by lia)) (Nat.le_add_right _ _)
  ·have:n=m+1:=by lia
   subst this;exact Nat.le_refl _
theorem qr9(y j:Nat):szN (y+2*j)=(y*48271%99991+96542*j)%99991%9:=by
 unfold szN
 have:(y+2*j)*48271=y*48271+96542*j:=by lia
 rw[this,Nat.mod_add_mod]
theorem q3w(y:Nat):sumF (λk=>szN (y+k)) 12<=62:=by
 have hu:y*48271%99991<99991:=Nat.mod_lt _ (by decide)
 have h:=s12 hu
 have ev:(y*48271%99991+48271)%99991=(y+1)*48271%99991:=by
  rw[Nat.mod_add_mod,Nat.add_mul,Nat.one_mul]
 have z0:szN (y+0)=y*48271%99991%99991%9:=by unfold szN;rw[Nat.mod_mod];rfl
 have z1:szN (y+1)=(y+1)*48271%99991%99991%9:=by unfold szN;rw[Nat.mod_mod]
 rw[ev] at h
 have d:=λj=>qr9 y j
 have o:=λj=>qr9 (y+1) j
 have t:sumF (λk=>szN (y+k)) 12=szN (y+0)+szN (y+1)+szN (y+2*1)+szN (y+1+2*1)+szN (y+2*2)+szN (y+1+2*2)+szN (y+2*3)+szN (y+1+2*3)+szN (y+2*4)+szN (y+1+2*4)+szN (y+2*5)+szN (y+1+2*5):=by
  simp only[sumF,Nat.zero_add,Nat.add_assoc,Nat.reduceMul,Nat.reduceAdd]
 rw[t,z0,z1,d 1,d 2,d 3,d 4,d 5,o 1,o 2,o 3,o 4,o 5]
 unfold s6 at h
 lia
theorem qyy(c:Nat)(n:Nat)(hn:n<=12):sumF (λk=>szN ((c+k)%10 ^ 18+1)) n<=62:=by
 refine Nat.le_trans (qr8 _ hn) ?_
 have hx:c%10 ^ 18<10 ^ 18:=Nat.mod_lt _ (by decide)
 have em:∀k,(c+k)%10 ^ 18=(c%10 ^ 18+k)%10 ^ 18:=λk=>by rw[Nat.mod_add_mod]
 generalize c%10 ^ 18=x at *
 rw[qed 12 λk hk=>by rw[em k]]
 by_cases hw:x+12<=10 ^ 18
 ·have:=q3w (x+1)
  rw[qed 12 (g:=λk=>szN (x+1+k)) λk hk=>?_]
  ·exact this
  ·rw[Nat.mod_eq_of_lt (by lia)]
   congr 1
   lia
 ·have all:∀j,j<12->sumF (λk=>szN ((10 ^ 18-12+j+k)%10 ^ 18+1)) 12<=62:=by decide +kernel
  have:=all (x+12-10 ^ 18) (by lia)
  have e:10 ^ 18-12+(x+12-10 ^ 18)=x:=by lia
  rw[e] at this
  exact this
def szI(c:Int):Int:=(c%10 ^ 18+1)*48271%99991%9
theorem qy3(c:Int):0<=szI c/\szI c<9:=⟨Int.emod_nonneg _ (by decide),Int.emod_lt_of_pos _ (by decide)⟩
theorem qy2(c:Int)(x:Nat)(h:c%10 ^ 18=(x:Int))(k:Nat):szI (c+k)=(szN ((x+k)%10 ^ 18+1):Nat):=by
 unfold szI szN
 have e:(c+(k:Int))%10 ^ 18=(((x+k)%10 ^ 18:Nat):Int):=by
  rw[←Int.emod_add_emod c,h,Int.natCast_emod,Int.natCast_add]
  exact rfl
 rw[e]
 generalize (x+k)%10 ^ 18=y
 rw[Int.natCast_emod,Int.natCast_emod,Int.natCast_mul,Int.natCast_add]
 exact rfl
theorem q19(c:Int)(n:Nat)(hn:n<=12):sumF (λk=>(szI (c+k)).toNat) n<=62:=by
 have h0:0<=c%10 ^ 18:=Int.emod_nonneg _ (by decide)
 obtain⟨x,hx⟩:∃x:Nat,c%10 ^ 18=(x:Int):=⟨(c%10 ^ 18).toNat,by lia⟩
 have:=qyy x n hn
 rw[qed n λk _=>by rw[qy2 c x hx k,Int.toNat_natCast]]
 exact this
end L2
namespace L2
open PySem PySem.Spec PyProof.Rows
section
variable {K:PySem.W.Frag} {B:Hp} {ad:Addr}
end
section
variable {X:Cx} {EX:St->XK} {pos p:Pos} {x y:Str} {es:List Expr} {tA:TVA}
end
end L2
namespace L2
open PySem PySem.Spec PyProof.Rows
structure PaneC(p:List Row):Prop where
 so:qa1 p
 cl:∀r∈p,r.1=[]\/r.1.dropLast=[]\/∃q∈p,q.1=r.1.dropLast/\q.2.1≠qbn
section
variable {α:Type} {f:α->D} {τ:VSt} {k:Nat} {g:TVG} {ti:TVT} {te:TV} {Q:R->Prop}
end
def qav(ps:List (List Row)):D:=.lst (ps.map qai)
theorem qzr:∀ps qs:List (List Row),qb2 (ps.map qai) (qs.map qai)=true
|[],_=>by cases ‹List (List Row)›<;>rfl
|_::_,[]=>rfl
|a::ps,b::qs=>by
  show qb2 (qai a::ps.map qai) (qai b::qs.map qai)=true
  unfold qb2
  rw[q23,qzr ps qs]
  rfl
theorem qwv(ps qs:List (List Row)):cmpD (qav ps) (qav qs)=true:=by
 show cmpD (.lst _) (.lst _)=true
 unfold cmpD
 exact qzr ps qs
theorem qzv:∀ps:List (List Row),qbt (ps.map qai)<=21
|[]=>by
  show qbt []<=21
  unfold qbt
  lia
|a::ps=>by
  show qbt (qai a::ps.map qai)<=21
  unfold qbt
  have:=q24 a
  have:=qzv ps
  lia
theorem qwz(ps:List (List Row)):depD (qav ps)<=50:=by
 show depD (.lst _)<=50
 unfold depD
 have:=qzv ps
 lia
theorem qvg(r:Row):∀ts:List Row,qa1 ts->r.1∉ts.map (·.1)->∃us:List Row,us.Perm (r::ts)/\qa1 us
|[],_,_=>⟨[r],.refl _,List.pairwise_singleton _ _⟩
|t::ts,h,hn=>by
  have h':=List.pairwise_cons.mp h
  rw[List.map_cons,List.mem_cons,not_or] at hn
  rcases ql2 hn.1 with q|q
  ·refine⟨r::t::ts,.refl _,List.pairwise_cons.mpr ⟨λx hx=>?_,h⟩⟩
   rcases List.mem_cons.mp hx with e|hx
   ·rw[e];exact q
   ·exact qq7 q (h'.1 x hx)
  ·obtain⟨us,p1,p2⟩:=qvg r ts h'.2 hn.2
   refine⟨t::us,(p1.cons t).trans (.swap r t ts),List.pairwise_cons.mpr ⟨λx hx=>?_,p2⟩⟩
   rcases List.mem_cons.mp (p1.mem_iff.mp hx) with e|hx
   ·rw[e];exact q
   ·exact h'.1 x hx
theorem qr6:∀rs:List Row,(rs.map (·.1)).Nodup->∃ts:List Row,ts.Perm rs/\qa1 ts
|[],_=>⟨[],.nil,.nil⟩
|r::rs,h=>by
  rw[List.map_cons,List.nodup_cons] at h
  obtain⟨ts,p1,p2⟩:=qr6 rs h.2
  obtain⟨us,q1,q2⟩:=qvg r ts p2 λm=>h.1 (((p1.map (·.1)).mem_iff).mp m)
  exact⟨us,q1.trans (p1.cons r),q2⟩
theorem quk{rs:List Row}(h:(rs.map (·.1)).Nodup):(qr5 rs).Perm rs/\qa1 (qr5 rs):=by
 obtain⟨ts,p1,p2⟩:=qr6 rs h
 rw[qjl p1 p2]
 exact⟨p1,p2⟩
theorem qxe{p tr:List Row}(P:PaneOk p)(T:TreeOk tr):TreeOk (qc5 p tr)/\(qc5 p tr).Perm (qan p tr++putR p) :=
 let ⟨p1,p2⟩:=quk (qlx (qbh P.so) (qbh T.so))
 ⟨qgt P T p1 p2,p1⟩
def s5(u:Nat):Nat:=u%99991%8+(u+96542*1)%99991%8+(u+96542*2)%99991%8+(u+96542*3)%99991%8+(u+96542*4)%99991%8
theorem v_if{t:TVT}{a b:TVS}{Dv:VEnds}{τ:VSt}(P:Bool->Prop)(ht:∀Y:Bool->Prop,(∀c,P c->Y c)->t τ Y)(ha:P true->a Dv τ)(hb:P false->b Dv τ):vIfS t a b Dv τ :=
 ht _ λc hc=>by
  cases c with
 |true=>exact iteT (ha hc)
 |false=>exact iteF (hb hc)
end L2
namespace L2
open PySem PySem.Spec PyProof.Rows
section
variable {X:Cx} {pins:List (Addr×Obj)} {σ:St} {H:Hp} {s:Shared} {h':Heap}
end
section
variable {X:Cx} {elts:List Expr} {kk:Nat} {tp p pos:Pos}
end
section
variable {X:Cx} {EX:St->XK} {elts:List Expr} {kk:Nat} {tp p pos:Pos} {K:PySem.W.Frag} {B:Hp} {a:Expr} {ta:TV}
end
end L2
namespace L2
open PySem PySem.Spec PyProof.Rows
section
variable {prog:Program} {w:World} {A:Around}
end
section
variable {X:Cx} {p kp pos:Pos} {a d:Expr}
end
section
variable {X:Cx} {EX:St->XK} {p kp pos cp:Pos} {a:Expr} {te:TV} {j:Nat}
end
end L2
namespace L2
open PySem PySem.Spec PyProof.Rows
section
variable {X:Cx} {EX:St->XK} {pos pos' p apos cpos:Pos} {x y:Str} {e:Expr}
end
end L2
namespace L2
open PySem PySem.Spec PyProof.Rows
section
variable {X:Cx} {pins:List (Addr×Obj)} {σ:St} {H:Hp} {s:Shared} {tg:Expr}
end
section
variable {X:Cx} {EX:St->XK} {K:PySem.W.Frag} {B H:Hp} {tg:Expr} {x:Str} {pos:Pos} {rest:List Stmt} {t:TVS}
end
end L2
namespace L2
open PySem PySem.Spec PyProof.Rows
section
variable {X:Cx}
end
section
variable {X:Cx} {EX:St->XK} {pos pos' p apos cpos:Pos} {x:Str} {e:Expr} {es:List Expr} {te:TV} {tA:TVA} {K:PySem.W.Frag} {B B' H H0:Hp} {τ:VSt} {σ:St}
end
end L2
namespace L2
open PySem PySem.Spec PyProof.Rows
section
variable {X:Cx} {pins:List (Addr×Obj)} {σ:St} {H:Hp} {s:Shared} {st:Stmt} {rest:List Stmt}
end
section
variable {X:Cx} {EX:St->XK} {K:PySem.W.Frag} {B B' H H0:Hp} {τ:VSt} {σ:St} {x:Str} {e:Expr} {te:TV} {rest:List Stmt} {u:TVS} {pos pos':Pos}
end
end L2
namespace L2
open PySem PySem.Spec PyProof.Rows
section
variable {X:Cx} {EX:St->XK} {pos p cpos:Pos} {x y:Str} {e:Expr} {es:List Expr} {tA:TVA} {K:PySem.W.Frag} {B B' H H0:Hp} {τ:VSt} {σ:St}
end
end L2
namespace L2
open PySem PySem.Spec PyProof.Rows
section
variable {X:Cx} {elts:List Expr} {kk:Nat} {tp p pos:Pos}
end
section
variable {X:Cx} {EX:St->XK} {elts:List Expr} {kk:Nat} {tp p pos:Pos} {K:PySem.W.Frag} {B:Hp} {a b:Expr} {ta tb:TV}
end
section
variable {X:Cx} {EX:St->XK}
end
end L2
namespace L2
open PySem PySem.Spec PyProof.Rows Builtin.Str
section
variable {X:Cx}
abbrev TJ:=St->Hp->Str->VK->Prop
structure QJ(X:Cx)(vs:List Expr)(t:TJ):Prop where
 u:∀(pins:List (Addr×Obj)) (s:Shared) (σ:St) (H:Hp) (out:Str) (Q:VK),Inv X pins σ H s->t σ H out Q->wpAny (model X.prog X.w) X.A (joinParts out (evalEach vs X.env)) (EP X pins σ Q) X.xe s
end
section
variable {X:Cx} {EX:St->XK} {K:PySem.W.Frag} {o e e1 e2:Expr} {to te t1 t2:TV} {apos cpos p pos:Pos} {x:Str} {rest:List Expr}
abbrev TVJ:=VSt->Str->(R->Prop)->Prop
def RfJ(K:PySem.W.Frag)(t:TJ)(u:TVJ):Prop:=∀(H0 B H:Hp) (τ:VSt) (σ:St) (out:Str) (Q:VK) (Qd:R->Prop),Same B H->Slots K H0 B H τ σ->u τ out Qd->(∀r v B' H',Stp B H B' H'->RepR K B' H H' r v->Qd r->Q v H')->t σ H out Q
structure VJ(X:Cx)(EX:St->XK)(vs:List Expr)(t:TVJ):Prop where
 u:∃tj,QJ X vs tj/\RfJ X.K tj t
end
end L2
namespace L2
open PySem PySem.Spec PyProof.Rows
section
variable {X:Cx} {EX:St->XK} {K:PySem.W.Frag} {B H H0:Hp} {e:Expr} {t:TV} {τ:VSt} {σ:St}
end
end L2
namespace L2
open PySem PySem.Spec PyProof.Rows
section
variable {X:Cx} {EX:St->XK} {K:PySem.W.Frag} {B H B' H' H0 B0 B1 H1:Hp} {st:Stmt} {rest:List Stmt} {t u:TVS} {e a:Expr} {te ta:TV} {tT:TVT} {tA:TVA} {es:List Expr} {pos pos' p p2 apos cpos:Pos} {x y:Str} {τ:VSt} {σ:St} {r:R} {v:V}
def RfAI(K:PySem.W.Frag)(EX:St->XK)(te:TA)(t:TVA)(k j:Nat):Prop:=∀(H0 B H:Hp) (τ:VSt) (σ:St) (Q:List V->Hp->Prop) (Qd:AR->Prop),Same B H->Slots K H0 B H τ σ->(∃c ps,τ[j]?=some (some (R.own (.io c ps))))->t τ Qd->(∀n C B' H',Stp B H B' H'->clsOf K n C->Qd (.exc n)->EX σ (.ref C) none H') ->
 (∀ds vs B' H' ad,Stp B H B' H'->k<=vs.length->σ[j]?=some (some (.ref ad))->Reps K B' ds vs->Qd (.ok ds)->Q (vs.insertIdx k (.ref ad)) H')->te σ H Q
structure VAI(X:Cx)(EX:St->XK)(es:List Expr)(t:TVA)(k j:Nat):Prop where
 u:∃te,QA X es te/\RfAI X.K EX te t k j
end
section
variable {K:PySem.W.Frag} {x qual:Str} {st:Stmt} {f:Addr} {fd:FuncData} {ps:List Str}
theorem qci{α:Type}{us:List α}{n:Nat}(h:us.length=n+1):∃a t,us=a::t/\t.length=n:=by
 cases us with
|nil=>cases h
|cons a t=>exact⟨a,t,rfl,Nat.succ.inj h⟩
theorem Fun.binds1(F:Fun K x qual st f fd)(hp:ps.length=1)(h:∀(kV doc pm:Value) (an:Option Addr) (cdv ct a0:Value),bindArgs (PySem.W.fnOf x qual (qb8 st) (qbl st) (qad st) .none kV doc pm an cdv ct) ⟨[a0],[]⟩=pure (ps.zip [a0])):Binds K fd ps [] :=
 F.binds λkV doc pm an cdv ct us hl=>by
  obtain⟨a0,t,rfl,h0⟩:=qci (hl.trans hp)
  cases List.length_eq_zero_iff.mp h0
  exact h kV doc pm an cdv ct a0
theorem Fun.binds2(F:Fun K x qual st f fd)(hp:ps.length=2)(h:∀(kV doc pm:Value) (an:Option Addr) (cdv ct a0 a1:Value),bindArgs (PySem.W.fnOf x qual (qb8 st) (qbl st) (qad st) .none kV doc pm an cdv ct) ⟨[a0,a1],[]⟩=pure (ps.zip [a0,a1])):Binds K fd ps [] :=
 F.binds λkV doc pm an cdv ct us hl=>by
  obtain⟨a0,t,rfl,h0⟩:=qci (hl.trans hp)
  obtain⟨a1,t,rfl,h1⟩:=qci h0
  cases List.length_eq_zero_iff.mp h1
  exact h kV doc pm an cdv ct a0 a1
theorem Fun.binds3(F:Fun K x qual st f fd)(hp:ps.length=3)(h:∀(kV doc pm:Value) (an:Option Addr) (cdv ct a0 a1 a2:Value),bindArgs (PySem.W.fnOf x qual (qb8 st) (qbl st) (qad st) .none kV doc pm an cdv ct) ⟨[a0,a1,a2],[]⟩=pure (ps.zip [a0,a1,a2])):Binds K fd ps [] :=
 F.binds λkV doc pm an cdv ct us hl=>by
  obtain⟨a0,t,rfl,h0⟩:=qci (hl.trans hp)
  obtain⟨a1,t,rfl,h1⟩:=qci h0
  obtain⟨a2,t,rfl,h2⟩:=qci h1
  cases List.length_eq_zero_iff.mp h2
  exact h kV doc pm an cdv ct a0 a1 a2
theorem Fun.binds4(F:Fun K x qual st f fd)(hp:ps.length=4)(h:∀(kV doc pm:Value) (an:Option Addr) (cdv ct a0 a1 a2 a3:Value),bindArgs (PySem.W.fnOf x qual (qb8 st) (qbl st) (qad st) .none kV doc pm an cdv ct) ⟨[a0,a1,a2,a3],[]⟩=pure (ps.zip [a0,a1,a2,a3])):Binds K fd ps [] :=
 F.binds λkV doc pm an cdv ct us hl=>by
  obtain⟨a0,t,rfl,h0⟩:=qci (hl.trans hp)
  obtain⟨a1,t,rfl,h1⟩:=qci h0
  obtain⟨a2,t,rfl,h2⟩:=qci h1
  obtain⟨a3,t,rfl,h3⟩:=qci h2
  cases List.length_eq_zero_iff.mp h3
  exact h kV doc pm an cdv ct a0 a1 a2 a3
end
end L2
namespace L2
open PySem PySem.Spec PyProof.Rows
section
variable {X:Cx} {EX:St->XK} {a b e:Expr} {es:List Expr} {pos p tp:Pos} {tA:TVA} {te:TV}
end
end L2
namespace L2
open PySem PySem.Spec PyProof.Rows
section
variable {X:Cx} {EX:St->XK} {K:PySem.W.Frag} {B H B' H' H0 B0 B1 H1:Hp} {st:Stmt} {rest:List Stmt} {t u:TVS} {e a:Expr} {te ta tk:TV} {tT:TVT} {tA:TVA} {es:List Expr} {pos pos' p p2 apos cpos:Pos} {x y:Str} {τ:VSt} {σ:St} {r:R} {v:V}
def q2z(K:PySem.W.Frag)(EX:St->XK)(te:TA)(t:TVA)(k j:Nat):Prop:=∀(H0 B H:Hp) (τ:VSt) (σ:St) (Q:List V->Hp->Prop) (Qd:AR->Prop),Same B H->Slots K H0 B H τ σ->(∃ks ps,τ[j]?=some (some (R.own (.dT ks ps))))->t τ Qd->(∀n C B' H',Stp B H B' H'->clsOf K n C->Qd (.exc n)->EX σ (.ref C) none H') ->
 (∀ds vs B' H' ad,Stp B H B' H'->k<=vs.length->σ[j]?=some (some (.ref ad))->Reps K B' ds vs->Qd (.ok ds)->Q (vs.insertIdx k (.ref ad)) H')->te σ H Q
structure VAIT(X:Cx)(EX:St->XK)(es:List Expr)(t:TVA)(k j:Nat):Prop where
 u:∃te,QA X es te/\q2z X.K EX te t k j
end
section
variable {X:Cx} {p kp pos:Pos} {a d:Expr}
end
section
variable {X:Cx} {EX:St->XK} {p kp pos cp:Pos} {a:Expr} {te:TV} {j:Nat}
end
section
variable {prog:Program} {w:World} {A:Around} {E:Value->Shared->Prop} {s:Shared} {d:Addr} {es:Array DictEntry} {ep:Nat}
end
section
variable {X:Cx}
end
section
variable {P:Program} {w:World} {K:PySem.W.Frag} {mg:Str->Option Value} {base h:Heap} {x:Str} {st:Stmt} {k:Nat} {ps:List Str} {sp:Sp}
def qcy(K:PySem.W.Frag)(x:Str)(st:Stmt):Prop:=∃(f:Addr) (fd:FuncData),PySem.W.nsIn K mainGlobals x=some (some (.ref f))/\Fun K x x st f fd
theorem q35{f:Addr}{oc:Value}{od an:Option Addr}{osl:Array (Option Value)}{kV doc pm cdv ct:Value}(a:PySem.W.nsIn K mainGlobals x=some (some (.ref f)))(l:K.lookup f=some ⟨oc,od,.func (PySem.W.fnOf x x (qb8 st) (qbl st) (qad st) .none kV doc pm an cdv ct),osl⟩)
  (c:PySem.W.codeIn K cdv x=true) (q:PySem.W.keepIn K (.ref f)=true):qcy K x st:=⟨f,_,a,qni l c q⟩
theorem calD(P:Program)(w:World)(base:Heap)(X:K.In h)(G:h.Ns mainGlobals mg)(D:qcy K x st)(ok:∀ {f:Addr} {fd:FuncData},Fun K x x st f fd->FnOk P w K mg base CX0 k f fd ps sp)(b:∀ {f:Addr} {fd:FuncData},Fun K x x st f fd->Binds K fd ps []):Cal P w K mg base k x ps sp :=
 let ⟨_,_,a,F⟩:=D;.mk (ok F) (PySem.W.mg_of X G a) F.kp (b F)
end
end L2
namespace L2
open PySem PySem.Spec PyProof.Rows
section
variable {X:Cx}
end
end L2
namespace L2
open PySem PySem.Spec PyProof.Rows
section
variable {X:Cx} {EX:St->XK} {K:PySem.W.Frag} {B B' H H0:Hp} {τ:VSt} {σ:St} {x:Str} {e:Expr} {te:TV} {rest:List Stmt} {u:TVS} {pos pos':Pos}
end
end L2
namespace L2
open PySem PySem.Spec PyProof.Rows
section
variable {X:Cx} {EX:St->XK} {e a o i:Expr} {te ta to ti:TV} {pos pos' p p2 apos cpos:Pos} {x:Str} {f:Expr} {tf:TV}
end
end L2
namespace L2
open PySem PySem.Spec PyProof.Rows
section
variable {X:Cx}
end
end L2
namespace PySem
section
variable {prog:Program} {w:World} {K:Type} [DecidableEq K] {knd:HeapKind prog w K} {A:Around} {E:Value->Shared->Prop} {s:Shared}
end
section
variable {prog:Program} {w:World} {K:Type} [DecidableEq K] (knd:HeapKind prog w K) (d a:Addr)
end
end PySem
namespace L2
open PySem PySem.Spec PyProof.Rows
section
variable {X:Cx} {pins:List (Addr×Obj)} {σ:St} {H:Hp} {s:Shared} {a b:Addr} {u r:Value} {d:V} {A:Around} {E:Value->Shared->Prop}
end
end L2
namespace L2
open PySem PySem.Spec PyProof.Rows
section
variable {X:Cx} {o e f:Expr} {apos cpos:Pos} {td ty tx:TE}
end
section
variable {X:Cx} {EX:St->XK} {K:PySem.W.Frag} {B H B' H' H0 B0 B1 H1:Hp} {st:Stmt} {rest:List Stmt} {t u:TVS} {e f a:Expr} {te ta tk tf:TV} {tT:TVT} {tA:TVA} {es:List Expr} {pos pos' p p2 p3 apos cpos:Pos} {x y:Str} {τ:VSt} {σ:St} {r:R} {v:V}
end
end L2
namespace L2
open PySem PySem.Spec PyProof.Rows
section
variable {P:Program} {w:World} {K:PySem.W.Frag} {mg:Str->Option Value} {base:Heap}
inductive CalM(P:Program)(w:World)(K:PySem.W.Frag)(mg:Str->Option Value)(base:Heap)(k:Nat)(m:Str)(ps:List Str)(sp:Sp):Prop where
|mk {C f:Addr} {fd:FuncData} (F:FnOk P w K mg base CX0 k f fd ps sp) (hc:clsOf K "Glass" C) (cl:Cls K C) (hm:Meth K C m f) (hb:Binds K fd ps [])
inductive CalMX(P:Program)(w:World)(K:PySem.W.Frag)(mg:Str->Option Value)(base:Heap)(k:Nat)(m:Str)(ps:List Str)(sp:Sp):Prop where
|mk {C f:Addr} {fd:FuncData} (F:FnOk P w K mg base (CXR P w) k f fd ps sp) (hc:clsOf K "Glass" C) (cl:Cls K C) (hm:Meth K C m f) (hb:Binds K fd ps [])
inductive CalC(P:Program)(w:World)(K:PySem.W.Frag)(mg:Str->Option Value)(base:Heap)(k:Nat)(x:Str)(ps:List Str)(sp:Sp):Prop where
|mk {C f:Addr} {fd:FuncData} (F:FnOk P w K mg base CX0 k f fd ps sp) (hc:clsOf K "Glass" C) (hm:mg x=some (.ref C)) (M:Mk K C f) (hb:Binds K fd ps [])
def OCls(K:PySem.W.Frag):Prop:=∃C,clsOf K "Glass" C/\Cls K C/\NoAttr K C "layers"
end
section
variable {X:Cx} {EX:St->XK} {K:PySem.W.Frag} {B H B' H' H0 B0 B1 H1:Hp} {st:Stmt} {rest:List Stmt} {t u:TVS} {e a:Expr} {te ta tk:TV} {tA:TVA} {es:List Expr} {pos pos' p p0 p1 p2 p3 p4 apos cpos:Pos} {x y x0 m:Str} {τ:VSt} {σ:St} {r:R} {v:V}
end
end L2
namespace L2
open PySem PySem.Spec PyProof.Rows
section
variable {X:Cx} {EX:St->XK} {o e:Expr} {es:List Expr} {ta:TE} {t:TA} {pos apos:Pos} {m:Str} {C f:Addr} {fd:FuncData} {k:Nat} {ps:List Str} {sp:Sp}
def q2c(C:Addr)(m:Str)(sp:Sp)(EX:St->XK)(ta:TE)(t:TA):TE:=λσ H Q=>ta σ H λx H1=>∃a dx fs,x=.ref a/\H1 a=some (.ins C dx fs)/\fs.lookup m=none/\t σ H1 λvs H2=>sp (x::(vs++[])) H2 Q (EX σ)
end
section
variable {X:Cx} {EX:St->XK} {K:PySem.W.Frag} {B H B' H' H0 B0 B1 H1 B2 H2:Hp} {t u:TVS} {e a:Expr} {te ta tk:TV} {tA:TVA} {es:List Expr} {pos pos' p p0 p1 p2 p3 p4 apos cpos:Pos} {x y x0 m:Str} {τ:VSt} {σ:St} {r:R} {v:V}
end
section
variable {K:PySem.W.Frag} {mg:Str->Option Value} {h:Heap} {C:Addr} {m qual:Str} {st:Stmt} {k:Nat} {ps:List Str} {sp:Sp}
def qwi(K:PySem.W.Frag)(y x:Str)(st:Stmt):Prop:=∃(f:Addr) (fd:FuncData),PySem.W.nsIn K mainGlobals y=some (some (.ref f))/\Fun K x x st f fd
theorem q34{y x:Str}{f:Addr}{oc:Value}{od an:Option Addr}{osl:Array (Option Value)}{kV doc pm cdv ct:Value}(a:PySem.W.nsIn K mainGlobals y=some (some (.ref f)))(l:K.lookup f=some ⟨oc,od,.func (PySem.W.fnOf x x (qb8 st) (qbl st) (qad st) .none kV doc pm an cdv ct),osl⟩)
  (c:PySem.W.codeIn K cdv x=true) (q:PySem.W.keepIn K (.ref f)=true):qwi K y x st:=⟨f,_,a,qni l c q⟩
theorem q21{y x:Str}(P:Program)(w:World)(base:Heap)(X:K.In h)(G:h.Ns mainGlobals mg)(D:qwi K y x st)(ok:∀ {f:Addr} {fd:FuncData},Fun K x x st f fd->FnOk P w K mg base CX0 k f fd ps sp)(b:∀ {f:Addr} {fd:FuncData},Fun K x x st f fd->Binds K fd ps []):Cal P w K mg base k y ps sp :=
 let ⟨_,_,a,F⟩:=D;.mk (ok F) (PySem.W.mg_of X G a) F.kp (b F)
def MethAt(K:PySem.W.Frag)(C:Addr)(m qual:Str)(st:Stmt):Prop:=∃(f:Addr) (fd:FuncData),PySem.W.findIn K (.ref C) m=some (some (.ref f))/\PySem.W.isFn K (.ref f)=true/\Fun K m qual st f fd
theorem q36{f:Addr}{oc:Value}{od an:Option Addr}{osl:Array (Option Value)}{kV doc pm cdv ct:Value}(a:PySem.W.findIn K (.ref C) m=some (some (.ref f)))(i:PySem.W.isFn K (.ref f)=true)(l:K.lookup f=some ⟨oc,od,.func (PySem.W.fnOf m qual (qb8 st) (qbl st) (qad st) .none kV doc pm an cdv ct),osl⟩)
  (c:PySem.W.codeIn K cdv qual=true) (q:PySem.W.keepIn K (.ref f)=true):MethAt K C m qual st:=⟨f,_,a,i,qni l c q⟩
theorem calM(P:Program)(w:World)(base:Heap)(hc:clsOf K "Glass" C)(cl:Cls K C)(D:MethAt K C m qual st)(ok:∀ {f:Addr} {fd:FuncData},Fun K m qual st f fd->FnOk P w K mg base CX0 k f fd ps sp)(b:∀ {f:Addr} {fd:FuncData},Fun K m qual st f fd->Binds K fd ps []):CalM P w K mg base k m ps sp :=
 let ⟨_,_,a,i,F⟩:=D;.mk (ok F) hc cl ⟨a,i,F.kp⟩ (b F)
theorem q22(P:Program)(w:World)(base:Heap)(hc:clsOf K "Glass" C)(cl:Cls K C)(D:MethAt K C m qual st)(ok:∀ {f:Addr} {fd:FuncData},Fun K m qual st f fd->FnOk P w K mg base (CXR P w) k f fd ps sp)(b:∀ {f:Addr} {fd:FuncData},Fun K m qual st f fd->Binds K fd ps []):CalMX P w K mg base k m ps sp :=
 let ⟨_,_,a,i,F⟩:=D;.mk (ok F) hc cl ⟨a,i,F.kp⟩ (b F)
theorem calC(P:Program)(w:World)(base:Heap)(X:K.In h)(G:h.Ns mainGlobals mg)(hc:clsOf K "Glass" C)(mk:PySem.W.makesIn K C=true)(kc:PySem.W.keepIn K (.ref C)=true)(D:MethAt K C "__init__" qual st)(ok:∀ {f:Addr} {fd:FuncData},Fun K "__init__" qual st f fd->FnOk P w K mg base CX0 k f fd ps sp)(b:∀ {f:Addr} {fd:FuncData},Fun K "__init__" qual st f fd->Binds K fd ps []):CalC P w K mg base k "Glass" ps sp :=
 let ⟨_,_,a,i,F⟩:=D;.mk (ok F) hc (PySem.W.mg_of X G hc) ⟨mk,a,i,kc⟩ (b F)
end
end L2
namespace L2
open PySem PySem.Spec PyProof.Rows
section
variable {X:Cx} {EX:St->XK} {pos:Pos} {t:TVS}
end
end L2
set_option maxHeartbeats 4000000
namespace K70
open PySem L2
local macro_rules|`(tactic| simp! only[$xs,*])=>`(tactic| simp only[vSeq,vIfS,vBl,vOp,vLt,vLe,vGt,vGe,vI2',vI2,vVar,vF1,vLen,q2j,qic,qwg,vStr,vRet,qk7,q2k,vIxR,qcz,vC,vAdd,vSub,vMul,vDiv,vMod,vPow,vEq,vNe,qfa,vSlR,qdk,qjv,vNeg,qse,qar,qaa,vNil,vTup,vLst,vSet,qes,qhj,ownL,vFor,qjw,q2l,qcx,qjt,qju,isTy,qft,qe9,vOrT,qut,qmr,vOrE,vIfE,vAsg,qa9,qpe,qdp,qpf,vFrz,frz,q2h,vAll,q2i,vIsN,qbg,dV,scal,qv3,qv2,qrv,qv1,qrp,qro,qvf,qve,qqd,qvd,qp8,qp7,qnd,qp6,qqc,qqb,qne,qqa,qvb,qkl,qvc,qp9,qra,qnw,qwf,vTry,VEnds.calm,VEnds.wiped,qms,vDIn,qn8,qf3,qhk,ownT,qet,qsd,quj,vNeD,vIn,strsOf,qfs,Option.map_some,List.map_cons,List.map_nil,List.length_cons,List.length_nil,List.cons_append,List.nil_append,List.getElem?_cons_zero,List.getElem?_cons_succ,List.set_cons_zero,List.set_cons_succ,List.replicate_succ,List.replicate_zero,Nat.reduceSub,Nat.reduceAdd,if_true,if_false,ite_true,ite_false,Bool.not_true,Bool.not_false,decide_true,decide_false,eq_int,eq_str,qpu,qlo,qp1,qp2,true_and,and_true,Nat.zero_le,List.take_succ_cons,List.take_zero,reduceIte,Bool.false_eq_true,eq_self,List.length_map,V.int.injEq,V.str.injEq,CDiv,Int.reduceLT,Int.zero_add,and_self,List.cons.injEq,D.scr.injEq,D.int.injEq,D.str.injEq,D.tup.injEq,D.lst.injEq,D.bl.injEq,and_assoc,exists_and_left,exists_eq_left,exists_eq_left',qeo,qg1,qn3,qn2,qna,qps,qil,Int.reduceLE,Int.le_refl,qn7,qkj,qpq,qmy,Option.some.injEq,$xs,*])
local macro_rules|`(tactic| dsimp! only[$xs,*])=>`(tactic| simp only[vIfS,vBl,vOp,vLt,vLe,vGt,vGe,vI2',vI2,vVar,vF1,vLen,q2j,qic,qwg,vStr,vRet,qk7,q2k,vIxR,qcz,vC,vAdd,vSub,vMul,vDiv,vMod,vPow,vEq,vNe,qfa,vSlR,qdk,qjv,vNeg,qse,qar,qaa,vNil,vTup,vLst,vSet,qes,qhj,ownL,vFor,qjw,q2l,qcx,qjt,qju,isTy,qft,qe9,vOrT,qut,qmr,vOrE,vIfE,vAsg,qa9,qpe,qdp,qpf,vFrz,frz,q2h,vAll,q2i,vIsN,qbg,dV,scal,qv3,qv2,qrv,qv1,qrp,qro,qvf,qve,qqd,qvd,qp8,qp7,qnd,qp6,qqc,qqb,qne,qqa,qvb,qkl,qvc,qp9,qra,qnw,qwf,vTry,VEnds.calm,VEnds.wiped,qms,vDIn,qn8,qf3,qhk,ownT,qet,qsd,quj,vNeD,vIn,strsOf,qfs,Option.map_some,List.map_cons,List.map_nil,List.length_cons,List.length_nil,List.cons_append,List.nil_append,List.getElem?_cons_zero,List.getElem?_cons_succ,List.set_cons_zero,List.set_cons_succ,List.replicate_succ,List.replicate_zero,Nat.reduceSub,Nat.reduceAdd,if_true,if_false,ite_true,ite_false,Bool.not_true,Bool.not_false,decide_true,decide_false,eq_int,eq_str,qpu,qlo,qp1,qp2,true_and,and_true,Nat.zero_le,List.take_succ_cons,List.take_zero,reduceIte,Bool.false_eq_true,eq_self,List.length_map,V.int.injEq,V.str.injEq,CDiv,Int.reduceLT,Int.zero_add,and_self,List.cons.injEq,D.scr.injEq,D.int.injEq,D.str.injEq,D.tup.injEq,D.lst.injEq,D.bl.injEq,and_assoc,exists_and_left,exists_eq_left,exists_eq_left',qeo,qg1,qn3,qn2,qna,qps,qil,Int.reduceLE,Int.le_refl,qn7,qkj,qpq,qmy,Option.some.injEq,$xs,*])
local macro_rules | `(tactic| rfl')=>`(tactic| dsimp! only [true_and])
local macro_rules | `(tactic| ac_rfl)=>`(tactic| simp! only [true_and])
def NS:Str:="abcdefghijklmnopqrstuvwxyz0123456789"
def qby(ns:List Int)(k:Int):Int:=(ns[k.toNat]?).getD 0
def qao:DP:=λds Q=>∃ns k,ds=[.scr ns,.int k]/\0<=k/\Q (.val (.int (qby ns k)))
theorem qly:∀ds Q,qao ds Q->ds.length=2:=by rintro ds Q ⟨_,_,rfl,_⟩;rfl
def qay:DP:=λds Q=>∃c t m,ds=[.int c,.int t,.int m]/\0<=t/\0<m/\∀i,0<=i->i<m->(t=0->i=(c%10 ^ 18+1)*48271%99991%m)->Q (.val (.int i))
theorem qqz:∀ds Q,qay ds Q->ds.length=3:=by rintro ds Q ⟨_,_,_,rfl,_⟩;rfl
def qbu:DP:=λds Q=>∃c v,ds=[.int c,.int v]/\0<=c/\c<10 ^ 18/\0<=v/\∀z:Str,1<=z.length->z.length<=12->Q (.val (.str z))
theorem qlz:∀ds Q,qbu ds Q->ds.length=2:=by rintro ds Q ⟨_,_,rfl,_⟩;rfl
abbrev En(Q:R->Prop):VEnds:={ nx:=λ_=>Q (.val .non),rt:=Q }
def qc7:DP:=λds Q=>∃m c s v,ds=[.str m,.int c,.int s,.int v]/\0<=s/\s<10 ^ 18/\0<v/\∀z:Str,(m≠qde->m≠qdf->z=qd5)->Q (.val (.str z))
theorem ql1:∀ds Q,qc7 ds Q->ds.length=4:=by rintro ds Q ⟨_,_,_,_,rfl,_⟩;rfl
def qfj:DP:=λds Q=>∃(ns:List Int) (a b m:Int),ds=[.scr ns,.int a,.int b,.int m]/\0<=a/\0<=b/\0<=m/\m<=60/\∀cs:List Int,cs.length=m.toNat->Q (.own (.lst (cs.map D.int)))
def qb0:DP:=λds Q=>∃rs w,ds=[qap (rs.map prR),wayD w]/\("" : Str)∉w/\w.length<=1000/\Q (.val (.bl (qhd rs w)))
def qzk(n:Nat)(p:List Row):Prop:=PaneOk p/\(∀r∈p,Wy14 r.1)/\bulk p<=n/\p.length<=n+1/\∀r∈p,r.2.1=qbn\/r.2.1=qbr->qbf p r.1=false
def qdy:DP:=λds Q=>∃(cs:List Int) (s:Int),ds=[.lst (cs.map D.int),.int s]/\cs.length<=60/\0<=s/\s<10 ^ 18/\∀p,qzk cs.length p->Q (.own (qai p))
theorem qqx:∀ds Q,qfj ds Q->ds.length=4:=by rintro ds Q ⟨_,_,_,_,rfl,_⟩;rfl
theorem qhr:∀ds Q,qb0 ds Q->ds.length=2:=by rintro ds Q ⟨_,_,rfl,_⟩;rfl
theorem ql0:∀ds Q,qdy ds Q->ds.length=2:=by rintro ds Q ⟨_,_,rfl,_⟩;rfl
def NmOk(rs:List Row):Prop:=∀r∈rs,Wy14 r.1
def qen:DP:=λds Q=>∃w,ds=[wayD w]/\Q (.val (wayD w.dropLast))
def qcs:DP:=λds Q=>∃rs:List Row,ds=[qai rs]/\(rs.map (·.1)).Nodup/\∀ts:List Row,ts.Perm rs->qa1 ts->Q (.own (qai ts))
def qb9:DP:=λds Q=>∃p:List Row,ds=[qai p]/\(p.map (·.1)).Nodup/\NmOk p/\p.length<=200/\Q (.own (qap (p.map prM)))
def qfk:DP:=λds Q=>∃o:Option Str,ds=[(o.map D.str).getD .non]/\Q (.val (.bl (qb4 o)))
def qb3:DP:=λds Q=>∃p tr:List Row,ds=[qai p,qai tr]/\(p.map (·.1)).Nodup/\NmOk p/\p.length<=200/\Clo tr/\NmOk tr/\tr.length<=200/\Q (.own (qap ((hidW p tr).map λw=>(w,.bl true))))
def qbz:DP:=λds Q=>∃p tr:List Row,ds=[qai p,qai tr]/\(p.map (·.1)).Nodup/\NmOk p/\p.length<=200/\Clo tr/\NmOk tr/\tr.length<=200/\Q (.own (qai (qan p tr)))
def qfl:DP:=λds Q=>∃w m t,ds=[wayD w,.str m,.str t]/\Q (.val (rowD (qe7 (w,m,t))))
def qf1:DP:=λds Q=>∃p tr:List Row,ds=[qai p,qai tr]/\PaneOk p/\NmOk p/\p.length<=200/\TreeOk tr/\NmOk tr/\tr.length+bulk p<=200/\(TreeOk (qc5 p tr)->NmOk (qc5 p tr)->(qc5 p tr).length<=tr.length+bulk p->Q (.own (qai (qc5 p tr))))
def qco(ps:List (List Row)):Nat:=(ps.map bulk).sum
structure PanesOk(ps:List (List Row)):Prop where
 ok:∀p∈ps,PaneOk p/\NmOk p/\p.length<=200
 few:qco ps<=150
theorem qog{ps:List (List Row)}{i:Nat}{q:List Row}(et:ps.take (i+1)=ps.take i++[q]):qco (ps.take (i+1))=qco (ps.take i)+bulk q:=by
 unfold qco
 rw[et,List.map_append,List.sum_append]
 simp
theorem qkd{ps:List (List Row)}(P:PanesOk ps)(k:Nat):qco (ps.take k)<=150:=by
 have h1:qco (ps.take k)<=qco ps:=by
  unfold qco
  conv=>rhs;rw[←List.take_append_drop k ps,List.map_append,List.sum_append]
  omega
 have:=P.few
 omega
theorem qfh(ps:List (List Row))(q:List Row):qco (ps++[q])=qco ps+bulk q:=by
 unfold qco
 rw[List.map_append,List.sum_append]
 simp
theorem qyw{ps:List (List Row)}(P:∀p∈ps,PaneOk p/\NmOk p):TreeOk (qa6 ps)/\NmOk (qa6 ps)/\(qa6 ps).length<=qco ps/\∀r∈qa6 ps,r.2.1=qaz\/r.2.1=qde\/r.2.1=qdf:=by
 induction h:ps.length generalizing ps with
|zero =>
  rw[List.length_eq_zero_iff.mp h]
  exact⟨⟨List.Pairwise.nil,λr hr=>by cases hr⟩,(λr hr=>by cases hr),Nat.zero_le _,λr hr=>by cases hr⟩
|succ n ih =>
  have hne:ps≠[]:=λz=>by rw[z] at h;cases h
  have e:=(List.dropLast_concat_getLast hne).symm
  generalize ps.getLast hne=q at e
  generalize hqs:ps.dropLast=qs at e
  subst e
  obtain⟨T,tn,tl,tm⟩:=ih (ps:=qs) (λp hp=>P p (List.mem_append_left _ hp)) (by rw[List.length_append,List.length_singleton] at h;omega)
  obtain⟨q1,q2⟩:=P q (List.mem_append_right _ (List.mem_singleton.mpr rfl))
  obtain⟨T2,pm⟩:=qxe q1 T
  rw[qec,qfh]
  refine⟨T2,λr hr=>?_,?_,λr hr=>?_⟩
  ·rcases List.mem_append.mp (pm.mem_iff.mp hr) with z|z
   ·exact tn r (List.mem_filter.mp z).1
   ·unfold putR at z
    obtain⟨o,mo,rfl⟩:=List.mem_map.mp z
    rw[qfr]
    exact q2 o (List.mem_filter.mp mo).1
  ·rw[pm.length_eq]
   have:(qan q (qa6 qs)++putR q).length<=(qa6 qs).length+bulk q:=qis q (qa6 qs)
   omega
  ·rcases List.mem_append.mp (pm.mem_iff.mp hr) with z|z
   ·exact tm r (List.mem_filter.mp z).1
   ·unfold putR at z
    obtain⟨o,mo,rfl⟩:=List.mem_map.mp z
    have mo':=List.mem_filter.mp mo
    have ng:o.2.1≠qbn:=by simpa using (Bool.and_eq_true_iff.mp mo'.2).2
    unfold qe7
    split
    ·exact .inl rfl
    ·rename_i ns
     rcases q1.mr o mo'.1 with (z|z)|z|z|z
     ·exact .inr (.inl z)
     ·exact .inr (.inr z)
     ·exact .inl z.1
     ·exact absurd z ns
     ·exact absurd z ng
def qnj:DP:=λds Q=>∃ps:List (List Row),ds=[qav ps]/\PanesOk ps/\(TreeOk (qa6 ps)->NmOk (qa6 ps)->(qa6 ps).length<=qco ps->Q (.own (qai (qa6 ps))))
theorem qqw:∀ds Q,qen ds Q->ds.length=1:=by rintro ds Q ⟨_,rfl,_⟩;rfl
theorem qko:∀ds Q,qcs ds Q->ds.length=1:=by rintro ds Q ⟨_,rfl,_⟩;rfl
theorem qkp:∀ds Q,qb9 ds Q->ds.length=1:=by rintro ds Q ⟨_,rfl,_⟩;rfl
theorem qqy:∀ds Q,qfk ds Q->ds.length=1:=by rintro ds Q ⟨_,rfl,_⟩;rfl
theorem qgv:∀ds Q,qb3 ds Q->ds.length=2:=by rintro ds Q ⟨_,_,rfl,_⟩;rfl
theorem qhq:∀ds Q,qbz ds Q->ds.length=2:=by rintro ds Q ⟨_,_,rfl,_⟩;rfl
theorem qq0:∀ds Q,qfl ds Q->ds.length=3:=by rintro ds Q ⟨_,_,_,rfl,_⟩;rfl
theorem qnp:∀ds Q,qf1 ds Q->ds.length=2:=by rintro ds Q ⟨_,_,rfl,_⟩;rfl
theorem qtb:∀ds Q,qnj ds Q->ds.length=1:=by rintro ds Q ⟨_,rfl,_⟩;rfl
def qe0:DP:=qf1
theorem qoq:∀ds Q,qe0 ds Q->ds.length=2:=qnp
def g_same:DP:=λds Q=>∃rs:List Row,ds=[qai rs,qai rs]/\rs.length<=1000/\Q (.val (.bl true))
theorem qta:∀ds Q,g_same ds Q->ds.length=2:=by rintro ds Q ⟨_,rfl,_⟩;rfl
def qlt:DP:=λds Q=>∃ns,ds=[.scr ns]/\Q (.val (.bl true))
theorem qxf:∀ds Q,qlt ds Q->ds.length=1:=by rintro ds Q ⟨_,rfl,_⟩;rfl
def qcp:DP:=qnj
theorem qgw:∀ds Q,qcp ds Q->ds.length=1:=qtb
def qgg:TVS:=(vSeq (vIfS (vBl (vOp vLt (vVar 1) (vF1 vLen (vVar 0))))
  (vRet (vOp vIxR (vVar 0) (vVar 1)))
  qcz)
 (vRet (vC (.int 0))))
abbrev qpk:List Str:=["_law_script","_law_k"]
theorem qso:∀ds Q,qao ds Q->qgg (En Q) (qbg qpk ds):=by
 rintro ds Q ⟨ns,k,rfl,h0,h⟩
 simp! only[qgg]
 split
 ·rename_i c
  obtain⟨v,hv,hv2⟩:=qew (xs:=ns) h0 (of_decide_eq_true c)
  unfold qby at h
  rw[hv2] at h
  exact⟨v,hv,h⟩
 ·rename_i c
  have hn:ns[k.toNat]?=none:=List.getElem?_eq_none (by have:=of_decide_eq_false (Bool.eq_false_iff.mpr c);omega)
  unfold qby at h
  rw[hn] at h
  exact h
def qpr:TVS:=(vSeq (vSet 3 (vTup (qaa (vC (.int 48271)) (qaa (vC (.int 69621)) (qaa (vC (.int 16807)) (qaa (vC (.int 39373)) (qaa (vC (.int 21401)) (qaa (vC (.int 60493)) (qaa (vC (.int 87721)) (qaa (vC (.int 31337)) vNil))))))))))
 (vSeq (vSet 4 (vTup (qaa (vC (.int 99991)) (qaa (vC (.int 99989)) (qaa (vC (.int 99971)) (qaa (vC (.int 99961)) (qaa (vC (.int 99929)) (qaa (vC (.int 99923)) (qaa (vC (.int 99907)) (qaa (vC (.int 99901)) vNil))))))))))
 (vRet (vOp vMod (vOp vMod (vOp vMul (vOp vAdd (vOp vMod (vVar 0) (vOp vPow (vC (.int 10)) (vC (.int 18)))) (vC (.int 1))) (vOp vIxR (vVar 3) (vOp vMod (vVar 1) (vC (.int 8))))) (vOp vIxR (vVar 4) (vOp vMod (vVar 1) (vC (.int 8))))) (vVar 2)))))
abbrev qwm:List Str:=["_law_cell","_law_turn","_law_many","_law_by","_law_prime"]
def mxA:List Int:=[48271,69621,16807,39373,21401,60493,87721,31337]
def mxB:List Int:=[99991,99989,99971,99961,99929,99923,99907,99901]
theorem qze:∀ds Q,qay ds Q->qpr (En Q) (qbg qwm ds):=by
 rintro ds Q ⟨c,t,m,rfl,h0,hm,h⟩
 refine v_cut (λτ=>τ=[some (.val (.int c)),some (.val (.int t)),some (.val (.int m)),some (.val (.tup (mxA.map D.int))),none]) ?_ λnx hnx=>?now
 case now =>
  rfl'
  exact⟨by decide,hnx _ rfl⟩
 rintro τ rfl
 refine v_cut (λτ=>τ=[some (.val (.int c)),some (.val (.int t)),some (.val (.int m)),some (.val (.tup (mxA.map D.int))),some (.val (.tup (mxB.map D.int)))]) ?_ λnx hnx=>?now
 case now =>
  rfl'
  exact⟨by decide,hnx _ rfl⟩
 rintro τ rfl
 have q0:=Int.emod_nonneg t (show (8:Int)≠0 by decide)
 have q1:=Int.emod_lt_of_pos t (show (0:Int)<8 by decide)
 obtain⟨a,ha,ha2⟩:=qew (xs:=mxA) (k:=t%8) q0 q1
 obtain⟨b,hb,hb2⟩:=qew (xs:=mxB) (k:=t%8) q0 q1
 have ba:∀x∈mxA,0<=x/\x<100000:=by decide
 have bb:∀x∈mxB,0<x:=by decide
 have a1:=ba a (List.mem_of_getElem? ha2)
 have b1:=bb b (List.mem_of_getElem? hb2)
 have hA:∀Y:R->Prop,Y (.val (.int (c%10 ^ Int.toNat 18+1)))->vOp vAdd (vOp vMod (vVar 0) (vOp vPow (vC (.int 10)) (vC (.int 18)))) (vC (.int 1)) [some (.val (.int c)),some (.val (.int t)),some (.val (.int m)),some (.val (.tup (mxA.map D.int))),some (.val (.tup (mxB.map D.int)))] Y:=λY y=>by
  rfl'
  exact⟨⟨by decide,by decide,by decide⟩,by decide,y⟩
 have hB:∀Y:R->Prop,Y (.val (.int a))->vOp vIxR (vVar 3) (vOp vMod (vVar 1) (vC (.int 8))) [some (.val (.int c)),some (.val (.int t)),some (.val (.int m)),some (.val (.tup (mxA.map D.int))),some (.val (.tup (mxB.map D.int)))] Y:=λY y=>by
  rfl'
  exact⟨.int a,by rw[qei,ha];rfl,y⟩
 have hC:∀Y:R->Prop,Y (.val (.int b))->vOp vIxR (vVar 4) (vOp vMod (vVar 1) (vC (.int 8))) [some (.val (.int c)),some (.val (.int t)),some (.val (.int m)),some (.val (.tup (mxA.map D.int))),some (.val (.tup (mxB.map D.int)))] Y:=λY y=>by
  rfl'
  exact⟨.int b,by rw[qei,hb];rfl,y⟩
 exact hA _ (hB _ ⟨.inr ⟨by omega,by omega⟩,hC _ ⟨b1,hm,h _ (Int.emod_nonneg _ (by omega)) (Int.emod_lt_of_pos _ hm) λe=>by
  subst e
  have e1:a=48271:=by simpa [mxA] using ha2.symm
  have e2:b=99991:=by simpa [mxB] using hb2.symm
  rw[e1,e2,show Int.toNat 18=18 from rfl]⟩⟩)
def qj7:TVS:=(vSeq (vSet 2 (vC (.str ("abcdefghijklmnopqrstuvwxyz0123456789" : Str))))
 (vSeq (vSet 3 (vOp vAdd (vC (.int 1)) (vOp vMod (vVar 0) (vC (.int 12)))))
 (vSeq (vSet 4 (vOp vMod (vOp vDiv (vVar 0) (vC (.int 12))) (vVar 3)))
 (vSeq (vSet 5 (vC (.str ("" : Str))))
 (vSeq (vFor (qjw (vVar 3)) (qa9 6)
  (vSeq (vSet 7 (vOp vAdd (vOp vDiv (vVar 0) (vC (.int 5184))) (vOp vMul (vVar 6) (vOp vMod (vOp vDiv (vVar 0) (vC (.int 144))) (vC (.int 36))))))
 (vSeq (vIfS (vBl (vOp vEq (vVar 6) (vVar 4)))
  (vSet 7 (vOp vAdd (vVar 7) (vVar 1)))
  qcz)
 (vSet 5 (vOp vAdd (vVar 5) (vOp vIxR (vVar 2) (vOp vMod (vVar 7) (vC (.int 36)))))))))
 (vSeq (vIfS (qe9 (vBl (vOp vEq (vOp vMod (vOp vDiv (vVar 0) (vC (.int 3))) (vC (.int 2))) (vC (.int 1)))) (vBl (vOp vEq (vOp vMod (vVar 1) (vC (.int 5))) (vC (.int 4)))))
  (vSet 5 (qfa (vVar 5) qdk (qjv (vOp vAdd (vC (.int 1)) (vOp vMod (vVar 1) (vVar 3))))))
  qcz)
 (vRet (vVar 5))))))))
abbrev qpl:List Str:=["_law_stem","_law_v","_law_signs","_law_size","_law_spot","_law_name","_law_k","_law_turn"]
theorem qsp:∀ds Q,qbu ds Q->qj7 (En Q) (qbg qpl ds):=by
 rintro ds Q ⟨c,v,rfl,hc,hc2,hv,h⟩
 have hm0:0<=c%12:=Int.emod_nonneg _ (by decide)
 have hm1:c%12<12:=Int.emod_lt_of_pos _ (by decide)
 have eN:(NS.cps.toList.length:Int)=36:=by decide +kernel
 have lN:NS.length<=sizeLine:=by decide +kernel
 refine v_cut (λτ=>τ=[some (.val (.int c)),some (.val (.int v)),some (.val (.str NS)),none,none,none,none,none]) ?_ λnx hnx=>?now
 case now =>
  rfl'
  exact hnx _ rfl
 rintro τ rfl
 refine v_cut (λτ=>τ=[some (.val (.int c)),some (.val (.int v)),some (.val (.str NS)),some (.val (.int (1+c%12))),none,none,none,none]) ?_ λnx hnx=>?now
 case now =>
  rfl'
  exact hnx _ rfl
 rintro τ rfl
 generalize hn:1+c%12=n
 have n1:1<=n:=by omega
 have n2:n<=12:=by omega
 refine v_cut (λτ=>∃sp:Int,τ=[some (.val (.int c)),some (.val (.int v)),some (.val (.str NS)),some (.val (.int n)),some (.val (.int sp)),none,none,none]) ?_ λnx hnx=>?now
 case now =>
  rfl'
  exact⟨by omega,hnx _ ⟨_,rfl⟩⟩
 rintro τ ⟨sp,rfl⟩
 refine v_cut (λτ=>τ=[some (.val (.int c)),some (.val (.int v)),some (.val (.str NS)),some (.val (.int n)),some (.val (.int sp)),some (.val (.str "")),none,none]) ?_ λnx hnx=>?now
 case now =>
  rfl'
  exact hnx _ rfl
 rintro τ rfl
 refine v_cut (λτ=>∃(z:Str) (a b:Option R),1<=z.length/\z.length<=12/\τ=[some (.val (.int c)),some (.val (.int v)),some (.val (.str NS)),some (.val (.int n)),some (.val (.int sp)),some (.val (.str z)),a,b]) ?_ λnx hnx=>?now
 case now =>
  rfl'
  refine⟨by omega,by omega,qgo (λi τ=>∃(z:Str) (a b:Option R),z.length=i/\τ=[some (.val (.int c)),some (.val (.int v)),some (.val (.str NS)),some (.val (.int n)),some (.val (.int sp)),some (.val (.str z)),a,b]) ⟨"",none,none,by decide +kernel,rfl⟩ ?_ ?_⟩
  ·rintro i τ hi ⟨z,a,b,hl,rfl⟩ nx2 hnx2
   refine v_cut (λτ=>∃t:Int,τ=[some (.val (.int c)),some (.val (.int v)),some (.val (.str NS)),some (.val (.int n)),some (.val (.int sp)),some (.val (.str z)),some (.val (.int i)),some (.val (.int t))]) ?_ λnx3 hnx3=>?now
   case now =>
    rfl'
    have k0:=Int.emod_nonneg (c / 144) (show (36:Int)≠0 by decide)
    have k1:=Int.emod_lt_of_pos (c / 144) (show (0:Int)<36 by decide)
    exact⟨.inr ⟨by omega,by omega⟩,hnx3 _ ⟨_,rfl⟩⟩
   rintro τ ⟨t,rfl⟩
   refine v_cut (λτ=>∃t:Int,τ=[some (.val (.int c)),some (.val (.int v)),some (.val (.str NS)),some (.val (.int n)),some (.val (.int sp)),some (.val (.str z)),some (.val (.int i)),some (.val (.int t))]) ?_ λnx3 hnx3=>?now
   case now =>
    rfl'
    split
    ·exact hnx3 _ ⟨_,rfl⟩
    ·exact hnx3 _ ⟨_,rfl⟩
   clear t
   rintro τ ⟨t,rfl⟩
   rfl'
   obtain⟨d,hd,_⟩:=qew (xs:=NS.cps.toList) (k:=t%36) (Int.emod_nonneg _ (by decide)) (by rw[eN];exact Int.emod_lt_of_pos _ (by decide))
   exact⟨lN,d,hd,Nat.le_trans (show z.length+1<=1000 by omega) qax,hnx2 _ ⟨_,_,_,by rw[PySem.Str.length_append,hl];rfl,rfl⟩⟩
  ·rintro τ ⟨z,a,b,hl,rfl⟩
   exact hnx _ ⟨z,a,b,by omega,by omega,rfl⟩
 rintro τ ⟨z,a,b,z0,z1,rfl⟩
 refine v_cut (λτ=>∃(z:Str),1<=z.length/\z.length<=12/\τ=[some (.val (.int c)),some (.val (.int v)),some (.val (.str NS)),some (.val (.int n)),some (.val (.int sp)),some (.val (.str z)),a,b]) ?_ λnx hnx=>?now
 case now =>
  rfl'
  have sz:z.length<=sizeLine:=Nat.le_trans (by omega) qax
  have v0:=Int.emod_nonneg v (show n≠0 by omega)
  split
  ·split
   ·refine⟨by omega,sz,hnx _ ⟨_,?_,?_,rfl⟩⟩
    ·obtain⟨k,hk⟩:∃k:Nat,1+v%n=(k:Int):=⟨(1+v%n).toNat,by omega⟩
     rw[hk]
     show 1<=(Txt.slice z none (some (k:Int))).cps.toList.length
     have el:z.cps.toList.length=z.length:=rfl
     rw[slice_list,qez,List.length_take]
     omega
    ·exact Nat.le_trans (Txt.slice_le z _ _) (by omega)
   ·exact hnx _ ⟨z,z0,z1,rfl⟩
  ·exact hnx _ ⟨z,z0,z1,rfl⟩
 clear z0 z1 z
 rintro τ ⟨z,z0,z1,rfl⟩
 rfl'
 exact h z z0 z1
def qj8:TVS:=(vSeq (vIfS (vBl (vOp vEq (vVar 0) (vC (.str ("file" : Str)))))
  (vRet (vOp vIxR (vTup (qaa (vC (.str ("" : Str))) (qaa (vC (.str ("as it was" : Str))) (qaa (vOp vAdd (vF1 vStr (vOp vMod (vVar 1) (vOp vPow (vC (.int 10)) (vC (.int 30))))) (vC (.str (" ~" : Str)))) vNil)))) (qar qay (qaa (vVar 1) (qaa (vC (.int 5)) (qaa (vC (.int 3)) vNil))))))
  qcz)
 (vSeq (vIfS (vBl (vOp vNeD (vVar 0) (vC (.str ("link" : Str)))))
  (vRet (vC (.str ("" : Str))))
  qcz)
 (vSeq (vSet 4 (qar qbu (qaa (vVar 2) (qaa (qar qay (qaa (vVar 1) (qaa (vC (.int 5)) (qaa (vVar 3) vNil)))) vNil))))
 (vSeq (vSet 5 (qar qbu (qaa (vVar 2) (qaa (qar qay (qaa (vVar 1) (qaa (vC (.int 6)) (qaa (vVar 3) vNil)))) vNil))))
 (vSeq (vSet 6 (vTup (qaa (vC (.str ("/" : Str))) (qaa (vOp vAdd (vC (.str ("/" : Str))) (vVar 4)) (qaa (vVar 4) (qaa (vOp vAdd (vC (.str ("../" : Str))) (vVar 4)) (qaa (vOp vAdd (vOp vAdd (vOp vAdd (vC (.str ("./" : Str))) (vVar 4)) (vC (.str ("/" : Str)))) (vVar 5)) (qaa (vOp vAdd (vOp vAdd (vC (.str ("/" : Str))) (vVar 4)) (vC (.str ("/.." : Str)))) (qaa (vC (.str (".." : Str))) (qaa (vC (.str ("." : Str))) vNil))))))))))
 (vRet (vOp vIxR (vVar 6) (qar qay (qaa (vVar 1) (qaa (vC (.int 7)) (qaa (vC (.int 8)) vNil)))))))))))
abbrev qpn:List Str:=["_law_mark","_law_cell","_law_stem","_law_wide","_law_name","_law_more","_law_some"]
theorem qsr:∀ds Q,qc7 ds Q->qj8 (En Q) (qbg qpn ds):=by
 rintro ds Q ⟨m,c,s,v,rfl,h0,h1,hv,h⟩
 have mx:∀(k n:Int) (Y:R->Prop),0<=k->0<n->(∀i,0<=i->i<n->Y (.val (.int i)))->qay [.int c,.int k,.int n] Y:=λk n Y hk hn y=>⟨c,k,n,rfl,hk,hn,λi i0 i1 _=>y i i0 i1⟩
 have nb:∀(i:Int) (Y:R->Prop),0<=i->(∀z:Str,1<=z.length->z.length<=12->Y (.val (.str z)))->qbu [.int s,.int i] Y:=λi Y hi y=>⟨s,i,rfl,h0,h1,hi,y⟩
 refine v_cut (λτ=>m≠qde/\τ=[some (.val (.str m)),some (.val (.int c)),some (.val (.int s)),some (.val (.int v)),none,none,none]) ?_ λnx hnx=>?now
 case now =>
  rfl'
  by_cases m1:m=qde
  ·have h':∀z:Str,Q (.val (.str z)):=λz=>h z λq=>absurd m1 q
   rw[decide_eq_true m1]
   have q0:=Int.emod_nonneg c (show (10 ^ Int.toNat 30:Int)≠0 by decide)
   have q1:=Int.emod_lt_of_pos c (show (0:Int)<10 ^ Int.toNat 30 by decide)
   have hn:(c%10 ^ Int.toNat 30).natAbs<10 ^ 30:=by
    have e:(10 ^ Int.toNat 30:Int)=((10 ^ 30:Nat):Int):=by decide
    rw[e] at q0 q1 ⊢
    omega
   refine iteT ⟨⟨by decide,by decide,by decide⟩,by decide,?_,?_,by decide,?_⟩
   ·have:(c%10 ^ Int.toNat 30).natAbs<2 ^ 200:=Nat.lt_of_lt_of_le hn (by decide)
    by_cases z:(c%10 ^ Int.toNat 30).natAbs=0
    ·rw[z]
     decide
    ·exact Nat.lt_of_lt_of_le ((Nat.log2_lt z).mpr this) (by decide)
   ·have e:=int_text_length_le10 (a:=c%10 ^ Int.toNat 30) (k:=30) (by decide) hn
    have e2:(Str.ofString " ~").length=2:=by decide +kernel
    rw[PySem.ofString_length,e2]
    exact Nat.le_trans (show _<=1000 by omega) qax
   ·refine mx _ _ _ (by decide) (by decide) λi h0 h1=>?_
    rfl'
    have e:[D.str (Str.ofString ""),D.str (Str.ofString "as it was"),D.str (Str.ofString (toString (c%10 ^ Int.toNat 30))++Str.ofString " ~")]=[Str.ofString "",Str.ofString "as it was",Str.ofString (toString (c%10 ^ Int.toNat 30))++Str.ofString " ~"].map D.str:=rfl
    obtain⟨y,hy,_⟩:=qew (xs:=[Str.ofString "",Str.ofString "as it was",Str.ofString (toString (c%10 ^ Int.toNat 30))++Str.ofString " ~"]) (k:=i) h0 h1
    exact⟨.str y,by have q:atI _ i=atI _ i:=congrArg (atI · i) e;rw[qei,hy] at q;exact q,h' y⟩
  ·rw[decide_eq_false m1]
   exact iteF (hnx _ ⟨m1,rfl⟩)
 rintro τ ⟨m1,rfl⟩
 refine v_cut (λτ=>m=qdf/\τ=[some (.val (.str m)),some (.val (.int c)),some (.val (.int s)),some (.val (.int v)),none,none,none]) ?_ λnx hnx=>?now
 case now =>
  rfl'
  by_cases m2:m=qdf
  ·rw[decide_eq_true m2]
   exact iteF (hnx _ ⟨m2,rfl⟩)
  ·rw[decide_eq_false m2]
   exact iteT (h _ λ_ _=>rfl)
 rintro τ ⟨m2,rfl⟩
 have h':∀z:Str,Q (.val (.str z)):=λz=>h z λ_ q=>absurd m2 q
 refine v_cut (λτ=>∃z:Str,z.length<=12/\τ=[some (.val (.str m)),some (.val (.int c)),some (.val (.int s)),some (.val (.int v)),some (.val (.str z)),none,none]) ?_ λnx hnx=>?now
 case now =>
  rfl'
  refine mx _ _ _ (by decide) hv λi i0 i1=>?_
  rfl'
  refine nb _ _ i0 λz _ z1=>?_
  rfl'
  exact hnx _ ⟨z,z1,rfl⟩
 rintro τ ⟨z,z1,rfl⟩
 refine v_cut (λτ=>∃y:Str,y.length<=12/\τ=[some (.val (.str m)),some (.val (.int c)),some (.val (.int s)),some (.val (.int v)),some (.val (.str z)),some (.val (.str y)),none]) ?_ λnx hnx=>?now
 case now =>
  rfl'
  refine mx _ _ _ (by decide) hv λi i0 i1=>?_
  rfl'
  refine nb _ _ i0 λz _ z1=>?_
  rfl'
  exact hnx _ ⟨z,z1,rfl⟩
 rintro τ ⟨y,y1,rfl⟩
 refine v_cut (λτ=>τ=[some (.val (.str m)),some (.val (.int c)),some (.val (.int s)),some (.val (.int v)),some (.val (.str z)),some (.val (.str y)),some (.val (.tup ([Str.ofString "/",Str.ofString "/" ++ z,z,Str.ofString "../" ++ z,Str.ofString "./" ++ z++Str.ofString "/" ++ y,Str.ofString "/" ++ z++Str.ofString "/..",Str.ofString "..",Str.ofString "."].map D.str)))]) ?_ λnx hnx=>?now
 case now =>
  rfl'
  have e1:(Str.ofString "/").length=1:=by decide +kernel
  have e2:(Str.ofString "../").length=3:=by decide +kernel
  have e3:(Str.ofString "./").length=2:=by decide +kernel
  have e4:(Str.ofString "/..").length=3:=by decide +kernel
  refine⟨Nat.le_trans (by omega) qax,Nat.le_trans (by omega) qax,Nat.le_trans (by omega) qax,Nat.le_trans (by rw[PySem.Str.length_append];omega) qax,Nat.le_trans (by rw[PySem.Str.length_append,PySem.Str.length_append];omega) qax,Nat.le_trans (by omega) qax,Nat.le_trans (by rw[PySem.Str.length_append];omega) qax,by decide,hnx _ rfl⟩
 rintro τ rfl
 rfl'
 refine mx _ _ _ (by decide) (by decide) λj j0 j1=>?_
 rfl'
 obtain⟨x,hx,_⟩:=qew (xs:=[Str.ofString "/",Str.ofString "/" ++ z,z,Str.ofString "../" ++ z,Str.ofString "./" ++ z++Str.ofString "/" ++ y,Str.ofString "/" ++ z++Str.ofString "/..",Str.ofString "..",Str.ofString "."]) (k:=j) j0 j1
 have hx2:atI ([Str.ofString "/",Str.ofString "/" ++ z,z,Str.ofString "../" ++ z,Str.ofString "./" ++ z++Str.ofString "/" ++ y,Str.ofString "/" ++ z++Str.ofString "/..",Str.ofString "..",Str.ofString "."].map D.str) j=some (.str x):=by rw[qei,hx];rfl
 exact⟨.str x,hx2,h' x⟩
def qll:TVS:=(vRet (qjt (qjw (vVar 3)) (qa9 4) (λ_ Q=>Q true) (vOp vAdd (qar qao (qaa (vVar 0) (qaa (vOp vAdd (vVar 1) (vOp vMul (vVar 2) (vVar 4))) vNil))) (vVar 4)) 1))
abbrev qwk:List Str:=["_law_script","_law_first","_law_step","_law_many"]
theorem qzc:∀ds Q,qfj ds Q->qll (En Q) (qbg qwk ds):=by
 rintro ds Q ⟨ns,a,b,m,rfl,h0,h1,h2,h3,h⟩
 simp! only[qll]
 refine⟨by omega,by omega,?_⟩
 refine qsx (f:=λi:Nat=>D.int (0+i)) (λd=>∃z:Int,d=.int z) (List.range m.toNat) (by rw[List.length_range];exact Nat.le_trans (show _<=1000 by omega) qax) (λk hk Y N hY=>?_) λes hl he=>?_
 ·simp! only[qao]
  have:=List.mem_range.mp hk
  refine⟨.inr ⟨by omega,by omega⟩,?_,hY _ ⟨_,rfl⟩⟩
  have:=Int.mul_nonneg h1 (Int.natCast_nonneg k)
  omega
 ·obtain⟨cs,rfl⟩:=qnk es he
  ac_rfl
  rw[List.length_map,List.length_range] at hl
  exact h cs hl
def qdv:TVS:=(vSeq (vFor (qjw (vF1 vLen (vVar 1))) (qa9 2)
  (vIfS (qe9 (vBl (vDIn id (qfa (vVar 1) qdk (qjv (vVar 2))) (vVar 0))) (vBl (vOp vEq (vOp vIxR (qms (vVar 0) (qfa (vVar 1) qdk (qjv (vVar 2)))) (vC (.int 0))) (vC (.str ("shut" : Str))))))
  (vRet (vC (.bl true)))
  qcz))
 (vRet (vC (.bl false))))
abbrev qj6:List Str:=["_law_things","_law_way","_law_k"]
theorem qle:∀ds Q,qb0 ds Q->qdv (En Q) (qbg qj6 ds):=by
 rintro ds Q ⟨rs,w,rfl,hw,hl,h⟩
 simp! only[qdv,wayD]
 have tk:∀k:Nat,("" : Str)∉w.take k:=λk m=>hw (List.mem_of_mem_take m)
 refine⟨by omega,by omega,qgo (λi τ=>(∀k,k<i->qbw rs (w.take k)≠some qbr)/\∃kv,τ=[some (.val (qap (rs.map prR))),some (.val (wayD w)),kv]) ⟨λk hk=>absurd hk (Nat.not_lt_zero _),none,rfl⟩ ?_ ?_⟩
 ·rintro i τ hi ⟨hb,kv,rfl⟩ nx hnx
  have hd:∀Y:R->Prop,Y (.val (.bl (qbw rs (w.take i)).isSome))->True:=λ_ _=>trivial
  have mk:qbw rs (w.take i)=(rs.find? λr=>decide (r.1=w.take i)).map (·.2.1):=rfl
  have lk:=qq3 rs (w.take i)
  have e0:qhd rs w=true->Q (.val (.bl true)):=λz=>by rw[z] at h;exact h
  have hit:qbw rs (w.take i)=some qbr->Q (.val (.bl true)):=λz=>e0 (List.any_eq_true.mpr ⟨i,List.mem_range.mpr hi,decide_eq_true z⟩)
  have go:qbw rs (w.take i)≠some qbr->∀kv,nx [some (.val (qap (rs.map prR))),some (.val (wayD w)),kv]:=λz kv=>hnx _ ⟨λk hk=>by
   rcases Nat.lt_or_ge k i with q|q
   ·exact hb k q
   ·have:k=i:=by omega
    rw[this];exact z,kv,rfl⟩
  dsimp! only[qap,wayD]
  simp only[qez]
  refine⟨tk i,?_⟩
  rw[qbv,lk]
  cases e:rs.find? λr=>decide (r.1=w.take i) with
 |none =>
   rw[e] at mk
   refine iteF ?_
   exact go (by rw[mk];exact λz=>by cases z) _
 |some r =>
   rw[e] at mk
   refine iteT ⟨tk i,thD r.2,rfl,?_⟩
   dsimp! only[thD]
   by_cases q:r.2.1=qbr
   ·rw[decide_eq_true q]
    exact iteT (hit (by rw[mk,←q];rfl))
   ·rw[decide_eq_false q]
    exact iteF (go (by rw[mk];exact λz=>q (Option.some.inj z)) _)
 ·rintro τ ⟨hb,kv,rfl⟩
  ac_rfl
  have e:qhd rs w=false:=by
   unfold qhd
   rw[List.any_eq_false]
   exact λk hk z=>hb k (List.mem_range.mp hk) (of_decide_eq_true z)
  rw[e] at h
  exact h
def qgh:TVS:=(vSeq (vSet 2 (vOp vAdd (vC (.int 2)) (vOp vMod (vOp vDiv (vVar 1) (vC (.int 5))) (vC (.int 7)))))
 (vSeq (qes 3 qf3)
 (vSeq (qes 4 (vLst (qaa (vTup vNil) vNil)))
 (vSeq (vIfS (qe9 (vBl (vOp vGt (vF1 vLen (vVar 0)) (vC (.int 2)))) (vBl (vOp vEq (qar qay (qaa (vOp vIxR (vVar 0) (vC (.int 0))) (qaa (vC (.int 4)) (qaa (vC (.int 6)) vNil)))) (vC (.int 0)))))
  (qhk 3 (vTup vNil) (vTup (qaa (vC (.str ("shut" : Str))) (qaa (vC (.str ("" : Str))) vNil))))
  qcz)
 (vSeq (vFor (qcx (vVar 0)) (qa9 5)
  (vSeq (vSet 6 (vOp vIxR (vVar 4) (qar qay (qaa (vVar 5) (qaa (vC (.int 0)) (qaa (vF1 vLen (vVar 4)) vNil))))))
 (vSeq (vIfS (vBl (vOp vEq (qar qay (qaa (vVar 5) (qaa (vC (.int 3)) (qaa (vC (.int 3)) vNil)))) (vC (.int 0))))
  (vSet 6 (vOp vIxR (vVar 4) (vNeg (vC (.int 1)))))
  qcz)
 (vSeq (vSet 7 (vOp vAdd (vVar 6) (vTup (qaa (qar qbu (qaa (vVar 1) (qaa (qar qay (qaa (vVar 5) (qaa (vC (.int 1)) (qaa (vVar 2) vNil)))) vNil))) vNil))))
 (vIfS (qe9 (vBl (vDIn (!·) (vVar 7) (vVar 3))) (vBl (vOp vLt (vF1 vLen (vVar 7)) (vC (.int 15)))))
  (vSeq (vSet 8 (vOp vIxR (vTup (qaa (vC (.str ("folder" : Str))) (qaa (vC (.str ("shut" : Str))) (qaa (vC (.str ("file" : Str))) (qaa (vC (.str ("folder" : Str))) (qaa (vC (.str ("gone" : Str))) (qaa (vC (.str ("link" : Str))) (qaa (vC (.str ("folder" : Str))) vNil)))))))) (qar qay (qaa (vVar 5) (qaa (vC (.int 2)) (qaa (vC (.int 7)) vNil))))))
 (vSeq (vIfS (qe9 (vBl (qsd qb0 3 (qaa (vVar 7) vNil))) (vBl (vOp (vIn id) (vVar 8) (vTup (qaa (vC (.str ("gone" : Str))) (qaa (vC (.str ("shut" : Str))) vNil))))))
  (vSet 8 (vC (.str ("folder" : Str))))
  qcz)
 (vSeq (qhk 3 (vVar 7) (vTup (qaa (vVar 8) (qaa (qar qc7 (qaa (vVar 8) (qaa (vVar 5) (qaa (vVar 1) (qaa (vVar 2) vNil))))) vNil))))
 (vIfS (vBl (vOp (vIn id) (vVar 8) (vTup (qaa (vC (.str ("folder" : Str))) (qaa (vC (.str ("shut" : Str))) vNil)))))
  (qhj 4 (vVar 7))
  qcz))))
  qcz)))))
 (vRet (qjt (qcx (vF1 qet (vF1 qic (vVar 3)))) (qa9 9) (λ_ Q=>Q true) (vOp vAdd (vTup (qaa (vVar 9) vNil)) (qms (vVar 3) (vVar 9))) 1)))))))
abbrev qpm:List Str:=["_law_cells_here","_law_stem","_law_wide","_law_things","_law_folders","_law_cell","_law_over","_law_way","_law_mark"]
theorem qsq:∀ds Q,qdy ds Q->qgh (En Q) (qbg qpm ds):=by
 rintro ds Q ⟨cs,st,rfl,hcs,h0,h1,h⟩
 refine qjy ?_
 dsimp! only[qgh]
 have w0:=Int.emod_nonneg (st / 5) (show (7:Int)≠0 by decide)
 generalize hwd:2+st / 5%7=wide
 have w1:0<wide:=by omega
 refine qjy ?_
 rfl'
 refine qjy ?_
 rfl'
 refine⟨by decide,?_⟩
 refine v_cut (λτ=>∃rs:List Row,(rs=[]\/rs=[([],qbr,qd5)])/\τ=[some (.val (.lst (cs.map D.int))),some (.val (.int st)),some (.val (.int wide)),some (.own (qap (rs.map prR))),some (.own (.lst ([([]:List Str)].map wayD))),none,none,none,none]) ?_ λnx2 hnx2=>?now
 case now =>
  dsimp! only[qay]
  have none':=hnx2 _ ⟨[],.inl rfl,rfl⟩
  split
  ·rename_i h2
   have h2':2<cs.length:=by have:=of_decide_eq_true h2;omega
   refine⟨.int cs[0],by rw[List.getElem?_map,List.getElem?_eq_getElem (by omega)];rfl,cs[0],rfl,λi i0 i1 _=>?_⟩
   split
   ·exact⟨by decide,[],rfl,by simp,by decide,hnx2 _ ⟨[([],qbr,qd5)],.inr rfl,rfl⟩⟩
   ·exact none'
  ·exact none'
 rintro τ ⟨rs0,hrs0,rfl⟩
 refine qjy ?_
 rfl'
 refine qdx (λi τ=>∃(rs:List Row) (fs:List (List Str)) (a b c d:Option R),PInv i rs fs /\
  τ=[some (.val (.lst (cs.map D.int))),some (.val (.int st)),some (.val (.int wide)),some (.own (qap (rs.map prR))),some (.own (.lst (fs.map wayD))),a,b,c,d]) ⟨rs0,[[]],none,none,none,none,.start hrs0,rfl⟩ ?_ ?_
 ·rintro i c τ hc ⟨rs,fs,k5,k6,k7,k8,PI,rfl⟩ nx hnx
  have hi:=(List.getElem?_eq_some_iff.mp hc).1
  have hfp:0<fs.length:=List.length_pos_iff.mpr PI.ne
  have hfl:=PI.fln
  have hrl:=PI.len
  refine v_cut (λτ=>∃f,f∈fs/\τ=[some (.val (.lst (cs.map D.int))),some (.val (.int st)),some (.val (.int wide)),some (.own (qap (rs.map prR))),some (.own (.lst (fs.map wayD))),some (.val (.int c)),some (.val (wayD f)),k7,k8]) ?_ λnx2 hnx2=>?now
  case now =>
   dsimp! only[qay]
   refine⟨by omega,λk k0 k1 _=>?_⟩
   obtain⟨f,hf,hf2⟩:=qew (xs:=fs) (k:=k) k0 k1
   exact⟨wayD f,by rw[qei,hf];rfl,hnx2 _ ⟨f,List.mem_of_getElem? hf2,rfl⟩⟩
  rintro τ ⟨f,mf,rfl⟩
  refine v_cut (λτ=>∃f,f∈fs/\τ=[some (.val (.lst (cs.map D.int))),some (.val (.int st)),some (.val (.int wide)),some (.own (qap (rs.map prR))),some (.own (.lst (fs.map wayD))),some (.val (.int c)),some (.val (wayD f)),k7,k8]) ?_ λnx2 hnx2=>?now
  case now =>
   dsimp! only[qay]
   refine λk k0 k1 _=>?_
   split
   ·exact⟨wayD (fs.getLast PI.ne),by rw[List.getLast?_map,List.getLast?_eq_some_getLast PI.ne];rfl,hnx2 _ ⟨_,List.getLast_mem PI.ne,rfl⟩⟩
   ·exact hnx2 _ ⟨f,mf,rfl⟩
  clear mf f
  rintro τ ⟨f,mf,rfl⟩
  have hf14:=(PI.fol f mf).1
  refine v_cut (λτ=>∃z:Str,1<=z.length/\z.length<=12/\τ=[some (.val (.lst (cs.map D.int))),some (.val (.int st)),some (.val (.int wide)),some (.own (qap (rs.map prR))),some (.own (.lst (fs.map wayD))),some (.val (.int c)),some (.val (wayD f)),some (.val (wayD (f++[z]))),k8]) ?_ λnx2 hnx2=>?now
  case now =>
   dsimp! only[qay,qbu,wayD]
   have:=hf14.1
   exact⟨w1,λk k0 k1 _=>⟨h0,h1,k0,λz z1 z2=>⟨by decide,Nat.le_trans (show _<=1000 by omega) qax,hnx2 _ ⟨z,z1,z2,rfl⟩⟩⟩⟩
  rintro τ ⟨z,z1,z2,rfl⟩
  have hfz:(∀y∈f++[z],1<=y.length/\y.length<=12):=λy hy=>by
   rcases List.mem_append.mp hy with m|m
   ·exact hf14.2 y m
   ·rw[List.mem_singleton.mp m];exact⟨z1,z2⟩
  have hwy:WyOk (f++[z]):=⟨by have:=hf14.1;rw[List.length_append,List.length_singleton];omega,hfz⟩
  have lk:(lkP (rs.map prR) (f++[z])).isSome=decide (f++[z]∈rs.map (·.1)):=by
   rw[qq3,Option.isSome_map]
   exact(Option.isSome_map ..).symm.trans (qf9 rs (f++[z]))
  have stay:=hnx _ ⟨rs,fs,some (.val (.int c)),some (.val (wayD f)),some (.val (wayD (f++[z]))),k8,PI.stay,rfl⟩
  have put:=λ(m t:Str) (hm:mkOk (f++[z],m,t)) (hw:Wy14 (f++[z])) (nw:f++[z]∉rs.map (·.1)) (hs:m=qbn\/m=qbr->qhd rs (f++[z])=false)=>PI.put mf hm hw nw hs
  generalize hw:f++[z]=w at *
  refine v_if (λb=>b=true->w∉rs.map (·.1)/\w.length<15) (λY y=>?test) (λhyes=>?yes) λ_=>stay
  case test =>
   dsimp! only[qap,wayD]
   refine⟨hwy.ne,?_⟩
   rw[qbv,lk]
   by_cases hm:w∈rs.map (·.1)
   ·rw[decide_eq_true hm]
    exact iteF (y _ λz=>by cases z)
   ·rw[decide_eq_false hm]
    exact iteT (y _ λz=>⟨hm,by have:=of_decide_eq_true z;omega⟩)
  case yes =>
    obtain⟨hm,h15'⟩:=hyes rfl
    have w14:Wy14 w:=⟨by omega,hfz⟩
    refine v_cut (λτ=>∃m:Str,(m=qaz\/m=qbr\/m=qde\/m=qbn\/m=qdf)/\τ=[some (.val (.lst (cs.map D.int))),some (.val (.int st)),some (.val (.int wide)),some (.own (qap (rs.map prR))),some (.own (.lst (fs.map wayD))),some (.val (.int c)),some (.val (wayD f)),some (.val (wayD w)),some (.val (.str m))]) ?_ λnx2 hnx2=>?now
    case now =>
     dsimp! only[qay]
     refine⟨by decide,λk k0 k1 _=>?_⟩
     have e:[D.str (Str.ofString "folder"),D.str (Str.ofString "shut"),D.str (Str.ofString "file"),D.str (Str.ofString "folder"),D.str (Str.ofString "gone"),D.str (Str.ofString "link"),D.str (Str.ofString "folder")]=[qaz,qbr,qde,qaz,qbn,qdf,qaz].map D.str:=rfl
     obtain⟨y,hy,hy2⟩:=qew (xs:=[qaz,qbr,qde,qaz,qbn,qdf,qaz]) (k:=k) k0 k1
     have my:y=qaz\/y=qbr\/y=qde\/y=qbn\/y=qdf:=by
      have:=List.mem_of_getElem? hy2
      simp only[List.mem_cons,List.not_mem_nil,or_false] at this
      rcases this with q|q|q|q|q|q|q<;>simp[q]
     exact⟨.str y,by rw[e,qei,hy];rfl,hnx2 _ ⟨y,my,rfl⟩⟩
    rintro τ ⟨m0,hm0,rfl⟩
    refine v_cut (λτ=>∃m:Str,(m=qaz\/m=qbr\/m=qde\/m=qbn\/m=qdf)/\(m=qbn\/m=qbr->qhd rs w=false)/\τ=[some (.val (.lst (cs.map D.int))),some (.val (.int st)),some (.val (.int wide)),some (.own (qap (rs.map prR))),some (.own (.lst (fs.map wayD))),some (.val (.int c)),some (.val (wayD f)),some (.val (wayD w)),some (.val (.str m))]) ?_ λnx2 hnx2=>?now
    case now =>
     have us:∀Y:R->Prop,Y (.val (.bl (qhd rs w)))->qb0 [qap (rs.map prR),wayD w] Y:=λY y=>⟨rs,w,rfl,hwy.ne,by omega,y⟩
     rfl'
     refine us _ ?_
     rfl'
     cases hs:qhd rs w with
    |false=>exact iteF (hnx2 _ ⟨m0,hm0,λ_=>hs,rfl⟩)
    |true =>
      refine iteT ⟨by decide,?_⟩
      by_cases q:m0∈[qbn,qbr]
      ·rw[decide_eq_true q]
       exact hnx2 _ ⟨qaz,.inl rfl,λz=>z.elim (λz=>absurd z.symm mne.2.1) λz=>absurd z.symm mne.1,rfl⟩
      ·rw[decide_eq_false q]
       exact hnx2 _ ⟨m0,hm0,λz=>absurd (by rcases z with z|z<;>simp[z]) q,rfl⟩
    rintro τ ⟨m,hm1,hsh,rfl⟩
    refine v_cut (λτ=>∃t:Str,mkOk (w,m,t)/\τ=[some (.val (.lst (cs.map D.int))),some (.val (.int st)),some (.val (.int wide)),some (.own (qap ((rs++[(w,m,t)]).map prR))),some (.own (.lst (fs.map wayD))),some (.val (.int c)),some (.val (wayD f)),some (.val (wayD w)),some (.val (.str m))]) ?_ λnx2 hnx2=>?now
    case now =>
     dsimp! only[qc7,qap,wayD]
     refine⟨h0,h1,w1,λt ht=>⟨by decide,hwy.ne,?_,?_⟩⟩
     ·exact Nat.lt_of_lt_of_le (show _<1000 by omega) qax
     ·rw[qcf]
      refine hnx2 _ ⟨t,?_,?_⟩
      ·rcases hm1 with q|q|q|q|q
       ·exact .inr (.inl ⟨q,ht (by rw[q];exact Ne.symm mne.2.2.1) (by rw[q];exact Ne.symm mne.2.2.2.1)⟩)
       ·exact .inr (.inr (.inl q))
       ·exact .inl (.inl q)
       ·exact .inr (.inr (.inr q))
       ·exact .inl (.inr q)
      ·have e:insP (rs.map prR) w (.tup [.str m,.str t])=(rs++[(w,m,t)]).map prR:=by
        unfold insP
        rw[qmw,if_neg hm,List.map_append]
        rfl
       rw[e]
       rfl
    rintro τ ⟨t,hmk,rfl⟩
    obtain⟨A,A2⟩:=put m t hmk w14 hm hsh
    rfl'
    refine⟨by decide,?_⟩
    by_cases q:m∈[qaz,qbr]
    ·rw[decide_eq_true q]
     have fsm:FS m:=by simpa [FS] using q
     refine⟨Nat.lt_of_lt_of_le (show _<1000 by omega) qax,hnx _ ⟨rs++[(w,m,t)],fs++[w],some (.val (.int c)),some (.val (wayD f)),some (.val (wayD w)),some (.val (.str m)),A2 fsm,?_⟩⟩
     rw[List.map_append (f:=wayD)]
     rfl
    ·rw[decide_eq_false q]
     exact hnx _ ⟨rs++[(w,m,t)],fs,_,_,_,_,A,rfl⟩
 ·rintro τ ⟨rs,fs,k5,k6,k7,k8,PI,rfl⟩
  have hlen:=PI.len
  simp! only[qap]
  have ek:(((rs.map prR).map (·.1)).map λw=>D.tup (w.map D.str))=(rs.map (·.1)).map wayD:=by
   rw[List.map_map,List.map_map,List.map_map]
   rfl
  refine⟨?_,λds hp hs=>?_⟩
  ·rw[ek]
   exact qia PI.nd
  ·rw[ek] at hp
   obtain⟨vs,rfl,hv,hso⟩:=qlf hp hs
   have hvl:vs.length=rs.length:=by rw[hv.length_eq,List.length_map]
   refine qm6 (λw=>rowD (w,lkR rs w)) vs (Nat.le_trans (show _<=1000 by omega) qax) (λw mw Y N hY=>?_) ?_
   ·have mw':=hv.mem_iff.mp mw
    simp! only[wayD]
    have wk:("" : Str)∉w:=by
     obtain⟨r,mr,er⟩:=List.mem_map.mp mw'
     rcases PI.row r mr with q|q
     ·rw[←er,q.1];simp
     ·rw[←er];exact q.2.1.ok.ne
    exact⟨by decide,wk,thD (lkR rs w),by rw[qbv];exact qq1 PI.nd mw',by show 3<=sizeLine;decide,hY⟩
   ·ac_rfl
    have e:vs.map (λw=>rowD (w,lkR rs w))=(vs.map λw=>(w,lkR rs w)).map rowD:=by rw[List.map_map];rfl
    rw[e]
    obtain⟨p1,p2⟩:=qf2 PI.nd hv hso
    exact h _ (PI.pane p1 p2)
def qlk:TVS:=(vRet (qfa (vVar 0) qdk (qjv (vNeg (vC (.int 1))))))
abbrev qwj:List Str:=["way"]
theorem qzb:∀ds Q,qen ds Q->qlk (En Q) (qbg qwj ds):=by
 rintro ds Q ⟨w,rfl,h⟩
 simp! only[qlk,wayD]
 rw[qey]
 exact h
def qff:TVS:=(vRet (vF1 qet (vVar 0)))
abbrev qoc:List Str:=["entries"]
theorem qph:∀ds Q,qcs ds Q->qff (En Q) (qbg qoc ds):=by
 rintro ds Q ⟨rs,rfl,nd,h⟩
 simp! only[qff,qai]
 refine⟨qo8 nd,λds hp hs=>?_⟩
 obtain⟨ts,rfl,p1,p2⟩:=qrz nd hp hs
 exact h ts p1 p2
def qfg:TVS:=(vSeq (qes 1 qf3)
 (vSeq (vFor (qcx (vVar 0)) (qpf 3 (qdp (qa9 2) (qdp (qa9 3) (qdp (qa9 4) qpe))))
  (qhk 1 (vVar 2) (vVar 3)))
 (qk7 1)))
abbrev qod:List Str:=["pane","marks","way","mark","text"]
theorem qpi:∀ds Q,qb9 ds Q->qfg (En Q) (qbg qod ds):=by
 rintro ds Q ⟨p,rfl,nd,nm,hl,h⟩
 simp! only[qfg,qai]
 refine qdx (λi τ=>∃(a b c:Option R),τ=[some (.val (.lst (p.map rowD))),some (.own (qap ((p.take i).map prM))),a,b,c]) ⟨none,none,none,rfl⟩ ?_ ?_
 ·rintro i r τ hr ⟨a,b,c,rfl⟩ nx hnx
  have mr:=List.mem_of_getElem? hr
  have hi:=(List.getElem?_eq_some_iff.mp hr).1
  simp! only[rowD,qap,wayD]
  refine⟨(nm r mr).ok.ne,?_,?_⟩
  ·rw[List.length_take]
   exact Nat.lt_of_lt_of_le (show _<1000 by omega) qax
  ·rw[qcf]
   have ni:¬ r.1∈((p.take i).map prM).map (·.1):=by
    rw[qst]
    exact qe8 nd hr
   have e:insP ((p.take i).map prM) r.1 (.str r.2.1)=(p.take (i+1)).map prM:=by
    unfold insP
    rw[if_neg ni,List.take_succ,hr,List.map_append]
    rfl
   rw[e]
   exact hnx _ ⟨_,_,_,rfl⟩
 ·rintro τ ⟨a,b,c,rfl⟩
  ac_rfl
  rw[List.take_length]
  exact h
def qih:TVS:=(vRet (qmr (vOp (vIsN (!·)) (vVar 0) (vC .non)) (vOp vNeD (vVar 0) (vC (.str ("folder" : Str))))))
abbrev qwl:List Str:=["mark"]
theorem qzd:∀ds Q,qfk ds Q->qih (En Q) (qbg qwl ds):=by
 rintro ds Q ⟨o,rfl,h⟩
 cases o with
|none =>
  simp! only[qih,Option.map_none,Option.getD_none]
  exact h
|some m =>
  simp! only[qih,Option.map_some,Option.getD_some]
  exact h
def qdc:TVS:=(vSeq (vSet 2 (qar qb9 (qaa (vVar 0) vNil)))
 (vSeq (qes 3 qf3)
 (vSeq (vFor (qcx (vVar 1)) (qpf 3 (qdp (qa9 4) (qdp (qa9 5) (qdp (qa9 6) qpe))))
  (vIfS (qe9 (vBl (vOp vNeD (vVar 4) (vTup vNil))) (vOrT (vBl (vDIn id (qar qen (qaa (vVar 4) vNil)) (vVar 3))) (vBl (qar qfk (qaa (qn8 (vVar 2) (qar qen (qaa (vVar 4) vNil))) vNil)))))
  (qhk 3 (vVar 4) (vC (.bl true)))
  qcz))
 (qk7 3))))
abbrev qie:List Str:=["pane","entries","marks","hidden","way","mark","text"]
theorem qj1:∀ds Q,qb3 ds Q->qdc (En Q) (qbg qie ds):=by
 rintro ds Q ⟨p,tr,rfl,nd,nm,hl,T,tm,tl,h⟩
 refine qjy ?_
 dsimp! only[qdc]
 refine⟨p,rfl,nd,nm,hl,?_⟩
 rfl'
 refine qjy ?_
 rfl'
 refine qjy ?_
 dsimp! only[qai]
 refine qdx (λi τ=>∃(a b c:Option R),τ=[some (.val (.lst (p.map rowD))),some (.val (.lst (tr.map rowD))),some (.val (qap (p.map prM))),some (.own (qap ((hidW p (tr.take i)).map λw=>(w,.bl true)))),a,b,c]) ⟨none,none,none,rfl⟩ ?_ ?_
 ·rintro i r τ hr ⟨a,b,c,rfl⟩ nx hnx
  have mr:=List.mem_of_getElem? hr
  have hi:=(List.getElem?_eq_some_iff.mp hr).1
  have wy:=(tm r mr).ok
  have hh:=λh0:r.1≠[]=>qqm (p:=p) T hr h0
  have hL:(hidW p (tr.take i)).length<=200:=by
   unfold hidW
   rw[List.length_map]
   have:=List.length_filter_le (λr:Row=>qbf p r.1) (tr.take i)
   rw[List.length_take] at this
   omega
  have et:tr.take (i+1)=tr.take i++[r]:=by rw[List.take_succ,hr];rfl
  have ab:∀Y:R->Prop,Y (.val (wayD r.1.dropLast))->qen [wayD r.1] Y:=λY y=>⟨r.1,rfl,y⟩
  have hd:∀(o:Option Str) (Y:R->Prop),Y (.val (.bl (qb4 o)))->qfk [(o.map D.str).getD .non] Y:=λo Y y=>⟨o,rfl,y⟩
  have stay:qbf p r.1=false->nx [some (.val (.lst (p.map rowD))),some (.val (.lst (tr.map rowD))),some (.val (qap (p.map prM))),some (.own (qap ((hidW p (tr.take i)).map λw=>(w,.bl true)))),some (.val (wayD r.1)),some (.val (.str r.2.1)),some (.val (.str r.2.2))]:=λq=>hnx _ ⟨_,_,_,by
   have:hidW p (tr.take (i+1))=hidW p (tr.take i):=by
    unfold hidW
    rw[et,List.filter_append]
    simp[q]
   rw[this]⟩
  have put:qbf p r.1=true->nx [some (.val (.lst (p.map rowD))),some (.val (.lst (tr.map rowD))),some (.val (qap (p.map prM))),some (.own (qap ((hidW p (tr.take i)++[r.1]).map λw=>(w,.bl true)))),some (.val (wayD r.1)),some (.val (.str r.2.1)),some (.val (.str r.2.2))]:=λq=>hnx _ ⟨_,_,_,by
   have:hidW p (tr.take (i+1))=hidW p (tr.take i)++[r.1]:=by
    unfold hidW
    rw[et,List.filter_append]
    simp[q]
   rw[this]⟩
  have nin:r.1∉hidW p (tr.take i):=λm=>by
   unfold hidW at m
   obtain⟨q,mq,eq⟩:=List.mem_map.mp m
   exact qe8 (qbh T.so) hr (List.mem_map.mpr ⟨q,(List.mem_filter.mp mq).1,eq⟩)
  dsimp! only[rowD,wayD]
  refine⟨cmpW _ [],depW _,?_⟩
  have e0:eqD (.tup (r.1.map D.str)) (.tup [])=decide (r.1=[]):=eqW r.1 []
  rw[e0]
  by_cases h0:r.1=[]
  ·rw[decide_eq_true h0]
   exact iteF (stay (by rw[h0];rfl))
  rw[decide_eq_false h0]
  refine iteT (ab _ ?_)
  dsimp! only[qap,wayD]
  refine⟨wy.drop.ne,?_⟩
  have lk1:(lkD (((hidW p (tr.take i)).map λw=>(w,D.bl true)).map (·.1)) (((hidW p (tr.take i)).map λw=>(w,D.bl true)).map (·.2)) r.1.dropLast).isSome=decide (r.1.dropLast∈hidW p (tr.take i)):=by
   rw[qbv,qq2]
   by_cases m:r.1.dropLast∈hidW p (tr.take i)
   ·rw[if_pos m,decide_eq_true m];rfl
   ·rw[if_neg m,decide_eq_false m];rfl
  have ins:insP ((hidW p (tr.take i)).map λw=>(w,D.bl true)) r.1 (.bl true)=(hidW p (tr.take i)++[r.1]).map λw=>(w,D.bl true):=by
   unfold insP
   rw[if_neg (by rw[List.map_map];exact λm=>nin (by simpa using m)),List.map_append]
   rfl
  have big:1000<sizeLine:=by decide
  have yes:qbf p r.1=true->("" : Str)∉r.1/\(hidW p (tr.take i)).length<sizeLine/\nx [some (.val (.lst (p.map rowD))),some (.val (.lst (tr.map rowD))),some (.val (.dT ((p.map prM).map (·.1)) ((p.map prM).map (·.2)))),some (.own (putD (((hidW p (tr.take i)).map λw=>(w,D.bl true)).map (·.1)) (((hidW p (tr.take i)).map λw=>(w,D.bl true)).map (·.2)) r.1 (.bl true))),some (.val (.tup (r.1.map D.str))),some (.val (.str r.2.1)),some (.val (.str r.2.2))]:=λq=>⟨wy.ne,by omega,by
   rw[qcf,ins]
   exact put q⟩
  by_cases m:r.1.dropLast∈hidW p (tr.take i)
  ·rw[lk1,decide_eq_true m]
   exact iteT (yes (by rw[←hh h0,decide_eq_true m];rfl))
  ·rw[lk1,decide_eq_false m]
   have hh2:=hh h0
   rw[decide_eq_false m,Bool.false_or] at hh2
   refine iteF (ab _ ?_)
   dsimp! only[wayD]
   refine⟨wy.drop.ne,?_⟩
   rw[qbv,qnr]
   refine hd _ _ ?_
   rfl'
   rw[hh2]
   cases q:qbf p r.1 with
  |true=>exact iteT (yes q)
  |false=>exact iteF (stay q)
 ·rintro τ ⟨a,b,c,rfl⟩
  ac_rfl
  rw[List.take_length]
  exact h
def qdu:TVS:=(vSeq (vSet 2 (qar qb9 (qaa (vVar 0) vNil)))
 (vSeq (vSet 3 (qar qb3 (qaa (vVar 0) (qaa (vVar 1) vNil))))
 (vRet (qjt (qcx (vVar 1)) (qa9 4) (qe9 (vBl (vDIn (!·) (vOp vIxR (vVar 4) (vC (.int 0))) (vVar 2))) (vBl (vDIn (!·) (vOp vIxR (vVar 4) (vC (.int 0))) (vVar 3)))) (vVar 4) 1))))
abbrev qj5:List Str:=["pane","entries","marks","hidden"]
theorem qld:∀ds Q,qbz ds Q->qdu (En Q) (qbg qj5 ds):=by
 rintro ds Q ⟨p,tr,rfl,nd,nm,hl,T,tm,tl,h⟩
 refine qjy ?_
 dsimp! only[qdu]
 refine⟨p,rfl,nd,nm,hl,?_⟩
 rfl'
 refine qjy ?_
 rfl'
 refine⟨p,tr,rfl,nd,nm,hl,T,tm,tl,?_⟩
 dsimp! only[qai]
 refine qel (λr=>rowD r) (λr=>!inR p r.1&&!qbf p r.1) tr (Nat.le_trans (show _<=1000 by omega) qax) (λr hr Y N y1 y2=>?_) ?_
 ·have wy:=(tm r hr).ok
  have hm:=qw6 (p:=p) (List.mem_map.mpr ⟨r,hr,rfl⟩:r.1∈tr.map (·.1))
  dsimp! only[rowD,qap,wayD]
  have l1:(lkD ((p.map prM).map (·.1)) ((p.map prM).map (·.2)) r.1).isSome=inR p r.1:=by
   rw[qbv,qnr,Option.isSome_map,qf9]
  have l2:(lkD (((hidW p tr).map λw=>(w,D.bl true)).map (·.1)) (((hidW p tr).map λw=>(w,D.bl true)).map (·.2)) r.1).isSome=qbf p r.1:=by
   rw[qbv,qq2,←hm]
   by_cases m:r.1∈hidW p tr
   ·rw[if_pos m,decide_eq_true m];rfl
   ·rw[if_neg m,decide_eq_false m];rfl
  rw[l1,l2]
  refine⟨wy.ne,?_⟩
  cases q1:inR p r.1 with
 |true=>exact iteF (y2 (by rw[q1];rfl))
 |false =>
   refine iteT ⟨wy.ne,?_⟩
   cases q2:qbf p r.1 with
  |true=>exact iteF (y2 (by rw[q1,q2];rfl))
  |false=>exact iteT (y1 (by rw[q1,q2];rfl))
 ·ac_rfl
  exact h
def qlm:TVS:=(vRet (vIfE (vBl (vOp vEq (vVar 1) (vC (.str ("shut" : Str))))) (vTup (qaa (vVar 0) (qaa (vC (.str ("folder" : Str))) (qaa (vC (.str ("" : Str))) vNil)))) (vTup (qaa (vVar 0) (qaa (vVar 1) (qaa (vVar 2) vNil))))))
abbrev qwn:List Str:=["way","mark","text"]
theorem qzf:∀ds Q,qfl ds Q->qlm (En Q) (qbg qwn ds):=by
 rintro ds Q ⟨w,m,t,rfl,h⟩
 simp! only[qlm,wayD]
 unfold qe7 at h
 by_cases q:m=qbr
 ·rw[decide_eq_true q]
  rw[if_pos q] at h
  exact iteT ⟨by decide,h⟩
 ·rw[decide_eq_false q]
  rw[if_neg q] at h
  exact iteF ⟨by decide,h⟩
def qu2:TVS:=(vSeq (vSet 2 (qjt (qcx (vVar 0)) (qpf 3 (qdp (qa9 3) (qdp (qa9 4) (qdp (qa9 5) qpe)))) (qe9 (vBl (vOp vNeD (vVar 3) (vTup vNil))) (vBl (vOp vNeD (vVar 4) (vC (.str ("gone" : Str)))))) (qar qfl (qaa (vVar 3) (qaa (vVar 4) (qaa (vVar 5) vNil)))) 3))
 (vRet (qar qcs (qaa (vOp vAdd (qar qbz (qaa (vVar 0) (qaa (vVar 1) vNil))) (vVar 2)) vNil))))
abbrev qzh:List Str:=["pane","tree","put"]
theorem q2v:∀ds Q,qf1 ds Q->qu2 (En Q) (qbg qzh ds):=by
 rintro ds Q ⟨p,tr,rfl,P,pn,pl,T,tn,hl,h⟩
 have la:∀Y:R->Prop,Y (.own (qai (qan p tr)))->qbz [qai p,qai tr] Y:=λY y=>⟨p,tr,rfl,qbh P.so,pn,pl,T.clo,tn,by omega,y⟩
 have nd:=qlx (qbh P.so) (qbh T.so)
 have ll:=qis p tr
 have io:∀Y:R->Prop,(∀ts:List Row,ts.Perm (qan p tr++putR p)->qa1 ts->Y (.own (qai ts)))->qcs [qai (qan p tr++putR p)] Y:=λY y=>⟨_,rfl,nd,y⟩
 refine v_cut (λτ=>τ=[some (.val (qai p)),some (.val (qai tr)),some (.val (qai (putR p)))]) ?_ λnx hnx=>?now
 case now =>
  dsimp! only[qai]
  refine qel (λr=>rowD (qe7 r)) (λr=>!decide (r.1=[])&&!decide (r.2.1=qbn)) p (Nat.le_trans (show _<=1000 by omega) qax) (λr hr Y N y1 y2=>?_) ?_
  ·have sh:∀Y:R->Prop,Y (.val (rowD (qe7 r)))->qfl [wayD r.1,.str r.2.1,.str r.2.2] Y:=λY y=>⟨r.1,r.2.1,r.2.2,rfl,y⟩
   have e0:eqD (.tup (r.1.map D.str)) (.tup [])=decide (r.1=[]):=eqW r.1 []
   dsimp! only[rowD,wayD]
   refine⟨cmpW _ [],depW _,?_⟩
   rw[e0]
   by_cases h0:r.1=[]
   ·rw[decide_eq_true h0] at y2 ⊢
    exact iteF (y2 rfl)
   ·rw[decide_eq_false h0] at y1 y2 ⊢
    refine iteT ?_
    by_cases g:r.2.1=qbn
    ·rw[decide_eq_true g] at y2 ⊢
     exact iteF (y2 rfl)
    ·rw[decide_eq_false g] at y1 ⊢
     refine iteT (sh _ ?_)
     rfl'
     exact y1 rfl
  ·rfl'
   refine hnx _ ?_
   unfold putR qai
   rw[List.map_map]
   rfl
 rintro τ rfl
 rfl'
 refine la _ ?_
 dsimp! only[qai]
 have ll2:(qan p tr++putR p).length<=tr.length+bulk p:=ll
 have el:(qan p tr).length+(putR p).length=(qan p tr++putR p).length:=by rw[List.length_append]
 refine⟨by rw[el];exact Nat.le_trans (show _<=1000 by omega) qax,?_⟩
 rw[←List.map_append]
 refine io _ λts p1 p2=>?_
 rfl'
 have e:qc5 p tr=ts:=qjl p1 p2
 have hp:(qc5 p tr).Perm (qan p tr++putR p)/\qa1 (qc5 p tr):=by
  rw[e]
  exact⟨p1,p2⟩
 rw[←e]
 refine h (qgt P T hp.1 hp.2) (λr hr=>?_) (by rw[hp.1.length_eq];exact ll)
 rcases List.mem_append.mp (hp.1.mem_iff.mp hr) with q|q
 ·exact tn r (List.mem_filter.mp q).1
 ·unfold putR at q
  obtain⟨o,mo,rfl⟩:=List.mem_map.mp q
  rw[qfr]
  exact pn o (List.mem_filter.mp mo).1
def qzp:TVS:=(vSeq (qes 1 (vLst vNil))
 (vSeq (vFor (qcx (vVar 0)) (qa9 2)
  (vFrz 1 (qes 1 (qar qf1 (qaa (vVar 2) (qaa (vVar 1) vNil))))))
 (qk7 1)))
abbrev qzj:List Str:=["panes","tree","pane"]
theorem q2x:∀ds Q,qnj ds Q->qzp (En Q) (qbg qzj ds):=by
 rintro ds Q ⟨ps,rfl,P,h⟩
 refine v_cut (λτ=>τ=[some (.val (qav ps)),some (.own (qai [])),none]) ?_ λnx hnx=>?now
 case now =>
  rfl'
  exact hnx _ rfl
 rintro τ rfl
 refine v_cut (λτ=>∃a,(TreeOk (qa6 ps)/\NmOk (qa6 ps)/\(qa6 ps).length<=qco ps)/\τ=[some (.val (qav ps)),some (.own (qai (qa6 ps))),a]) ?_ λnx hnx=>?now
 case now =>
  dsimp! only[qav]
  refine qdx (λi τ=>∃a,(TreeOk (qa6 (ps.take i))/\NmOk (qa6 (ps.take i))/\(qa6 (ps.take i)).length<=qco (ps.take i))/\τ=[some (.val (qav ps)),some (.own (qai (qa6 (ps.take i)))),a]) ⟨none,⟨⟨List.Pairwise.nil,(λr hr=>by cases hr)⟩,(λr hr=>by cases hr),Nat.zero_le _⟩,rfl⟩ ?_ ?_
  ·rintro i q τ hq ⟨a,⟨T,tn,tl⟩,rfl⟩ nx2 hnx2
   obtain⟨q1,q2,q3⟩:=P.ok q (List.mem_of_getElem? hq)
   have et:ps.take (i+1)=ps.take i++[q]:=by rw[List.take_succ,hq];rfl
   have eb:qco (ps.take (i+1))=qco (ps.take i)+bulk q:=by
    unfold qco
    rw[et,List.map_append,List.sum_append]
    simp
   have few:qco (ps.take (i+1))<=150:=by
    have h1:qco (ps.take (i+1))<=qco ps:=by
     unfold qco
     conv=>rhs;rw[←List.take_append_drop (i+1) ps,List.map_append,List.sum_append]
     omega
    have:=P.few
    omega
   have ld:∀Y:R->Prop,(TreeOk (qc5 q (qa6 (ps.take i)))->NmOk (qc5 q (qa6 (ps.take i)))->(qc5 q (qa6 (ps.take i))).length<=(qa6 (ps.take i)).length+bulk q->Y (.own (qai (qc5 q (qa6 (ps.take i))))))->qf1 [qai q,qai (qa6 (ps.take i))] Y:=λY y=>⟨q,_,rfl,q1,q2,q3,T,tn,by omega,y⟩
   rfl'
   refine ld _ λt1 t2 t3=>?_
   rfl'
   refine hnx2 _ ⟨some (.val (qai q)),?_,?_⟩
   ·rw[et,qec,←et,eb]
    exact⟨t1,t2,by omega⟩
   ·rw[et,qec]
  ·rintro τ ⟨a,hT,rfl⟩
   rw[List.take_length] at hT
   rw[List.take_length]
   exact hnx _ ⟨a,hT,rfl⟩
 rintro τ ⟨a,⟨t1,t2,t3⟩,rfl⟩
 rfl'
 exact h t1 t2 t3
def qex:TVS:=(vSeq (qes 1 (vLst vNil))
 (vSeq (vFor (qcx (vVar 0)) (qa9 2)
  (vFrz 1 (qes 1 (qar qf1 (qaa (vVar 2) (qaa (vVar 1) vNil))))))
 (qk7 1)))
abbrev qif:List Str:=["panes","tree","pane"]
theorem qj2:∀ds Q,qcp ds Q->qex (En Q) (qbg qif ds):=q2x
def qmz:TVS:=(vSeq (qes 2 qf3)
 (vSeq (vFor (qcx (vVar 0)) (qa9 3)
  (qhk 2 (vOp vIxR (vVar 3) (vC (.int 0))) (vOp vIxR (vVar 3) (vC (.int 1)))))
 (vSeq (qes 4 qf3)
 (vSeq (vFor (qcx (vVar 1)) (qa9 3)
  (vSeq (vSet 5 (vDIn (!·) (vOp vIxR (vVar 3) (vC (.int 0))) (vVar 2)))
 (vSeq (vFor (qjw (vF1 vLen (vOp vIxR (vVar 3) (vC (.int 0))))) (qa9 6)
  (vIfS (qe9 (vBl (vDIn id (qfa (vOp vIxR (vVar 3) (vC (.int 0))) qdk (qjv (vVar 6))) (vVar 2))) (vBl (vOp vNeD (qms (vVar 2) (qfa (vOp vIxR (vVar 3) (vC (.int 0))) qdk (qjv (vVar 6)))) (vC (.str ("folder" : Str))))))
  (vSet 5 (vC (.bl false)))
  qcz))
 (vIfS (vBl (vVar 5))
  (qhk 4 (vOp vIxR (vVar 3) (vC (.int 0))) (vTup (qaa (vOp vIxR (vVar 3) (vC (.int 1))) (qaa (vOp vIxR (vVar 3) (vC (.int 2))) vNil))))
  qcz))))
 (vSeq (vFor (qcx (vVar 0)) (qa9 3)
  (vIfS (vOrT (vBl (vOp vEq (vOp vIxR (vVar 3) (vC (.int 1))) (vC (.str ("file" : Str))))) (vBl (vOp vEq (vOp vIxR (vVar 3) (vC (.int 1))) (vC (.str ("link" : Str))))))
  (qhk 4 (vOp vIxR (vVar 3) (vC (.int 0))) (vTup (qaa (vOp vIxR (vVar 3) (vC (.int 1))) (qaa (vOp vIxR (vVar 3) (vC (.int 2))) vNil))))
  (vIfS (qe9 (vBl (vOp vNeD (vOp vIxR (vVar 3) (vC (.int 1))) (vC (.str ("gone" : Str))))) (vBl (vOp vNeD (vOp vIxR (vVar 3) (vC (.int 0))) (vTup vNil))))
  (qhk 4 (vOp vIxR (vVar 3) (vC (.int 0))) (vTup (qaa (vC (.str ("folder" : Str))) (qaa (vC (.str ("" : Str))) vNil))))
  qcz)))
 (vRet (qjt (qcx (vF1 qet (vF1 qic (vVar 4)))) (qa9 7) (λ_ Q=>Q true) (vOp vAdd (vTup (qaa (vVar 7) vNil)) (qms (vVar 4) (vVar 7))) 1)))))))
abbrev qsv:List Str:=["_law_pane","_law_tree","_law_marks","_law_row","_law_shown","_law_kept","_law_k"]
theorem qu0:∀ds Q,qe0 ds Q->qmz (En Q) (qbg qsv ds):=by
 rintro ds Q ⟨p,tr,rfl,P,pn,pl,T,tn,hl,h⟩
 have big:1000<sizeLine:=by decide
 have ndp:=qbh P.so
 have ndt:=qbh T.so
 have nd:=qlx ndp ndt
 have ll:(qan p tr++putR p).length<=tr.length+bulk p:=qis p tr
 refine v_cut (λτ=>τ=[some (.val (qai p)),some (.val (qai tr)),some (.own (qap [])),none,none,none,none]) ?_ λnx hnx=>?now
 case now =>
  rfl'
  exact hnx _ rfl
 rintro τ rfl
 refine v_cut (λτ=>∃a,τ=[some (.val (qai p)),some (.val (qai tr)),some (.own (qap (p.map prM))),a,none,none,none]) ?_ λnx hnx=>?now
 case now =>
  dsimp! only[qai]
  refine qdx (λi τ=>∃a,τ=[some (.val (qai p)),some (.val (qai tr)),some (.own (qap ((p.take i).map prM))),a,none,none,none]) ⟨none,rfl⟩ ?_ ?_
  ·rintro i r τ hr ⟨a,rfl⟩ nx2 hnx2
   have mr:=List.mem_of_getElem? hr
   have hi:=(List.getElem?_eq_some_iff.mp hr).1
   simp! only[rowD,qap,wayD]
   refine⟨(pn r mr).ok.ne,?_,?_⟩
   ·rw[List.length_take]
    omega
   ·rw[qcf]
    have ni:¬ r.1∈((p.take i).map prM).map (·.1):=by
     rw[qst]
     exact qe8 ndp hr
    have e:insP ((p.take i).map prM) r.1 (.str r.2.1)=(p.take (i+1)).map prM:=by
     unfold insP
     rw[if_neg ni,List.take_succ,hr,List.map_append]
     rfl
    rw[e]
    exact hnx2 _ ⟨some (.val (rowD r)),rfl⟩
  ·rintro τ ⟨a,rfl⟩
   rw[List.take_length]
   exact hnx _ ⟨a,rfl⟩
 rintro τ ⟨a,rfl⟩
 refine v_cut (λτ=>τ=[some (.val (qai p)),some (.val (qai tr)),some (.own (qap (p.map prM))),a,some (.own (qap [])),none,none]) ?_ λnx hnx=>?now
 case now =>
  rfl'
  exact hnx _ rfl
 rintro τ rfl
 refine v_cut (λτ=>∃a b c,τ=[some (.val (qai p)),some (.val (qai tr)),some (.own (qap (p.map prM))),a,some (.own (qap ((qan p tr).map prR))),b,c]) ?_ λnx hnx=>?now
 case now =>
  dsimp! only[qai]
  refine qdx (λi τ=>∃a b c,τ=[some (.val (qai p)),some (.val (qai tr)),some (.own (qap (p.map prM))),a,some (.own (qap ((qan p (tr.take i)).map prR))),b,c]) ⟨a,none,none,rfl⟩ ?_ ?_
  ·rintro i r τ hr ⟨a,b,c,rfl⟩ nx2 hnx2
   have mr:=List.mem_of_getElem? hr
   have hi:=(List.getElem?_eq_some_iff.mp hr).1
   have wy:=(tn r mr).ok
   have wl:=wy.1
   have et:tr.take (i+1)=tr.take i++[r]:=by rw[List.take_succ,hr];rfl
   have al:(qan p (tr.take i)).length<=200:=by
    have:=List.length_filter_le (λr:Row=>!inR p r.1&&!qbf p r.1) (tr.take i)
    rw[List.length_take] at this
    have e:qan p (tr.take i)=(tr.take i).filter λr:Row=>!inR p r.1&&!qbf p r.1:=rfl
    rw[e]
    omega
   refine v_cut (λτ=>τ=[some (.val (qai p)),some (.val (qai tr)),some (.own (qap (p.map prM))),some (.val (rowD r)),some (.own (qap ((qan p (tr.take i)).map prR))),some (.val (.bl (!inR p r.1))),c]) ?_ λnx3 hnx3=>?now
   case now =>
    dsimp! only[rowD,qap,wayD]
    have l1:(lkD ((p.map prM).map (·.1)) ((p.map prM).map (·.2)) r.1).isSome=inR p r.1:=by
     rw[qbv,qnr,Option.isSome_map,qf9]
    rw[l1]
    exact⟨wy.ne,hnx3 _ rfl⟩
   rintro τ rfl
   refine v_cut (λτ=>∃c,τ=[some (.val (qai p)),some (.val (qai tr)),some (.own (qap (p.map prM))),some (.val (rowD r)),some (.own (qap ((qan p (tr.take i)).map prR))),some (.val (.bl (!inR p r.1&&!qbf p r.1))),c]) ?_ λnx3 hnx3=>?now
   case now =>
    dsimp! only[rowD,wayD]
    refine⟨by omega,by omega,qgo (λk τ=>∃c,τ=[some (.val (qai p)),some (.val (qai tr)),some (.own (qap (p.map prM))),some (.val (rowD r)),some (.own (qap ((qan p (tr.take i)).map prR))),some (.val (.bl (!inR p r.1&&!((List.range k).any λj=>qb4 (qbw p (r.1.take j)))))),c]) ⟨c,?_⟩ ?_ ?_⟩
    ·rw[List.range_zero,List.any_nil,Bool.not_false,Bool.and_true]
     rfl
    ·rintro k τ hk ⟨c,rfl⟩ nx4 hnx4
     have es:((List.range (k+1)).any λj=>qb4 (qbw p (r.1.take j)))=(((List.range k).any λj=>qb4 (qbw p (r.1.take j)))||qb4 (qbw p (r.1.take k))):=by
      rw[List.range_succ,List.any_append,List.any_cons,List.any_nil,Bool.or_false]
     have tk:("" : Str)∉r.1.take k:=λm=>wy.ne (List.mem_of_mem_take m)
     have no:qb4 (qbw p (r.1.take k))=false->∀c,nx4 [some (.val (qai p)),some (.val (qai tr)),some (.own (qap (p.map prM))),some (.val (rowD r)),some (.own (qap ((qan p (tr.take i)).map prR))),some (.val (.bl (!inR p r.1&&!((List.range k).any λj=>qb4 (qbw p (r.1.take j)))))),c]:=λq c=>hnx4 _ ⟨c,by rw[es,q,Bool.or_false]⟩
     have yes:qb4 (qbw p (r.1.take k))=true->∀c,nx4 [some (.val (qai p)),some (.val (qai tr)),some (.own (qap (p.map prM))),some (.val (rowD r)),some (.own (qap ((qan p (tr.take i)).map prR))),some (.val (.bl false)),c]:=λq c=>hnx4 _ ⟨c,by rw[es,q,Bool.or_true,Bool.not_true,Bool.and_false]⟩
     dsimp! only[rowD,qap,wayD]
     simp only[qez]
     refine⟨tk,?_⟩
     rw[qbv,qnr]
     cases e:qbw p (r.1.take k) with
    |none =>
      refine iteF ?_
      exact no (by rw[e];rfl) _
    |some m =>
      refine iteT ⟨tk,.str m,rfl,?_⟩
      rfl'
      by_cases q:m=qaz
      ·rw[decide_eq_true q]
       exact iteF (no (by rw[e,q];simp[qb4]) _)
      ·rw[decide_eq_false q]
       exact iteT (yes (by rw[e];simp[qb4,q]) _)
    ·rintro τ ⟨c,rfl⟩
     exact hnx3 _ ⟨c,rfl⟩
   rintro τ ⟨c,rfl⟩
   dsimp! only[rowD,wayD]
   cases q:(!inR p r.1&&!qbf p r.1) with
  |false =>
    refine iteF (hnx2 _ ⟨some (.val (rowD r)),some (.val (.bl false)),c,?_⟩)
    have:qan p (tr.take (i+1))=qan p (tr.take i):=by
     unfold qan
     rw[et,List.filter_append,List.filter_cons_of_neg (by rw[q];exact Bool.false_ne_true),List.filter_nil,List.append_nil]
    rw[this]
    rfl
  |true =>
    refine iteT ?_
    dsimp! only[qap,wayD]
    refine⟨by decide,wy.ne,by omega,?_⟩
    rw[qcf]
    have this:qan p (tr.take (i+1))=qan p (tr.take i)++[r]:=by
     unfold qan
     rw[et,List.filter_append,List.filter_cons_of_pos (by rw[q]),List.filter_nil]
    have ins:insP ((qan p (tr.take i)).map prR) r.1 (.tup [.str r.2.1,.str r.2.2])=(qan p (tr.take (i+1))).map prR:=by
     unfold insP
     rw[qmw,if_neg,this,List.map_append]
     ·rfl
     ·intro m
      obtain⟨o,mo,eo⟩:=List.mem_map.mp m
      exact qe8 ndt hr (List.mem_map.mpr ⟨o,(List.mem_filter.mp mo).1,eo⟩)
    rw[ins]
    exact hnx2 _ ⟨some (.val (rowD r)),some (.val (.bl true)),c,rfl⟩
  ·rintro τ ⟨a,b,c,rfl⟩
   rw[List.take_length]
   exact hnx _ ⟨a,b,c,rfl⟩
 clear a
 rintro τ ⟨a,b,c,rfl⟩
 refine v_cut (λτ=>∃a,τ=[some (.val (qai p)),some (.val (qai tr)),some (.own (qap (p.map prM))),a,some (.own (qap ((qan p tr++putR p).map prR))),b,c]) ?_ λnx hnx=>?now
 case now =>
  dsimp! only[qai]
  refine qdx (λi τ=>∃a,τ=[some (.val (qai p)),some (.val (qai tr)),some (.own (qap (p.map prM))),a,some (.own (qap ((qan p tr++qbj (p.take i)).map prR))),b,c]) ⟨a,?_⟩ ?_ ?_
  ·show _=[_,_,_,_,some (R.own (qap ((qan p tr++[]).map prR))),_,_]
   rw[List.append_nil]
   rfl
  ·rintro i r τ hr ⟨a,rfl⟩ nx2 hnx2
   have mr:=List.mem_of_getElem? hr
   have hi:=(List.getElem?_eq_some_iff.mp hr).1
   have wy:=(pn r mr).ok
   have et:p.take (i+1)=p.take i++[r]:=by rw[List.take_succ,hr];rfl
   have al:(qan p tr++qbj (p.take i)).length<=500:=by
    have h1:=List.length_filter_le (λr:Row=>!inR p r.1&&!qbf p r.1) tr
    have h2:(qbj (p.take i)).length<=(p.take i).length:=by
     unfold qbj
     rw[List.length_map]
     exact List.length_filter_le _ _
    rw[List.length_take] at h2
    have e:qan p tr=tr.filter λr:Row=>!inR p r.1&&!qbf p r.1:=rfl
    rw[List.length_append,e]
    omega
   have nin:r.1∉(qan p tr++qbj (p.take i)).map (·.1):=λm=>by
    rw[List.map_append] at m
    rcases List.mem_append.mp m with m|m
    ·obtain⟨o,mo,eo⟩:=List.mem_map.mp m
     have:=(List.mem_filter.mp mo).2
     have i1:inR p o.1=true:=decide_eq_true (List.mem_map.mpr ⟨r,mr,eo.symm⟩)
     rw[i1] at this
     cases this
    ·obtain⟨o,mo,eo⟩:=List.mem_map.mp m
     unfold qbj at mo
     obtain⟨o2,mo2,rfl⟩:=List.mem_map.mp mo
     have e2:o2.1=r.1:=by
      rw[←eo]
      split<;>rfl
     exact qe8 ndp hr (List.mem_map.mpr ⟨o2,(List.mem_filter.mp mo2).1,e2⟩)
   have step:qbj (p.take (i+1))=qbj (p.take i)++qbj [r]:=by
    unfold qbj
    rw[et,List.filter_append,List.map_append]
   have ins:∀x:Str×Str,insP ((qan p tr++qbj (p.take i)).map prR) r.1 (thD x)=(qan p tr++(qbj (p.take i)++[(r.1,x)])).map prR:=λx=>by
    unfold insP
    rw[qmw,if_neg nin,←List.append_assoc,List.map_append (l₂:=[(r.1,x)])]
    rfl
   have put:∀x:Str×Str,qbj [r]=[(r.1,x)]->("" : Str)∉r.1/\(qan p tr++qbj (p.take i)).length<sizeLine/\nx2 [some (.val (qai p)),some (.val (qai tr)),some (.own (qap (p.map prM))),some (.val (rowD r)),some (.own (qap (insP ((qan p tr++qbj (p.take i)).map prR) r.1 (thD x)))),b,c]:=λx e=>⟨wy.ne,by omega,by
    rw[ins]
    exact hnx2 _ ⟨some (.val (rowD r)),by rw[step,e]⟩⟩
   have skip:qbj [r]=[]->nx2 [some (.val (qai p)),some (.val (qai tr)),some (.own (qap (p.map prM))),some (.val (rowD r)),some (.own (qap ((qan p tr++qbj (p.take i)).map prR))),b,c]:=λe=>hnx2 _ ⟨some (.val (rowD r)),by rw[step,e,List.append_nil]⟩
   have e0:eqD (.tup (r.1.map D.str)) (.tup [])=decide (r.1=[]):=eqW r.1 []
   dsimp! only[rowD,wayD,qap]
   rw[qcf,qcf]
   by_cases m1:r.2.1=qde
   ·rw[decide_eq_true m1]
    exact iteT ⟨by decide,put r.2 (by simp[qbj,m1])⟩
   rw[decide_eq_false m1]
   refine iteF ?_
   by_cases m2:r.2.1=qdf
   ·rw[decide_eq_true m2]
    exact iteT ⟨by decide,put r.2 (by simp[qbj,m2])⟩
   rw[decide_eq_false m2]
   refine iteF ?_
   by_cases m3:r.2.1=qbn
   ·rw[decide_eq_true m3]
    exact iteF (skip (by simp only[qbj,List.filter_cons,List.filter_nil,decide_eq_false m1,decide_eq_false m2,decide_eq_true m3];rfl))
   rw[decide_eq_false m3]
   refine iteT ⟨cmpW _ [],depW _,?_⟩
   rw[e0]
   by_cases h0:r.1=[]
   ·rw[decide_eq_true h0]
    exact iteF (skip (by simp only[qbj,List.filter_cons,List.filter_nil,decide_eq_false m1,decide_eq_false m2,decide_eq_false m3,decide_eq_true h0];rfl))
   rw[decide_eq_false h0]
   refine iteT ⟨by decide,put (qaz,qd5) ?_⟩
   simp only[qbj,List.filter_cons,List.filter_nil,decide_eq_false m1,decide_eq_false m2,decide_eq_false m3,decide_eq_false h0]
   simp[m1,m2]
  ·rintro τ ⟨a,rfl⟩
   rw[List.take_length,qqv P]
   exact hnx _ ⟨a,rfl⟩
 clear a
 rintro τ ⟨a,rfl⟩
 generalize hL:qan p tr++putR p=L at *
 have wk:∀w∈L.map (·.1),("" : Str)∉w:=λw mw=>by
  obtain⟨r,mr,rfl⟩:=List.mem_map.mp mw
  rw[←hL] at mr
  rcases List.mem_append.mp mr with q|q
  ·exact(tn r (List.mem_filter.mp q).1).ok.ne
  ·unfold putR at q
   obtain⟨o,mo,rfl⟩:=List.mem_map.mp q
   rw[qfr]
   exact(pn o (List.mem_filter.mp mo).1).ok.ne
 dsimp! only[qap]
 have ek:(((L.map prR).map (·.1)).map λw=>D.tup (w.map D.str))=(L.map (·.1)).map wayD:=by
  rw[List.map_map,List.map_map,List.map_map]
  rfl
 refine⟨?_,λds hp hs=>?_⟩
 ·rw[ek]
  exact qia nd
 ·rw[ek] at hp
  obtain⟨vs,rfl,hv,hso⟩:=qlf hp hs
  have hvl:vs.length=L.length:=by rw[hv.length_eq,List.length_map]
  refine qm6 (λw=>rowD (w,lkR L w)) vs (Nat.le_trans (show _<=1000 by omega) qax) (λw mw Y N hY=>?_) ?_
  ·have mw':=hv.mem_iff.mp mw
   dsimp! only[wayD]
   exact⟨by decide,wk w mw',thD (lkR L w),by rw[qbv];exact qq1 nd mw',by show 3<=sizeLine;decide,hY⟩
  ·rfl'
   have e:vs.map (λw=>rowD (w,lkR L w))=(vs.map λw=>(w,lkR L w)).map rowD:=by rw[List.map_map];rfl
   rw[e]
   obtain⟨p1,p2⟩:=qf2 nd hv hso
   have el:qc5 p tr=vs.map λw=>(w,lkR L w):=by
    unfold qc5
    rw[hL]
    exact qjl p1 p2
   have p3:(qc5 p tr).Perm (qan p tr++putR p):=by rw[el,hL];exact p1
   have p4:qa1 (qc5 p tr):=by rw[el];exact p2
   rw[←el]
   refine h (qgt P T p3 p4) (λr hr=>?_) (by rw[p3.length_eq,hL];exact ll)
   rcases List.mem_append.mp (p3.mem_iff.mp hr) with q|q
   ·exact tn r (List.mem_filter.mp q).1
   ·unfold putR at q
    obtain⟨o,mo,rfl⟩:=List.mem_map.mp q
    rw[qfr]
    exact pn o (List.mem_filter.mp mo).1
def qu4:TVS:=(vSeq (vIfS (vOrT (qft (vBl (qju .list (vVar 0)))) (vBl (vOp vNeD (vF1 vLen (vVar 0)) (vF1 vLen (vVar 1)))))
  (vRet (vC (.bl false)))
  qcz)
 (vSeq (vFor (qjw (vF1 vLen (vVar 1))) (qa9 2)
  (vSeq (vSet 3 (vOp vIxR (vVar 0) (vVar 2)))
 (vSeq (vIfS (vOrT (qft (vBl (qju .tuple (vVar 3)))) (vOrT (vBl (vOp vNeD (vF1 vLen (vVar 3)) (vC (.int 3)))) (qft (vBl (qju .tuple (vOp vIxR (vVar 3) (vC (.int 0))))))))
  (vRet (vC (.bl false)))
  qcz)
 (vIfS (vOrT (qft (vBl (qju .str (vOp vIxR (vVar 3) (vC (.int 1)))))) (vOrT (qft (vBl (qju .str (vOp vIxR (vVar 3) (vC (.int 2)))))) (vBl (vOp vNeD (vVar 3) (vOp vIxR (vVar 1) (vVar 2))))))
  (vRet (vC (.bl false)))
  qcz))))
 (vRet (vC (.bl true)))))
abbrev qzi:List Str:=["_law_found","_law_due","_law_k","_law_row"]
theorem q2w:∀ds Q,g_same ds Q->qu4 (En Q) (qbg qzi ds):=by
 rintro ds Q ⟨rs,rfl,hl,h⟩
 refine v_cut (λτ=>τ=[some (.val (qai rs)),some (.val (qai rs)),none,none]) ?_ λnx hnx=>?now
 case now =>
  dsimp! only[qai]
  exact hnx _ rfl
 rintro τ rfl
 refine v_cut (λ_=>True) ?_ λnx hnx=>?now
 case now =>
  dsimp! only[qai]
  refine⟨by omega,by omega,qgo (λi τ=>∃kv rv,τ=[some (.val (qai rs)),some (.val (qai rs)),kv,rv]) ⟨none,none,rfl⟩ ?_ λτ _=>hnx _ trivial⟩
  rintro i τ hi ⟨kv,rv,rfl⟩ nx hnx
  obtain⟨y,hy,_⟩:=qew (xs:=rs) (k:=(i:Int)) (by omega) (by omega)
  have hy2:atI (rs.map rowD) (i:Int)=some (rowD y):=by rw[qei,hy];rfl
  refine v_cut (λτ=>τ=[some (.val (qai rs)),some (.val (qai rs)),some (.val (.int i)),some (.val (rowD y))]) ?_ λnx3 hnx3=>?now
  case now =>
   dsimp! only[qai]
   exact⟨_,hy2,hnx3 _ rfl⟩
  rintro τ rfl
  refine v_cut (λτ=>τ=[some (.val (qai rs)),some (.val (qai rs)),some (.val (.int i)),some (.val (rowD y))]) ?_ λnx3 hnx3=>?now
  case now =>
   dsimp! only[rowD,wayD]
   exact hnx3 _ rfl
  rintro τ rfl
  dsimp! only[qai,rowD]
  refine⟨_,hy2,cmpR y y,Nat.le_trans (depR y) (by decide),?_⟩
  refine Eq.mpr (if_neg ?_) (hnx _ ⟨_,_,rfl⟩)
  show ¬ (!eqD (rowD y) (rowD y))=true
  rw[qch]
  decide
 intro τ _
 rfl'
 exact h
section
variable {K:PySem.W.Frag} {H H1 H2 H' B B':Hp} {F G:List Addr} {a b l g:Addr} {rs:List Row} {as:List Addr} {ps:List (List Row)}
def Fr(F:List Addr)(H H':Hp):Prop:=∀a o,H a=some o->(a∈F->∃xs,o=.tup xs)->H' a=some o
theorem Fr.of(s:Same H H'):Fr F H H':=λa o e _=>s a o e
theorem Fr.trans(p:Fr F H H1)(q:Fr F H1 H2):Fr F H H2:=λa o e n=>q a o (p a o e n) n
theorem Fr.mono(p:Fr F H H')(h:∀a∈F,a∈G):Fr G H H':=λa o e n=>p a o e λm=>n (h a m)
theorem Fr.upd{u o:HO}(m:a∈F)(e:H a=some u)(nt:∀xs,u≠.tup xs):Fr F H (upd H a o):=λb w e2 n=>by
 by_cases z:b=a
 ·subst z
  rw[e] at e2
  cases e2
  obtain⟨xs,h⟩:=n m
  exact absurd h (nt xs)
 ·rw[qal z]
  exact e2
theorem Fr.tup(p:Fr F H H'):∀a xs,H a=some (.tup xs)->H' a=some (.tup xs):=λa xs e=>p a _ e λ_=>⟨xs,rfl⟩
theorem Fr.out(p:Fr F H H'){o:HO}(e:H a=some o)(n:a∉F):H' a=some o:=p a o e λm=>absurd m n
theorem Fr.same(p:Fr F H H')(n:∀a∈F,B a=none)(s:Same B H):Same B H':=λa o e=>p a o (s a o e) λm=>by rw[n a m] at e;cases e
def KT(d:D):Prop:=∀(K:PySem.W.Frag) (B B':Hp) (v:V),(∀a xs,B a=some (.tup xs)->B' a=some (.tup xs))->Rep K B d v->Rep K B' d v
theorem KT.all{ds:List D}(h:∀d∈ds,KT d)(k:∀a xs,B a=some (.tup xs)->B' a=some (.tup xs)):∀ {xs:List V},Reps K B ds xs->Reps K B' ds xs:=by
 induction ds with
|nil=>intro xs r;exact r
|cons d ds ih =>
  intro xs r
  unfold Reps at r ⊢
  obtain⟨x,q,e,r1,r2⟩:=r
  exact⟨x,q,e,h d (List.mem_cons_self ..) K B B' x k r1,ih (λd m=>h d (List.mem_cons_of_mem _ m)) r2⟩
theorem qqt(z:Str):KT (.str z):=λ_ _ _ _ _ r=>by unfold Rep at r ⊢;exact r
theorem qvj{ds:List D}(h:∀d∈ds,KT d):KT (.tup ds):=λK B B' v k r=>by
 unfold Rep at r ⊢
 obtain⟨a,xs,rfl,t,r⟩:=r
 exact⟨a,xs,rfl,t.elim (λq=>.inl (k a _ q)) .inr,KT.all h k r⟩
theorem qvi(r:Row):KT (rowD r):=qvj λd m=>by
 have m':d∈[D.tup (r.1.map D.str),.str r.2.1,.str r.2.2]:=m
 simp only[List.mem_cons,List.not_mem_nil,or_false] at m'
 rcases m' with rfl|rfl|rfl
 ·exact qvj λd m=>by
   obtain⟨z,_,rfl⟩:=List.mem_map.mp m
   exact qqt z
 ·exact qqt _
 ·exact qqt _
def PnAt(K:PySem.W.Frag)(H:Hp)(a:Addr)(rs:List Row):Prop:=∃xs,H a=some (.lst xs)/\Reps K H (rs.map rowD) xs
theorem qg6{xs:List V}(k:∀a xs,B a=some (.tup xs)->B' a=some (.tup xs))(h:Reps K B (rs.map rowD) xs):Reps K B' (rs.map rowD) xs:=KT.all (λd m=>by
 obtain⟨r,_,rfl⟩:=List.mem_map.mp m
 exact qvi r) k h
theorem PnAt.fr(h:PnAt K H a rs)(p:Fr F H H')(n:a∉F):PnAt K H' a rs:=let ⟨xs,e,r⟩:=h;⟨xs,p.out e n,qg6 p.tup r⟩
theorem PnAt.same(h:PnAt K H a rs)(s:Same H H'):PnAt K H' a rs:=h.fr (F:=[]) (.of s) (by simp)
theorem PnAt.rep(h:PnAt K H a rs):Rep K H (qai rs) (.ref a):=by
 obtain⟨xs,e,r⟩:=h
 unfold qai Rep
 exact⟨a,xs,rfl,e,r⟩
theorem PnAt.got(h:PnAt K H a rs):H a≠none:=let ⟨_,e,_⟩:=h;by rw[e];exact λz=>by cases z
theorem q3i(s:Same B H)(h:Rep K B (qai rs) v):∃a,v=.ref a/\PnAt K B a rs:=by
 unfold qai Rep at h
 obtain⟨a,xs,rfl,e,r⟩:=h
 exact⟨a,rfl,xs,e,r⟩
structure PsAt(K:PySem.W.Frag)(H:Hp)(l:Addr)(as:List Addr)(ps:List (List Row)):Prop where
 at':H l=some (.lst (as.map .ref))
 len:as.length=ps.length
 pn:∀(i:Nat) a p,as[i]?=some a->ps[i]?=some p->PnAt K H a p
theorem PsAt.mem(h:PsAt K H l as ps){a:Addr}(m:a∈as):∃p,PnAt K H a p:=by
 obtain⟨i,e⟩:=List.mem_iff_getElem?.mp m
 have hi:i<ps.length:=by rw[←h.len];exact(List.getElem?_eq_some_iff.mp e).1
 exact⟨_,h.pn i a _ e (List.getElem?_eq_getElem hi)⟩
theorem PsAt.got(h:PsAt K H l as ps):∀a∈l::as,H a≠none:=λa m=>by
 rcases List.mem_cons.mp m with rfl|m
 ·rw[h.at'];exact λz=>by cases z
 ·obtain⟨p,q⟩:=h.mem m
  exact q.got
theorem PsAt.fr(h:PsAt K H l as ps)(p:Fr F H H')(n:∀a∈l::as,a∉F):PsAt K H' l as ps :=
 ⟨p.out h.at' (n l (List.mem_cons_self ..)),h.len,λi a q e1 e2=>(h.pn i a q e1 e2).fr p (n a (List.mem_cons_of_mem _ (List.mem_of_getElem? e1)))⟩
theorem PsAt.same(h:PsAt K H l as ps)(s:Same H H'):PsAt K H' l as ps:=h.fr (F:=[]) (.of s) (by simp)
theorem qrw:∀ {as:List Addr} {ps:List (List Row)},as.length=ps.length->(∀(i:Nat) a p,as[i]?=some a->ps[i]?=some p->PnAt K H a p)->Reps K H (ps.map qai) (as.map .ref)
|[],[],_,_=>by
  unfold Reps
  rfl
|a::as,p::ps,e,h=>by
  rw[List.map_cons,List.map_cons]
  unfold Reps
  exact⟨_,_,rfl,(h 0 a p rfl rfl).rep,qrw (Nat.succ.inj e) λi a p e1 e2=>h (i+1) a p e1 e2⟩
theorem PsAt.rep(h:PsAt K H l as ps):Rep K H (qav ps) (.ref l):=by
 unfold qav Rep
 exact⟨l,_,rfl,h.at',qrw h.len h.pn⟩
theorem q1g:∀ {ps:List (List Row)} {xs:List V},Reps K B (ps.map qai) xs->∃as:List Addr,xs=as.map .ref/\as.length=ps.length/\∀(i:Nat) a p,as[i]?=some a->ps[i]?=some p->PnAt K B a p
|[],xs,h=>by
  rw[List.map_nil] at h
  unfold Reps at h
  exact⟨[],h,rfl,λi a p e=>by cases e⟩
|p::ps,xs,h=>by
  rw[List.map_cons] at h
  unfold Reps at h
  obtain⟨x,r,rfl,h1,h2⟩:=h
  obtain⟨as,rfl,e,k⟩:=q1g h2
  obtain⟨a,rfl,q⟩:=q3i (Same.refl B) h1
  refine⟨a::as,rfl,by rw[List.length_cons,e,List.length_cons],λi b q' e1 e2=>?_⟩
  cases i with
 |zero=>cases e1;cases e2;exact q
 |succ i=>exact k i b q' e1 e2
def GlAt(K:PySem.W.Frag)(H:Hp)(g:Addr)(ps:List (List Row))(F:List Addr):Prop:=∃C dx l as,F=g::l::as/\F.Nodup/\clsOf K "Glass" C/\H g=some (.ins C dx [("layers",.ref l)])/\PsAt K H l as ps
theorem GlAt.fr(h:GlAt K H g ps F)(p:Fr G H H')(n:∀a∈F,a∉G):GlAt K H' g ps F:=by
 obtain⟨C,dx,l,as,rfl,nd,hc,e,q⟩:=h
 exact⟨C,dx,l,as,rfl,nd,hc,p.out e (n g (List.mem_cons_self ..)),q.fr p λa m=>n a (List.mem_cons_of_mem _ m)⟩
theorem GlAt.same(h:GlAt K H g ps F)(s:Same H H'):GlAt K H' g ps F:=h.fr (G:=[]) (.of s) (by simp)
theorem GlAt.got(h:GlAt K H g ps F):∀a∈F,H a≠none:=by
 obtain⟨C,dx,l,as,rfl,nd,hc,e,q⟩:=h
 intro a m
 rcases List.mem_cons.mp m with rfl|m
 ·rw[e];exact λz=>by cases z
 ·exact q.got a m
theorem qv8{d:DP}{ds:List D}{Qd:R->Prop}{vs:List V}{Q:VK}{E:XK}(rp:Reps K H ds vs)(hg:d ds Qd)(hx:∀n,¬ Qd (.exc n))(k:∀r v B' H',Qd r->Same H H'->Same B' H'->RepR K B' H H' r v->Q v H'):spOf K d vs H Q E :=
 ⟨ds,H,Qd,Same.refl _,rp,hg,λn C B' H' q=>(hx n q).elim,λr v B' H' q p rr=>k r v B' H' q p.h p.s rr⟩
theorem q10{d:D}{v:V}(h:Rep K H d v):Reps K H [d] [v]:=by
 unfold Reps
 refine⟨_,_,rfl,h,?_⟩
 unfold Reps
 rfl
theorem q3s{d e:D}{v w:V}(h:Rep K H d v)(h2:Rep K H e w):Reps K H [d,e] [v,w]:=by
 unfold Reps
 exact⟨_,_,rfl,h,q10 h2⟩
theorem qn0{v:V}(s:Same B' H')(h:RepR K B' H H' (.own (qai rs)) v):∃a,v=.ref a/\H a=none/\PnAt K H' a rs:=by
 obtain⟨a,rfl,e,_,o⟩:=h
 obtain⟨xs,e2,r⟩:=o
 exact⟨a,rfl,e,xs,e2,r.same s⟩
theorem qur{Q:VK}{E:XK}(ha:PnAt K H a rs)(hb:PnAt K H b rs)(few:rs.length<=1000)(k:∀H',Same H H'->Q (.bl true) H'):spOf K g_same [.ref a,.ref b] H Q E :=
 qv8 (Qd:=λr=>r=.val (.bl true)) (q3s ha.rep hb.rep) ⟨rs,rfl,few,rfl⟩ (λ_ z=>by cases z) λr v B' H' e s _ rr=>by
  subst e
  have rr':Rep K B' (.bl true) v:=rr
  unfold Rep at rr'
  subst rr'
  exact k H' s
theorem qus{Q:VK}{E:XK}(hl:PsAt K H l as ps)(P:PanesOk ps)(k:∀c H',Same H H'->H c=none->PnAt K H' c (qa6 ps)->Q (.ref c) H'):spOf K qnj [.ref l] H Q E :=
 qv8 (Qd:=λr=>r=.own (qai (qa6 ps))) (q10 hl.rep) ⟨ps,rfl,P,λ_ _ _=>rfl⟩ (λ_ z=>by cases z) λr v B' H' e s s2 rr=>by
  subst e
  obtain⟨c,rfl,e,q⟩:=qn0 s2 rr
  exact k c H' s e q
abbrev rLst(K:PySem.W.Frag):List V->Hp->VK->Prop:=λxs H Q=>∃p ys,xs=[.ref p]/\(SqL K H p ys\/SqT K H p ys)/\∀l,H l=none->Q (.ref l) (upd H l (.lst ys))
structure NewAt(H H':Hp)(F:List Addr):Prop where
 s:Same H H'
 nd:F.Nodup
 fresh:∀a∈F,H a=none
theorem qcw{o:HO}(s:Same B H)(h:B a=none):Same B (upd H a o):=λb u e=>by
 rw[qal (λz=>by subst z;rw[h] at e;cases e)]
 exact s _ _ e
theorem qgj{i j:Nat}{σ:St}{Q:VK}(e:σ[i]?=some (some (.ref l)))(hj:j=σ.length)(P:PsAt K H l as ps)(few:ps.length<=1000)
  (k:∀l' as' H',NewAt H H' (l'::as')->PsAt K H' l' as' ps->Q (.ref l') H'):qk4 (qlv K (tVar i)) (qb1 j) fNil (tCB (rLst K) (qcm (tVar j) tNil)) 1 σ H Q:=by
 subst hj
 refine⟨.ref l,e,l,rfl,⟨_,.inl (.inl P.at')⟩,λp hp=>⟨λn m τ xs H'=>∃(bs:List Addr) (v:Option V),m=as.length-n/\n<=as.length/\τ=σ++[v]/\xs=bs.map .ref/\bs.length=n/\H' p=some (.lst xs)/\NewAt H H' (p::bs)/\∀(i:Nat) a q,bs[i]?=some a->ps[i]?=some q->PnAt K H' a q,⟨as.length,[],none,rfl,Nat.zero_le _,rfl,rfl,rfl,qag,⟨qae hp _,by simp,by simpa using hp⟩,λi a q z=>by cases z⟩,?_⟩⟩
 rintro n m τ xs H' ⟨bs,v,rfl,hn,rfl,rfl,hbl,hpp,N,hpn⟩
 have hl':H' l=some (.lst (as.map .ref)):=N.s _ _ P.at'
 by_cases hlt:n<as.length
 ·refine .inr ⟨⟨_,_,.inl (.inl hl'),by rw[List.getElem?_map,List.getElem?_eq_getElem hlt];rfl⟩,λx H'' y=>?_⟩
  obtain⟨rfl,y⟩:=y
  have ex:=y _ (.inl (.inl hl'))
  rw[List.getElem?_map,List.getElem?_eq_getElem hlt] at ex
  cases ex
  have hlp:n<ps.length:=by rw[←P.len];exact hlt
  obtain⟨ys,hy,ry⟩:=P.pn n as[n] ps[n] (List.getElem?_eq_getElem hlt) (List.getElem?_eq_getElem hlp)
  have es:(σ++[v]).set σ.length (some (.ref as[n]))=σ++[some (.ref as[n])]:=by simp
  unfold qb1
  rw[es]
  refine⟨.ref as[n],by simp,as[n],ys,rfl,.inl (.inl (.inl (N.s _ _ hy))),λl2 hl2=>⟨?_,?_,as.length-(n+1),by omega,bs++[l2],_,rfl,hlt,rfl,by rw[List.map_append];rfl,by rw[List.length_append,hbl];rfl,qag,⟨?_,?_,?_⟩,?_⟩⟩
  ·rw[qal (λz=>by rw[z,hl2] at hpp;cases hpp)]
   exact hpp
  ·have:1000<sizeLine:=by decide
   rw[List.length_map]
   omega
  ·exact qcw (qcw N.s (N.s.free hl2)) hp
  ·rw[←List.cons_append]
   refine List.nodup_append.mpr ⟨N.nd,by simp,λx hx y hy' z=>?_⟩
   rw[List.mem_singleton] at hy'
   subst hy' z
   rcases List.mem_cons.mp hx with rfl|hx
   ·rw[hl2] at hpp;cases hpp
   ·obtain⟨i,hi⟩:=List.mem_iff_getElem?.mp hx
    have hi':i<ps.length:=by
     have:=(List.getElem?_eq_some_iff.mp hi).1
     omega
    exact(hpn i _ _ hi (List.getElem?_eq_getElem hi')).got hl2
  ·intro x hx
   rw[←List.cons_append,List.mem_append,List.mem_singleton] at hx
   rcases hx with hx|rfl
   ·exact N.fresh x hx
   ·exact N.s.free hl2
  ·have fr:Fr [p] H'' (upd (upd H'' l2 (.lst ys)) p (.lst (bs.map .ref++[.ref l2]))):=Fr.trans (.of (qae hl2 _)) (Fr.upd (u:=.lst (bs.map .ref)) (by simp) (qae hl2 _ _ _ hpp) (λ_ z=>by cases z))
   intro i a q e1 e2
   by_cases hi:i<bs.length
   ·rw[List.getElem?_append_left hi] at e1
    refine(hpn i a q e1 e2).fr fr λm=>?_
    rw[List.mem_singleton] at m
    subst m
    exact(List.nodup_cons.mp N.nd).1 (List.mem_of_getElem? e1)
   ·have hi2:i=bs.length:=by
     have:=(List.getElem?_eq_some_iff.mp e1).1
     rw[List.length_append,List.length_singleton] at this
     omega
    subst hi2
    rw[List.getElem?_append_right (Nat.le_refl _),Nat.sub_self] at e1
    cases e1
    rw[hbl,List.getElem?_eq_getElem hlp] at e2
    cases e2
    refine⟨ys,?_,qg6 (λa xs z=>fr.tup _ _ (N.s _ _ z)) ry⟩
    rw[qal (λz=>by rw[z,hpp] at hl2;cases hl2),qag]
 ·have e':n=as.length:=by omega
  subst e'
  exact .inl ⟨⟨_,.inl (.inl hl'),by rw[List.length_map];exact Nat.le_refl _⟩,k p bs H' N ⟨hpp,by rw[hbl,P.len],hpn⟩⟩
def qjn(K:PySem.W.Frag):Sp:=λvs H Q _=>∃l as ps,vs=[.ref l]/\PsAt K H l as ps/\ps.length<=1000/\∀l' as' H',NewAt H H' (l'::as')->PsAt K H' l' as' ps->Q (.ref l') H'
def qhe(K:PySem.W.Frag):Sp:=λvs H Q _=>∃x C dx l as ps,vs=[.ref x,.ref l]/\clsOf K "Glass" C/\H x=some (.ins C dx [])/\PsAt K H l as ps/\ps.length<=1000/\∀l' as' H',NewAt H H' (l'::as')->PsAt K H' l' as' ps->Q .non (upd H' x (.ins C dx [("layers",.ref l')]))
def qmo(K:PySem.W.Frag):Sp:=λvs H Q _=>∃g ps F,vs=[.ref g]/\GlAt K H g ps F/\ps.length<=1000/\∀l' as' H',NewAt H H' (l'::as')->PsAt K H' l' as' ps->Q (.ref l') H'
def qn5(K:PySem.W.Frag):Sp:=λvs H Q _=>∃g ps F,vs=[.ref g]/\GlAt K H g ps F/\PanesOk ps/\∀c H',Same H H'->H c=none->PnAt K H' c (qa6 ps)->Q (.ref c) H'
def qyz(K:PySem.W.Frag):Sp:=λvs H Q _=>∃g ps F,vs=[.ref g]/\GlAt K H g ps F/\ps.length<=1000/\∀p H',H p=none->Fr F H H'->GlAt K H' g (ps++[[]]) (F++[p])->Q .non H'
def qn4(K:PySem.W.Frag):Sp:=λvs H Q E=>∃g ps F,vs=[.ref g]/\GlAt K H g ps F/\(ps=[]->∀C H',Same H H'->clsOf K "NoPane" C->E (.ref C) none H') /\
 ∀qs p,ps=qs++[p]->∀a F' H',Fr F H H'->(∀x∈a::F',x∈F)->a∉F'->GlAt K H' g qs F'->PnAt K H' a p->Q (.ref a) H'
def qmn(K:PySem.W.Frag):Sp:=λvs H Q _=>∃g ps F l as,vs=[.ref g,.ref l]/\GlAt K H g ps F/\PsAt K H l as ps/\PanesOk ps/\ps.length<=1000/\∀H',Same H H'->Q (.bl true) H'
def qjo(K:PySem.W.Frag):Sp:=λvs H Q _=>∃g ps F l as,vs=[.ref g,.ref l]/\GlAt K H g ps F/\PsAt K H l as ps/\(∀a∈l::as,a∉F)/\PanesOk ps/\ps.length<=1000/\∀F' H',Fr F H H'->(∀x∈F',x∈F)->GlAt K H' g ps.dropLast F'->Q (.bl true) H'
end
section
variable {K:PySem.W.Frag} {H H1 H2 H' B B':Hp} {F G:List Addr} {a b l g:Addr} {rs:List Row} {as:List Addr} {ps:List (List Row)}
theorem q0g{C dx p:Addr}{Q:Hp->Prop}(nd:(g::l::as).Nodup)(hc:clsOf K "Glass" C)(ex:H g=some (.ins C dx [("layers",.ref l)]))(pa:PsAt K H l as ps)(hp:H p=none)
  (k:∀p H',H p=none->Fr (g::l::as) H H'->GlAt K H' g (ps++[[]]) (g::l::as++[p])->Q H'):Q (upd (upd H p (.lst [])) l (.lst (as.map .ref++[.ref p]))):=by
 have fr:Fr [l] H (upd (upd H p (.lst [])) l (.lst (as.map .ref++[.ref p]))):=Fr.trans (.of (qae hp _)) (Fr.upd (u:=.lst (as.map .ref)) (by simp) (qae hp _ _ _ pa.at') (λ_ z=>by cases z))
 have so:∀x∈g::l::as,x≠p:=λx m z=>by
  subst z
  rcases List.mem_cons.mp m with rfl|m
  ·rw[ex] at hp;cases hp
  ·exact pa.got _ m hp
 have nd2:=List.nodup_cons.mp nd
 have nd3:=List.nodup_cons.mp nd2.2
 refine k p _ hp (fr.mono λx m=>by simp at m;simp[m]) ⟨C,dx,l,as++[p],rfl,?_,hc,fr.out ex (by simp;exact λz=>nd2.1 (z▸List.mem_cons_self ..)),⟨by rw[qag,List.map_append];rfl,by rw[List.length_append,List.length_append,pa.len];rfl,λi a q e1 e2=>?_⟩⟩
 ·refine List.nodup_append.mpr ⟨nd,by simp,λx hx y hy' z=>so x hx (z.trans (List.mem_singleton.mp hy'))⟩
 ·by_cases hi:i<as.length
  ·rw[List.getElem?_append_left hi] at e1
   rw[List.getElem?_append_left (by rw[←pa.len];exact hi)] at e2
   exact(pa.pn i a q e1 e2).fr fr (by simp;exact λz=>nd3.1 (z▸List.mem_of_getElem? e1))
  ·have hi2:i=as.length:=by
    have:=(List.getElem?_eq_some_iff.mp e1).1
    rw[List.length_append,List.length_singleton] at this
    omega
   subst hi2
   rw[List.getElem?_append_right (Nat.le_refl _),Nat.sub_self] at e1
   rw[pa.len,List.getElem?_append_right (Nat.le_refl _),Nat.sub_self] at e2
   cases e1
   cases e2
   refine⟨[],?_,by unfold Reps;rfl⟩
   rw[qal (λz=>so l (by simp) z.symm),qag]
end
section
variable {X:Cx} {EX:St->XK} {o e value:Expr} {ta tv:TE} {pos pos' apos:Pos} {m n:Str} {C f:Addr} {fd:FuncData} {k:Nat} {ps:List Str} {sp:Sp}
theorem qku(he:QE X o ta)(hb:attributeBase o n X.env (eval o X.env)=eval o X.env:=by rfl):QE X (.Attribute o n pos) (tFld X.K ta n):=⟨q01 he.u hb⟩
theorem q1u(ha:QE X o ta)(hv:QE X value tv)(hs:swapsWith value (some (.Attribute o n pos')) pos.line X.env=pure false:=by rfl):QS X (.Assign [.Attribute o n pos'] value pos) (sFld X.K ta tv n):=⟨q1d ha.u hv.u hs⟩
theorem qrs{pl:Sem Bool}(he:QE X o ta)(c:Cls X.K C)(hm:Meth X.K C m f)(F:FnOk X.prog X.w X.K X.mg X.base (CXR X.prog X.w) k f fd ps sp)(hr:Room k X.A)(hb:Binds X.K fd ps [])(oo:Out X EX)(hx:X.ex=[])
  (ht:eval (.Call (.Attribute o m apos) [] [] pos) X.env=(do
   let ov ←eval o X.env
   standAt apos.atName
   let (f,first) ←holding [ov] (getMethod ov m pl)
   callWith pos f first (backTo pos (starEach [] X.env)) (backToKw pos (keywordEach [] X.env))):=by rfl) :
  QE X (.Call (.Attribute o m apos) [] [] pos) (q2c C m sp EX ta tNil):=by
 refine⟨λpins s σ H Q I h=>?_⟩
 refine PySem.W.methodCall_KW (pl:=pl) (thn (he.u pins s σ H _ I h) λu s1 ⟨x,H1,I1,rx,a,dx,fs,ex,ea,l,q⟩=>?_) ht
 subst ex
 obtain rfl:u=Value.ref a:=rx
 refine qfm I1 ea c hm l ?_
 exact PySem.W.callWith_K0 (first:=[.ref a]) I1.kIn hm.kp (q3v (us:=[.ref a]) (vs:=[.ref a]) F hr hb oo hx I1 (.cons rfl .nil) q)
end
section
variable {K:PySem.W.Frag} {H H1 H2 H' B B':Hp} {F G:List Addr} {a b l g:Addr} {rs:List Row} {as:List Addr} {ps:List (List Row)}
theorem qxg{C dx:Addr}{qs:List (List Row)}{p:List Row}{Q:VK}(nd:(g::l::as).Nodup)(hc:clsOf K "Glass" C)(ex:H g=some (.ins C dx [("layers",.ref l)]))(pa:PsAt K H l as ps)(hq:ps=qs++[p])(s:Same H H1)
  (k:∀a F' H',Fr (g::l::as) H H'->(∀x∈a::F',x∈g::l::as)->a∉F'->GlAt K H' g qs F'->PnAt K H' a p->Q (.ref a) H') :
  ∃y,(as.map V.ref)[(as.map V.ref).length-1]?=some y/\Q y (upd H1 l (.lst (as.map .ref).dropLast)):=by
 have hl:=pa.len
 rw[hq,List.length_append,List.length_singleton] at hl
 have hne:as≠[]:=λz=>by rw[z] at hl;cases hl
 have e:=(List.dropLast_concat_getLast hne).symm
 generalize as.getLast hne=a at e
 generalize as.dropLast=bs at e
 subst e hq
 rw[List.length_append,List.length_singleton] at hl
 have hbl:bs.length=qs.length:=by omega
 rw[List.map_append,List.map_singleton,List.dropLast_concat]
 refine⟨.ref a,by simp,?_⟩
 have fr:Fr [l] H (upd H1 l (.lst (bs.map .ref))):=Fr.trans (.of s) (Fr.upd (u:=.lst ((bs++[a]).map .ref)) (by simp) (s _ _ pa.at') (λ_ z=>by cases z))
 have nd2:=List.nodup_cons.mp nd
 have nd3:=List.nodup_cons.mp nd2.2
 have nd4:=List.nodup_append.mp nd3.2
 have gl:g≠l:=λz=>nd2.1 (z▸List.mem_cons_self ..)
 refine k a (g::l::bs) _ (fr.mono λx m=>by simp at m;simp[m]) (λx m=>?_) ?_ ⟨C,dx,l,bs,rfl,?_,hc,fr.out ex (by simpa using gl),⟨qag,hbl,λi c q e1 e2=>?_⟩⟩ ?_
 ·simp at m ⊢
  rcases m with rfl|rfl|rfl|m
  ·exact .inr (.inr (.inr rfl))
  ·exact .inl rfl
  ·exact .inr (.inl rfl)
  ·exact .inr (.inr (.inl m))
 ·intro m
  rcases List.mem_cons.mp m with rfl|m
  ·exact nd2.1 (by simp)
  ·rcases List.mem_cons.mp m with rfl|m
   ·exact nd3.1 (by simp)
   ·exact nd4.2.2 a m a (by simp) rfl
 ·exact(List.Sublist.cons₂ _ (List.Sublist.cons₂ _ (List.sublist_append_left bs [a]))).nodup nd
 ·have hi:=(List.getElem?_eq_some_iff.mp e1).1
  exact(pa.pn i c q (by rw[List.getElem?_append_left hi];exact e1) (by rw[List.getElem?_append_left (by omega)];exact e2)).fr fr (by simp;exact λz=>nd3.1 (z▸List.mem_append_left _ (List.mem_of_getElem? e1)))
 ·exact(pa.pn bs.length a p (by simp) (by rw[hbl];simp)).fr fr (by simp;exact λz=>nd3.1 (by simp[z]))
end
theorem q1f{K:PySem.W.Frag}{H:Hp}{p:Addr}(h:H p=some (.lst [])):PsAt K H p [] []:=⟨h,rfl,λi a q e=>by cases e⟩
theorem qqp{b:Bool}{A B:Prop}(e:b=true)(h:A):if b=true then A else B:=by rw[if_pos e];exact h
theorem qlw{b:Bool}{A B:Prop}(e:b=false)(h:B):if b=true then A else B:=by rw[if_neg (by rw[e];decide)];exact h
theorem eqP0{ps:List (List Row)}(h:ps≠[]):eqD (qav ps) (qav [])=false:=by
 cases e:eqD (qav ps) (qav []) with
|false=>rfl
|true =>
  have:=D.lst.inj (qnc e)
  rw[List.map_nil,List.map_eq_nil_iff] at this
  exact absurd this h
section
variable {K:PySem.W.Frag} {H H1 H2 H' B B':Hp} {F G:List Addr} {a b l g:Addr} {rs:List Row} {as:List Addr} {ps:List (List Row)}
def SlV(K:PySem.W.Frag)(H:Hp):VSt->St->Prop
|[],[]=>True
|none::τ,_::σ=>SlV K H τ σ
|some (.val d)::τ,some v::σ=>Rep K H d v/\SlV K H τ σ
|_,_=>False
theorem SlV.slots:∀ {τ:VSt} {σ:St},SlV K H τ σ->σ.length=τ.length/\∀(i:Nat) (r:R),τ[i]?=some (some r)->∃d v,r=.val d/\σ[i]?=some (some v)/\Rep K H d v
|[],[],_=>⟨rfl,λi r e=>by cases e⟩
|none::τ,w::σ,h=>by
  unfold SlV at h
  obtain⟨h1,h2⟩:=SlV.slots h
  refine⟨by rw[List.length_cons,h1];rfl,λi r e=>?_⟩
  cases i with
 |zero=>cases e
 |succ i=>exact h2 i r e
|some (.val d)::τ,some v::σ,h=>by
  unfold SlV at h
  obtain⟨h0,h⟩:=h
  obtain⟨h1,h2⟩:=SlV.slots h
  refine⟨by rw[List.length_cons,h1];rfl,λi r e=>?_⟩
  cases i with
 |zero=>cases e;exact⟨d,v,rfl,rfl,h0⟩
 |succ i=>exact h2 i r e
|[],_::_,h=>by unfold SlV at h;exact h.elim
|none::_,[],h=>by unfold SlV at h;exact h.elim
|some (.val _)::_,[],h=>by unfold SlV at h;exact h.elim
|some (.val _)::_,none::_,h=>by unfold SlV at h;exact h.elim
|some (.own _)::_,_,h=>by unfold SlV at h;exact h.elim
|some (.peek _)::_,_,h=>by unfold SlV at h;exact h.elim
|some (.exc _)::_,_,h=>by unfold SlV at h;exact h.elim
theorem SlV.ok{τ:VSt}{σ:St}(h:SlV K H τ σ):Slots K (λ_=>none) H H τ σ:=by
 obtain⟨h1,h2⟩:=h.slots
 refine⟨h1,λi d e=>?_,λi d e=>?_,λi d e=>?_,λi j d f a e=>?_⟩
 ·obtain⟨d',v,e1,e2,e3⟩:=h2 i _ e
  cases e1
  exact⟨v,e2,e3⟩
 ·obtain⟨d',v,e1,e2,e3⟩:=h2 i _ e
  cases e1
 ·obtain⟨d',v,e1,e2,e3⟩:=h2 i _ e
  cases e1
 ·obtain⟨d',v,e1,e2,e3⟩:=h2 i _ e
  cases e1
def hT(K:PySem.W.Frag)(t:TVT):TT:=λσ H Q=>∃τ Qd,SlV K H τ σ/\t τ Qd/\∀b H',Qd b->Same H H'->Q b H'
def hE(K:PySem.W.Frag)(t:TV):TE:=λσ H Q=>∃τ Qd,SlV K H τ σ/\t τ Qd/\(∀n,¬ Qd (.exc n))/\∀r v B' H',Qd r->Same H H'->Same B' H'->RepR K B' H H' r v->Q v H'
def hA(K:PySem.W.Frag)(t:TVA):TA:=λσ H Q=>∃τ Qd,SlV K H τ σ/\t τ Qd/\(∀n,¬ Qd (.exc n))/\∀ds vs B' H',Qd (.ok ds)->Same H H'->Same B' H'->Reps K B' ds vs->Q vs H'
end
section
variable {X:Cx} {e:Expr} {es:List Expr} {t:TVT} {tE:TV} {tA:TVA}
theorem qh_t(v:VT X EX0 e t):QT X e (hT X.K t):=let ⟨_,a1,a2⟩:=v.u;⟨λpins s σ H Q I ⟨τ,Qd,S,h,k⟩=>a1.u pins s σ H Q I (a2 _ H H τ σ Q Qd (Same.refl _) S.ok h λb B' H' p q=>k b H' q p.h)⟩
theorem qh_e(v:VE X EX0 e tE):QE X e (hE X.K tE):=let ⟨_,a1,a2⟩:=v.u;⟨λpins s σ H Q I ⟨τ,Qd,S,h,x,k⟩=>a1.u pins s σ H Q I (a2 _ H H τ σ Q Qd (Same.refl _) S.ok h (λn _ _ _ _ _ q=>(x n q).elim) λr v B' H' p rr q=>k r v B' H' q p.h p.s rr)⟩
theorem qh_a(v:VA X EX0 es tA):QA X es (hA X.K tA):=let ⟨_,a1,a2⟩:=v.u;⟨λps pins s σ H Q I ⟨τ,Qd,S,h,x,k⟩=>a1.u ps pins s σ H Q I (a2 _ H H τ σ Q Qd (Same.refl _) S.ok h (λn _ _ _ _ _ q=>(x n q).elim) λds vs B' H' p rr q=>k ds vs B' H' q p.h p.s rr)⟩
end
section
variable {X:Cx} {x:Str} {m:Str} {p apos cpos:Pos} {sp:Sp} {n i:Nat} {ps:List Str} {EX:St->XK}
def tM0(K:PySem.W.Frag)(i:Nat)(m:Str)(sp:Sp):TE:=λσ H Q=>∃a C dx fs,σ[i]?=some (some (.ref a))/\clsOf K "Glass" C/\H a=some (.ins C dx fs)/\fs.lookup m=none/\sp [.ref a] H Q E0
def tMX(K:PySem.W.Frag)(i:Nat)(m:Str)(sp:Sp)(EX:St->XK):TE:=λσ H Q=>∃a C dx fs,σ[i]?=some (some (.ref a))/\clsOf K "Glass" C/\H a=some (.ins C dx fs)/\fs.lookup m=none/\sp [.ref a] H Q (EX σ)
theorem qt3{pl:Sem Bool}(C:CalM X.prog X.w X.K X.mg X.base n m ps sp)(hr:Room n X.A)(i:Nat)(hN:X.N[i]?=some x:=by rfl)(hv:Vis X.env.scope x:=by first|exact Or.inl rfl|exact Or.inr (Or.inl rfl)|exact Or.inr (Or.inr rfl))(hd:(x==("__debug__" : Str))=false:=by decide)(hcd:(x==("__classdict__" : Str))=false:=by decide)
  (ht:eval (.Call (.Attribute (.Name x p) m apos) [] [] cpos) X.env=(do
   let ov ←eval (.Name x p) X.env
   standAt apos.atName
   let (f,first) ←holding [ov] (getMethod ov m pl)
   callWith cpos f first (backTo cpos (starEach [] X.env)) (backToKw cpos (keywordEach [] X.env))):=by rfl):QE X (.Call (.Attribute (.Name x p) m apos) [] [] cpos) (tM0 X.K i m sp):=by
 cases C with
|@mk C0 f0 fd0 F hc cl hm hb =>
  refine⟨λpins s σ H Q I h=>qtt (qv i hN hv hd hcd).u cl hm F hr hb .nil qxv ht pins s σ H Q I ?_⟩
  obtain⟨a,C,dx,fs,e1,e2,e3,e4,e5⟩:=h
  cases hc.inj e2
  exact⟨.ref a,e1,a,dx,fs,rfl,e3,e4,e5⟩
theorem q3n{pl:Sem Bool}(C:CalMX X.prog X.w X.K X.mg X.base n m ps sp)(oo:Out X EX)(hr:Room n X.A)(i:Nat)(hx:X.ex=[]:=by rfl)(hN:X.N[i]?=some x:=by rfl)(hv:Vis X.env.scope x:=by first|exact Or.inl rfl|exact Or.inr (Or.inl rfl)|exact Or.inr (Or.inr rfl))(hd:(x==("__debug__" : Str))=false:=by decide)(hcd:(x==("__classdict__" : Str))=false:=by decide)
  (ht:eval (.Call (.Attribute (.Name x p) m apos) [] [] cpos) X.env=(do
   let ov ←eval (.Name x p) X.env
   standAt apos.atName
   let (f,first) ←holding [ov] (getMethod ov m pl)
   callWith cpos f first (backTo cpos (starEach [] X.env)) (backToKw cpos (keywordEach [] X.env))):=by rfl):QE X (.Call (.Attribute (.Name x p) m apos) [] [] cpos) (tMX X.K i m sp EX):=by
 cases C with
|@mk C0 f0 fd0 F hc cl hm hb =>
  refine⟨λpins s σ H Q I h=>(qrs (EX:=EX) (qv i hN hv hd hcd) cl hm F hr hb oo hx ht).u pins s σ H Q I ?_⟩
  obtain⟨a,C,dx,fs,e1,e2,e3,e4,e5⟩:=h
  cases hc.inj e2
  exact⟨.ref a,e1,a,dx,fs,rfl,e3,e4,e5⟩
end
section
variable {K:PySem.W.Frag} {H:Hp} {g:Addr} {F:List Addr} {ps:List (List Row)} {i:Nat} {m:Str} {sp:Sp} {σ:St} {Q:VK} {EX:St->XK}
theorem GlAt.m0(h:GlAt K H g ps F)(e:σ[i]?=some (some (.ref g)))(k:sp [.ref g] H Q E0)(hm:m≠"layers" := by decide):tM0 K i m sp σ H Q:=by
 obtain⟨C,dx,l,as,rfl,nd,hc,ex,pa⟩:=h
 exact⟨g,C,dx,_,e,hc,ex,by rw[List.lookup_cons,beq_false_of_ne hm];rfl,k⟩
theorem GlAt.mX(h:GlAt K H g ps F)(e:σ[i]?=some (some (.ref g)))(k:sp [.ref g] H Q (EX σ))(hm:m≠"layers" := by decide):tMX K i m sp EX σ H Q:=by
 obtain⟨C,dx,l,as,rfl,nd,hc,ex,pa⟩:=h
 exact⟨g,C,dx,_,e,hc,ex,by rw[List.lookup_cons,beq_false_of_ne hm];rfl,k⟩
end
section
variable {K:PySem.W.Frag} {H H1 H2 H' B B':Hp} {F G:List Addr} {a b l g:Addr} {rs:List Row} {as:List Addr} {ps:List (List Row)}
theorem PnAt.app{r:Row}{v:V}(h:PnAt K H a rs)(rv:Rep K H (rowD r) v):∃xs,H a=some (.lst xs)/\xs.length=rs.length/\Fr [a] H (upd H a (.lst (xs++[v])))/\PnAt K (upd H a (.lst (xs++[v]))) a (rs++[r]):=by
 obtain⟨xs,e,q⟩:=h
 have fr:Fr [a] H (upd H a (.lst (xs++[v]))):=Fr.upd (by simp) e (λ_ z=>by cases z)
 refine⟨xs,e,by rw[←q.length,List.length_map],fr,xs++[v],qag,?_⟩
 rw[List.map_append,List.map_singleton]
 exact(qg6 fr.tup q).append (.one (qvi r _ _ _ _ fr.tup rv))
theorem PsAt.app{i:Nat}{r:Row}{v:V}(h:PsAt K H l as ps)(nd:(l::as).Nodup)(e1:as[i]?=some a)(e2:ps[i]?=some rs)(rv:Rep K H (rowD r) v):∃xs,H a=some (.lst xs)/\xs.length=rs.length/\Fr [a] H (upd H a (.lst (xs++[v])))/\PsAt K (upd H a (.lst (xs++[v]))) l as (ps.set i (rs++[r])):=by
 obtain⟨xs,e,el,fr,q⟩:=(h.pn i a rs e1 e2).app rv
 have nd2:=List.nodup_cons.mp nd
 refine⟨xs,e,el,fr,fr.out h.at' (by simp;exact λz=>nd2.1 (z▸List.mem_of_getElem? e1)),by rw[List.length_set,h.len],λj b p f1 f2=>?_⟩
 by_cases hij:i=j
 ·subst hij
  rw[List.getElem?_set_self (List.getElem?_eq_some_iff.mp e2).1] at f2
  cases f2
  rw[e1] at f1
  cases f1
  exact q
 ·rw[List.getElem?_set_ne hij] at f2
  refine(h.pn j b p f1 f2).fr fr ?_
  rw[List.mem_singleton]
  intro z
  subst z
  obtain⟨i1,i2⟩:=List.getElem?_eq_some_iff.mp e1
  obtain⟨j1,j2⟩:=List.getElem?_eq_some_iff.mp f1
  exact hij ((List.getElem?_inj i1 nd2.2).mp (e1.trans f1.symm))
theorem qfo{i:Int}:Rep K H (.int i) (.int i):=by unfold Rep;rfl
def sR:Row:=([],"shut","")
def zR:Row:=(["z"],"file","")
theorem qhx{α β:Type}{f:α->β}{xs:List α}{i:Nat}{x:α}(h:xs[i]?=some x):atI (xs.map f) (i:Int)=some (f x):=by
 have hi:=(List.getElem?_eq_some_iff.mp h).1
 unfold atI ixN
 rw[if_pos (by omega),List.length_map,Int.toNat_natCast,if_pos (by omega)]
 show (xs.map f)[i]?=_
 rw[List.getElem?_map,h]
 rfl
theorem qgb{d:D}{vs:List V}(h:Reps K B [d] vs):∃v,vs=[v]/\Rep K B d v:=by
 unfold Reps at h
 obtain⟨x,r,rfl,h1,h2⟩:=h
 unfold Reps at h2
 subst h2
 exact⟨x,rfl,h1⟩
theorem PsAt.mem'(h:PsAt K H l as ps){i:Nat}(e:as[i]?=some a):H a=some (.lst ((H a).elim [] λo=>match o with|.lst xs=>xs|_=>[])):=by
 obtain⟨p,xs,e1,_⟩:=h.mem (List.mem_of_getElem? e)
 rw[e1]
 rfl
theorem q3l(N:NewAt H H' (l::as)):(l::as).Nodup:=N.nd
def qwt(K:PySem.W.Frag):TS :=
 tSeq (tAsg (tM0 K 0 "panes" (qmo K)) (qb1 2))
  (tSeq (tIfS (hT K (vOrT (qft (vBl (qju Ty5.list (vVar 2)))) (vBl (vOp vNeD (vF1 vLen (vVar 2)) (vF1 vLen (vVar 1)))))) (tRet (tC (V.bl false))) qhv)
  (tSeq (tAsg (tLst tNil) (qb1 3))
  (tSeq (tFor (qom (qcm (tCB (λxs H Q=>∃x n,xs=[x]/\LenV K x H n/\Q (.int n) H) (qcm (tVar 1) tNil)) tNil)) (qb1 4)
   (tSeq (tIfS (hT K (qft (vBl (qse g_same (qaa (vOp vIxR (vVar 2) (vVar 4)) (qaa (vOp vIxR (vVar 1) (vVar 4)) vNil)))))) (tRet (tC (V.bl false))) qhv)
   (tSeq (tAsg (hE K (qse qe0 (qaa (vOp vIxR (vVar 1) (vVar 4)) (qaa (vVar 3) vNil)))) (qb1 3))
    (qjq (tBM K "list" qep (tOp (rIxL K) (tVar 2) (tVar 4)) (hA K (qaa (vTup (qaa (vTup vNil) (qaa (vC (.str "shut")) (qaa (vC (.str "")) vNil)))) vNil)))))))
  (tSeq (qjq (tBM K "list" qep (tVar 2) (qcm (tLst tNil) tNil)))
  (tSeq (tAsg (tM0 K 0 "seen" (qn5 K)) (qb1 5))
  (tSeq (tIfS (hT K (qft (vBl (qse g_same (qaa (vVar 5) (qaa (vVar 3) vNil)))))) (tRet (tC (V.bl false))) qhv)
  (tSeq (qjq (tBM K "list" qep (tVar 5) (hA K (qaa (vTup (qaa (vTup (qaa (vC (.str "z")) vNil)) (qaa (vC (.str "file")) (qaa (vC (.str "")) vNil)))) vNil))))
   (tRet (qo9 (spOf K g_same) [] E0 (qcm (tM0 K 0 "seen" (qn5 K)) (qcm (tVar 3) tNil)))))))))))
theorem qs4{Q:VK}(hg:GlAt K H g ps G)(pa:PsAt K H l as ps)(P:PanesOk ps)(few:ps.length<=1000)(k:∀H',Same H H'->Q (.bl true) H') :
  qwt K { nx:=λ_ H'=>Q .non H',rt:=Q } [some (.ref g),some (.ref l),none,none,none,none] H:=by
 have big:1000<sizeLine:=by decide
 have sk:∀i,TreeOk (qa6 (ps.take i))/\NmOk (qa6 (ps.take i))/\(qa6 (ps.take i)).length<=qco (ps.take i):=λi=>by
  obtain⟨a1,a2,a3,_⟩:=qyw (ps:=ps.take i) λp hp=>⟨(P.ok p (List.mem_of_mem_take hp)).1,(P.ok p (List.mem_of_mem_take hp)).2.1⟩
  exact⟨a1,a2,a3⟩
 refine hg.m0 rfl ⟨g,ps,G,rfl,hg,few,λlt bs H1 N1 pt=>?_⟩
 refine⟨[none,some (.val (qav ps)),some (.val (qav ps)),none,none,none],λb=>b=false,⟨(pa.same N1.s).rep,pt.rep,trivial⟩,?_,?_⟩
 ·dsimp! only[qav]
 rintro b H2 rfl s2
 refine iteF ⟨Nat.zero_le _,λc hc=>?_⟩
 have s02:Same H H2:=N1.s.trans s2
 have s03:Same H (upd H2 c (.lst [])):=s02.trans (qae hc _)
 refine⟨.ref l,rfl,.ref l,as.length,rfl,.inl ⟨_,SqL.of (s03 _ _ pa.at'),(List.length_map ..).symm⟩,as.length,rfl,by omega,by rw[pa.len];omega,?_⟩
 rw[Int.toNat_natCast]
 refine qgn (lo:=0) (n:=as.length) (λi σ H'=>∃c v ts,σ=[some (.ref g),some (.ref l),some (.ref lt),some (.ref c),v,none]/\Same H H'/\PsAt K H' lt bs ts/\ts.length=ps.length/\(∀j,i<=j->ts[j]?=ps[j]?)/\PnAt K H' c (qa6 (ps.take i))/\c∉lt::bs) ?_ ?_ ?_
 ·refine⟨c,none,ps,rfl,s03,(pt.same s2).same (qae hc _),rfl,λ_ _=>rfl,⟨[],qag,?_⟩,λm=>?_⟩
  ·rw[List.take_zero]
   unfold qa6 Reps
   rfl
  ·exact(pt.same s2).got c m hc
 ·rintro i σ H3 hi ⟨c,v,ts,rfl,s3,pt3,tl,tp,pc,nc⟩
  have hip:i<ps.length:=by rw[←pa.len];exact hi
  have ep:ps[i]?=some ps[i]:=List.getElem?_eq_getElem hip
  generalize ps[i]=p at ep
  have et:ts[i]?=some p:=by rw[tp i (Nat.le_refl _)];exact ep
  obtain⟨q1,q2,q3⟩:=P.ok p (List.mem_of_getElem? ep)
  rw[Int.zero_add]
  refine⟨[none,some (.val (qav ps)),some (.val (qav ts)),none,some (.val (.int i)),none],λb=>b=false,⟨(pa.same s3).rep,pt3.rep,qfo,trivial⟩,?_,?_⟩
  ·dsimp! only[qav]
   exact⟨_,qhx et,_,qhx ep,p,rfl,by omega,rfl⟩
  rintro b H4 rfl s4
  refine iteF ?_
  refine⟨[none,some (.val (qav ps)),none,some (.val (qai (qa6 (ps.take i)))),some (.val (.int i)),none],λr=>r=.own (qai (qc5 p (qa6 (ps.take i)))),⟨((pa.same s3).same s4).rep,(pc.same s4).rep,qfo,trivial⟩,?_,(λ_ z=>by cases z),?_⟩
  ·have et:ps.take (i+1)=ps.take i++[p]:=by rw[List.take_succ,ep];rfl
   have eb:=qog et
   have fw:=qkd P (i+1)
   obtain⟨t1,t2,t3⟩:=sk i
   dsimp! only[qav]
   exact⟨_,qhx ep,p,_,rfl,q1,q2,q3,t1,t2,by omega,λ_ _ _=>rfl⟩
  rintro r w B5 H5 rfl s5 sb rr
  obtain⟨c',rfl,ec,pc'⟩:=qn0 sb rr
  have hib:i<bs.length:=by rw[pt3.len,tl];exact hip
  have eb:bs[i]?=some bs[i]:=List.getElem?_eq_getElem hib
  generalize bs[i]=b at eb
  have pt5:=(pt3.same s4).same s5
  refine⟨.ref lt,rfl,.int i,rfl,lt,bs.map .ref,i,.ref b,rfl,rfl,SqL.of pt5.at',qhx eb,.inl ⟨rfl,_,SqL.of (pt5.mem' eb)⟩,List.replicate 6 none,λa=>a=.ok [rowD sR],trivial,?_,(λ_ z=>by cases z),?_⟩
  ·dsimp! only[qav]
   exact⟨by decide,rfl⟩
  rintro ds vs B6 H6 e6 s6 sb6 rp
  cases e6
  obtain⟨y,rfl,ry⟩:=qgb rp
  have pt6:=pt5.same s6
  obtain⟨xs,e1,e2,fr,pt7⟩:=pt6.app (q3l N1) eb et (ry.same sb6)
  have nb:H b=none:=N1.fresh b (List.mem_cons_of_mem _ (List.mem_of_getElem? eb))
  have s06:Same H H6:=((s3.trans s4).trans s5).trans s6
  have nc':c'∉lt::bs:=λm=>(pt3.same s4).got c' m ec
  refine⟨b,xs,y,rfl,rfl,e1,by omega,c',_,_,rfl,qcw s06 nb,pt7,by rw[List.length_set,tl],λj hj=>?_,?_,nc'⟩
  ·rw[List.getElem?_set_ne (by omega)]
   exact tp j (by omega)
  ·have ee:qa6 (ps.take (i+1))=qc5 p (qa6 (ps.take i)):=by rw[List.take_succ,ep,←qec];rfl
   rw[ee]
   exact(pc'.same s6).fr fr (by simp;exact λz=>nc' (z▸List.mem_cons_of_mem _ (List.mem_of_getElem? eb)))
 ·rintro σ H3 ⟨c,v,ts,rfl,s3,pt3,tl,tp,pc,nc⟩
  rw[pa.len,List.take_length] at pc
  have l1:(qa6 ps).length<=1000:=by
   have:=(sk ps.length).2.2
   rw[List.take_length] at this
   have:=P.few
   omega
  refine⟨.ref lt,rfl,.inl ⟨rfl,_,SqL.of pt3.at'⟩,Nat.zero_le _,λq hq=>⟨lt,_,.ref q,rfl,rfl,qae hq _ _ _ pt3.at',by rw[List.length_map,pt3.len];omega,?_⟩⟩
  have nl:H lt=none:=N1.fresh lt (List.mem_cons_self ..)
  have s4:Same H (upd (upd H3 q (.lst [])) lt (.lst (bs.map .ref++[.ref q]))):=qcw (s3.trans (qae hq _)) nl
  have pc4:PnAt K (upd (upd H3 q (.lst [])) lt (.lst (bs.map .ref++[.ref q]))) c (qa6 ps):=(pc.same (qae hq _)).fr (F:=[lt]) (Fr.upd (by simp) (qae hq _ _ _ pt3.at') (λ_ z=>by cases z)) (by simp;exact λz=>nc (z▸List.mem_cons_self ..))
  generalize upd (upd H3 q (.lst [])) lt (.lst (bs.map .ref++[.ref q]))=H4 at s4 pc4
  refine(hg.same s4).m0 rfl ⟨g,ps,G,rfl,hg.same s4,P,λw H5 s5 hw pw=>?_⟩
  refine⟨[none,none,none,some (.val (qai (qa6 ps))),none,some (.val (qai (qa6 ps)))],λb=>b=false,⟨(pc4.same s5).rep,pw.rep,trivial⟩,?_,?_⟩
  ·rfl'
   exact⟨_,rfl,l1,rfl⟩
  rintro b H6 rfl s6
  refine iteF ?_
  have pw6:=pw.same s6
  obtain⟨zs,ez,_⟩:=id pw6
  refine⟨.ref w,rfl,.inl ⟨rfl,_,SqL.of ez⟩,List.replicate 6 none,λa=>a=.ok [rowD zR],trivial,?_,(λ_ z=>by cases z),?_⟩
  ·rfl'
   exact⟨by decide,by decide,rfl⟩
  rintro ds vs B7 H7 e7 s7 sb7 rp
  cases e7
  obtain⟨y,rfl,ry⟩:=qgb rp
  obtain⟨xs,e1,e2,fr,_⟩:=(pw6.same s7).app (ry.same sb7)
  have s07:Same H H7:=((s4.trans s5).trans s6).trans s7
  have nw:H w=none:=s4.free hw
  have nwc:c≠w:=λz=>by subst z;exact pc4.got hw
  have s8:Same H (upd H7 w (.lst (xs++[y]))):=qcw s07 nw
  refine⟨w,xs,y,rfl,rfl,e1,by omega,?_⟩
  refine(hg.same s8).m0 rfl ⟨g,ps,G,rfl,hg.same s8,P,λw2 H9 s9 hw2 pw2=>⟨.ref c,rfl,qur pw2 ((((((pc4.same s5).same s6).same s7)).fr fr (by simpa using nwc)).same s9) l1 λH' s'=>k H' ((s8.trans s9).trans s')⟩⟩
end
section
variable {X:Cx} {hs:List ExceptHandler} {td:THD}
def hH(K:PySem.W.Frag)(td:THD)(n:Str):TH:=λC Dh σ H=>∃τ Ca,C=.ref Ca/\clsOf K n Ca/\SlV K H τ σ/\td n { nx:=λ_=>False,rt:=λr=>r=.val (.bl true) } τ/\∀H',Same H H'->Dh.rt (.bl true) H'
theorem qh_h(n:Str)(v:VH X EX0 hs td):QH X hs (hH X.K td n):=by
 obtain⟨th,a1,a2⟩:=v.u
 refine⟨λpins s σ H D a C U I fl fa fu ⟨τ,Ca,e,hc,S,h,k⟩=>a1.u pins s σ H D a C U I fl fa fu ?_⟩
 cases e
 refine a2 H (λ_=>none) H H τ σ n C _ D ⟨Same.refl _,Same.emp _,Same.refl _,λa _=>.inr (.inl rfl)⟩ S.ok hc h ⟨λ_ _ _ _ _ _ h=>h.elim,λr v B' H' p rr e=>?_,λ_ _ _ _ _ _ h=>h.elim,λ_ _ _ _ _ _ h=>h.elim,λ_ _ _ _ _ _ _ _ _ h=>h.elim,λ_ _ _ _ _ _ _ _ _ _ h=>h.elim,λ_ _ _ _ _ _ _ h=>h.elim⟩
 subst e
 have rr':Rep X.K B' (.bl true) v:=rr
 unfold Rep at rr'
 subst rr'
 exact k H' (p.b.trans p.s)
end
section
variable {K:PySem.W.Frag} {H H1 H2 H' B B':Hp} {F G:List Addr} {a b l g:Addr} {rs:List Row} {as:List Addr} {ps:List (List Row)}
def qm0(K:PySem.W.Frag):TS :=
 tSeq (tTry (λEX=>tAsg (tMX K 0 "lift" (qn4 K) EX) (qb1 2))
   (hH K (vhAs 3 ["NoPane"] [] (vSeq (vSet 4 (qmr (vIsX ["NoPane"] [] (vVar 3)) (vIsX ["NoPane"] [] (vVar 3)))) (vRet (qmr (vVar 4) (qmr (qut (vIsX [] ["NoPane"] (vVar 3))) (vOp vEq (vVar 1) (vLst vNil)))))) q2q) "NoPane"))
  (tSeq (tIfS (hT K (vOrT (vBl (vOp vEq (vVar 1) (vLst vNil))) (qft (vBl (qar g_same (qaa (vVar 2) (qaa (vOp vIxR (vVar 1) (vNeg (vC (D.int 1)))) vNil))))))) (tRet (tC (V.bl false))) qhv)
  (tSeq (qjq (tBM K "list" qep (tVar 2) (hA K (qaa (vTup (qaa (vTup vNil) (qaa (vC (.str "shut")) (qaa (vC (.str "")) vNil)))) vNil))))
   (tRet (tC (.bl true)))))
theorem qqn{Q:VK}(hg:GlAt K H g ps G)(pa:PsAt K H l as ps)(dj:∀a∈l::as,a∉G)(P:PanesOk ps)(few:ps.length<=1000)(k:∀F' H',Fr G H H'->(∀x∈F',x∈G)->GlAt K H' g ps.dropLast F'->Q (.bl true) H') :
  qm0 K { nx:=λ_ H'=>Q .non H',rt:=Q } [some (.ref g),some (.ref l),none,none,none] H:=by
 have big:1000<sizeLine:=by decide
 unfold qm0
 unfold tSeq tTry tAsg
 refine hg.mX rfl ⟨g,ps,G,rfl,hg,λe C H1 s1 hc=>?_,λqs p e a F' H1 fr sub na hg' pn=>?_⟩
 ·subst e
  refine⟨[none,some (.val (qav [])),none,none,none],C,rfl,hc,⟨(pa.same s1).rep,trivial⟩,?_,λH' s'=>k G H' (.of (s1.trans s')) (λ_ m=>m) (hg.same (s1.trans s'))⟩
  refine .inl ⟨List.mem_singleton.mpr rfl,?_⟩
  refine v_cut (λτ=>τ=[none,some (.val (qav [])),none,some (.val (.exc "NoPane")),some (.val (.bl true))]) ?_ λnx hnx=>?now
  case now =>
   dsimp! only[vIsX]
   exact .inl ⟨List.mem_singleton.mpr rfl,.inl ⟨List.mem_singleton.mpr rfl,hnx _ rfl⟩⟩
  rintro τ rfl
  dsimp! only[vIsX]
  have ee:eqD (qav []) (.lst [])=true:=qch _
  rw[ee]
  exact .inr ⟨List.mem_singleton.mpr rfl,qwv [] [],qwz [],rfl⟩
 ·have ep:ps[ps.length-1]?=some p:=by rw[e];simp
  have pa1:=pa.fr fr dj
  refine⟨[none,some (.val (qav ps)),some (.val (qai p)),none,none],λb=>b=false,⟨pa1.rep,pn.rep,trivial⟩,?_,?_⟩
  ·dsimp! only[qav]
   refine⟨qwv ps [],qwz ps,qlw (eqP0 (by rw[e];simp)) ⟨qai p,?_,p,rfl,by have:=(P.ok p (List.mem_of_getElem? ep)).2.2;omega,rfl⟩⟩
   rw[List.getLast?_eq_getElem?,List.length_map,List.getElem?_map,ep]
   rfl
  rintro b H2 rfl s2
  refine iteF ?_
  have pn2:=pn.same s2
  obtain⟨zs,ez,_⟩:=id pn2
  refine⟨.ref a,rfl,.inl ⟨rfl,_,SqL.of ez⟩,List.replicate 5 none,λa=>a=.ok [rowD sR],trivial,?_,(λ_ z=>by cases z),?_⟩
  ·rfl'
   exact⟨by decide,rfl⟩
  rintro ds vs B3 H3 e3 s3 sb3 rp
  cases e3
  obtain⟨y,rfl,ry⟩:=qgb rp
  obtain⟨xs,e1,e2,fr3,_⟩:=(pn2.same s3).app (ry.same sb3)
  have hp:=(P.ok p (List.mem_of_getElem? ep)).2.2
  refine⟨a,xs,y,rfl,rfl,e1,by omega,?_⟩
  refine k F' _ ((fr.trans (.of (s2.trans s3))).trans (fr3.mono λx m=>by rw[List.mem_singleton.mp m];exact sub a (List.mem_cons_self ..))) (λx m=>sub x (List.mem_cons_of_mem _ m)) ?_
  rw[e,List.dropLast_concat]
  exact((hg'.same s2).same s3).fr fr3 λx m z=>na (by rw[←List.mem_singleton.mp z];exact m)
end
section
variable {K:PySem.W.Frag} {H H1 H2 H' B B':Hp} {F G:List Addr} {a b l g:Addr} {rs:List Row} {as:List Addr} {ps:List (List Row)}
theorem qq8{C0 x dx:Addr}{Q:VK}(hc:clsOf K "Glass" C0)(P:PsAt K H l as ps)(few:ps.length<=1000)(k:∀g F H',Same H H'->(∀a∈F,H a=none)->GlAt K H' g ps F->Q (.ref g) H')(hx:H x=none)(hdx:H dx=none)(ne:dx≠x) :
  qhe K (.ref x::([.ref l]++[])) (upd (upd H dx (.own x)) x (.ins C0 dx [])) (λv H2=>v=.non/\Q (.ref x) H2) E0:=by
 have s1:Same H (upd (upd H dx (.own x)) x (.ins C0 dx [])):=qcw (qae hdx _) hx
 refine⟨x,C0,dx,l,as,ps,rfl,hc,qag,P.same s1,few,λl' as' H' N P'=>⟨rfl,?_⟩⟩
 have ex:H' x=some (.ins C0 dx []):=N.s _ _ qag
 have nx:x∉l'::as':=λm=>by
  have:=N.fresh x m
  rw[qag] at this
  cases this
 refine k x (x::l'::as') _ (qcw (s1.trans N.s) hx) (λa m=>?_) ⟨C0,dx,l',as',rfl,List.nodup_cons.mpr ⟨nx,N.nd⟩,hc,qag,P'.fr (F:=[x]) (Fr.upd (by simp) ex (λ_ z=>by cases z)) λa m z=>nx (by rw[←List.mem_singleton.mp z];exact m)⟩
 rcases List.mem_cons.mp m with rfl|m
 ·exact hx
 ·exact s1.free (N.fresh a m)
end
theorem q1o{X:Cx}{C f:Addr}{fd:FuncData}{k:Nat}{x:Str}{ps:List Str}{sp:Sp}{e:Expr}{es:List Expr}{t:TA}{p pos:Pos}(M:Mk X.K C f)(F:FnOk X.prog X.w X.K X.mg X.base CX0 k f fd ps sp)(hr:Room (k+1) X.A)(hg:Gl X x)(hm:X.mg x=some (.ref C))(hb:Binds X.K fd ps [])
  (ha:QA X (e::es) t) (hdb:(x==("__debug__" : Str))=false:=by decide) (he:starEach (e::es) X.env=(false,eval e X.env)::starEach es X.env:=by rfl) (hpl:(backTo pos (starEach es X.env)).any (·.1)=false:=by rfl) :
  QE X (.Call (.Name x p) (e::es) [] pos) (qsb C sp [] E0 t):=⟨qx2 M F hr hg hm hb .nil qxv ha.u hdb he hpl⟩
def quu:TVS:=λDv τ=>∃(ns:List Int) (st:Int) (n:Nat) (ps:List (List Row)) (a b:Option R),PanesOk ps/\ps.length=n/\n<=12/\τ=[some (.val (.scr ns)),some (.val (.int st)),some (.val (.int n)),some (.own (qav ps)),a,b,none,none,none,none,none,none]/\Dv.rt (.val (.bl true))
theorem quz{X:Cx}{EX:St->XK}{ss:List Stmt}(h:∃ts,QSs X ss ts/\RfS X.K EX ts quu):VSs X EX ss quu:=⟨h⟩
section
variable {K:PySem.W.Frag} {H H1 H2 H' B B' U U':Hp} {F G F1 F2:List Addr} {a b l g o:Addr} {rs:List Row} {as:List Addr} {ps qs:List (List Row)} {D:Ends}
structure Two(K:PySem.W.Frag)(U H:Hp)(g o:Addr)(ps qs:List (List Row))(F1 F2:List Addr):Prop where
 s:Same U H
 a:GlAt K H g ps F1
 b:GlAt K H o qs F2
 ua:∀x∈F1,U x=none
 ub:∀x∈F2,U x=none
 ne:∀x∈F1,x∉F2
theorem Two.same(h:Two K U H g o ps qs F1 F2)(s:Same H H'):Two K U H' g o ps qs F1 F2:=⟨h.s.trans s,h.a.same s,h.b.same s,h.ua,h.ub,h.ne⟩
theorem Two.fr(h:Two K U H g o ps qs F1 F2)(p:Fr G H H')(n:∀x∈G,U x=none/\x∉F1/\x∉F2):Two K U H' g o ps qs F1 F2:=⟨p.same (λx m=>(n x m).1) h.s,h.a.fr p λx m z=>(n x z).2.1 m,h.b.fr p λx m z=>(n x z).2.2 m,h.ua,h.ub,h.ne⟩
theorem Two.more{u:HO}(h:Two K U H g o ps qs F1 F2)(e:H a=some u)(n1:a∉F1)(n2:a∉F2)(hu:U a=none):Two K (upd U a u) H g o ps qs F1 F2/\Same U (upd U a u):=by
 have up:∀x,x≠a->U x=none->upd U a u x=none:=λx n z=>by rw[qal n];exact z
 refine⟨⟨λx w e2=>?_,h.a,h.b,λx m=>up x (λz=>n1 (z▸m)) (h.ua x m),λx m=>up x (λz=>n2 (z▸m)) (h.ub x m),h.ne⟩,qae hu _⟩
 by_cases z:x=a
 ·subst z
  rw[qag] at e2
  cases e2
  exact e
 ·rw[qal z] at e2
  exact h.s _ _ e2
theorem Two.fst{ps':List (List Row)}{F':List Addr}(h:Two K U H g o ps qs F1 F2)(p:Fr F1 H H')(g':GlAt K H' g ps' F')(sub:∀x∈F',x∈F1\/H x=none):Two K U H' g o ps' qs F' F2 :=
 ⟨p.same h.ua h.s,g',h.b.fr p λx m z=>h.ne x z m,λx m=>(sub x m).elim (h.ua x) h.s.free,h.ub,λx m z=>(sub x m).elim (λq=>h.ne x q z) λq=>h.b.got x z q⟩
theorem Two.snd{qs':List (List Row)}{F':List Addr}(h:Two K U H g o ps qs F1 F2)(p:Fr F2 H H')(g':GlAt K H' o qs' F')(sub:∀x∈F',x∈F2\/H x=none):Two K U H' g o ps qs' F1 F' :=
 ⟨p.same h.ub h.s,h.a.fr p λx m z=>h.ne x m z,g',h.ua,λx m=>(sub x m).elim (h.ub x) h.s.free,λx m z=>(sub x z).elim (λq=>h.ne x m q) λq=>h.a.got x m q⟩
theorem PsAt.cut{m:Nat}{q:Addr}(h:PsAt K U l as ps)(s:Same U U')(e:U' q=some (.lst ((as.take m).map .ref))):PsAt K U' q (as.take m) (ps.take m) :=
 ⟨e,by rw[List.length_take,List.length_take,h.len],λi a p e1 e2=>by
  rw[List.getElem?_take] at e1 e2
  split at e1
  ·rename_i hi
   rw[if_pos hi] at e2
   exact(h.pn i a p e1 e2).same s
  ·cases e1⟩
theorem PanesOk.take(P:PanesOk ps)(m:Nat):PanesOk (ps.take m):=⟨λp hp=>P.ok p (List.mem_of_mem_take hp),qkd P m⟩
theorem PanesOk.more(P:PanesOk ps):PanesOk (ps++[[]]):=⟨λp hp=>by
 rcases List.mem_append.mp hp with hp|hp
 ·exact P.ok p hp
 ·rw[List.mem_singleton.mp hp]
  exact⟨⟨List.Pairwise.nil,λr hr=>(by cases hr),λr hr=>(by cases hr),λr hr=>by cases hr⟩,(λr hr=>by cases hr),Nat.zero_le _⟩,by
 rw[qfh]
 exact P.few⟩
theorem q0n:∀(σ:St),SlV K H (List.replicate σ.length none) σ
|[]=>trivial
|_::σ=>q0n σ
def qk5(K:PySem.W.Frag)(i j:Nat):TE:=qo9 (qmn K) [] E0 (qcm (tVar i) (qcm (tVar j) tNil))
def qsa(K:PySem.W.Frag)(i j:Nat):TS:=tSeq (tIfS (tNot (tB (qo9 (qjo K) [] E0 (qcm (tVar i) (qcm (tVar j) tNil))))) (tRet (tC (.bl false))) qhv) (tAsg (tSl (rSlL K) (tVar j) qjr (qup (hE K (vNeg (vC (.int 1)))))) (qb1 j))
def qzm(K:PySem.W.Frag):TS :=
 tSeq (tFor (qom (qcm (hE K (vOp vAdd (vOp vAdd (vVar 2) (vVar 11)) (vC (.int 3)))) tNil)) (qb1 4) (tIfS (hT K (vBl (vOp vGt (qar qay (qaa (vOp vAdd (qar qao (qaa (vVar 0) (qaa (vC (.int 4)) vNil))) (vVar 4)) (qaa (vC (.int 1)) (qaa (vC (.int 3)) vNil)))) (vC (.int 0)))))
   (qsa K 8 3) (qsa K 9 6)))
  (tRet (qy4 (qk5 K 8 3) (qk5 K 9 6)))
theorem Two.held{σ:St}{Q:VK}{i j:Nat}(h:GlAt K H g ps F)(pa:PsAt K H l as ps)(P:PanesOk ps)(few:ps.length<=1000)(e1:σ[i]?=some (some (.ref g)))(e2:σ[j]?=some (some (.ref l)))(k:∀H',Same H H'->Q (.bl true) H'):qk5 K i j σ H Q :=
 ⟨.ref g,e1,.ref l,e2,g,ps,F,l,as,rfl,h,pa,P,few,k⟩
theorem qnq{σ:St}{i j:Nat}(h:GlAt K H g ps F)(pa:PsAt K H l as ps)(dj:∀a∈l::as,a∉F)(P:PanesOk ps)(few:ps.length<=1000)(e1:σ[i]?=some (some (.ref g)))(e2:σ[j]?=some (some (.ref l)))
  (k:∀F' q Hm,Fr F H Hm->(∀x∈F',x∈F)->GlAt K Hm g (ps.take (as.length-1)) F'->Hm q=none->D.nx (σ.set j (some (.ref q))) (upd Hm q (.lst ((as.take (as.length-1)).map .ref)))):qsa K i j D σ H:=by
 refine⟨.ref g,e1,.ref l,e2,g,ps,F,l,as,rfl,h,pa,dj,P,few,λF' H1 fr sub g'=>⟨true,rfl,iteF ?_⟩⟩
 refine⟨.ref l,e2,List.replicate σ.length none,λr=>r=.val (.int (-1)),q0n _,?_,(λ_ z=>by cases z),?_⟩
 ·rfl'
 rintro r v B2 H2 rfl s2 _ rr
 have rr':Rep K B2 (.int (-1)) v:=rr
 unfold Rep at rr'
 subst rr'
 refine⟨-1,rfl,l,as.map .ref,rfl,SqL.of (s2 _ _ (fr.out pa.at' (dj l (List.mem_cons_self ..)))),λq hq=>?_⟩
 rw[qim,qey,List.dropLast_eq_take]
 rw[List.dropLast_eq_take,←pa.len] at g'
 exact k F' q H2 (fr.trans (.of s2)) sub (g'.same s2) hq
theorem qz4{ns:List Int}{v0:V}{s1 s4 s5 s7 s10:Option V}{n y:Nat}{lp lf:Addr}{ap af:List Addr}(T:Two K U H g o ps qs F1 F2)(hv:Rep K U (.scr ns) v0)(hn:n<=12)(hy:y<=3)(pp:PsAt K U lp ap ps)(pf:PsAt K U lf af qs)(P:PanesOk ps)(Pq:PanesOk qs)(fp:ps.length<=1000)(fq:qs.length<=1000)(k:∀H',Same U H'->D.rt (.bl true) H') :
  qzm K D [some v0,s1,some (.int n),some (.ref lp),s4,s5,some (.ref lf),s7,some (.ref g),some (.ref o),s10,some (.int y)] H:=by
 refine⟨[none,none,some (.val (.int n)),none,none,none,none,none,none,none,none,some (.val (.int y))],λr=>r=.val (.int (n+y+3)),⟨qfo,qfo,trivial⟩,?_,(λ_ z=>by cases z),?_⟩
 ·rfl'
 rintro r v B1 H1 rfl s1' _ rr
 have rr':Rep K B1 (.int (n+y+3)) v:=rr
 unfold Rep at rr'
 subst rr'
 refine⟨(n:Int)+y+3,rfl,by omega,by omega,?_⟩
 have T1:=T.same s1'
 clear rr
 refine qgn (lo:=0) (λi σ H'=>∃v4 lp lf ap af U' ps qs F1 F2,σ=[some v0,s1,some (.int n),some (.ref lp),v4,s5,some (.ref lf),s7,some (.ref g),some (.ref o),s10,some (.int y)]/\Same U U'/\Two K U' H' g o ps qs F1 F2/\PsAt K U' lp ap ps/\PsAt K U' lf af qs/\PanesOk ps/\PanesOk qs/\ps.length<=1000/\qs.length<=1000) ?_ ?_ ?_
 ·exact⟨s4,lp,lf,ap,af,U,ps,qs,F1,F2,rfl,Same.refl _,T1,pp,pf,P,Pq,fp,fq⟩
 ·rintro i σ H2 hi ⟨v4,lp,lf,ap,af,U',ps,qs,F1,F2,rfl,su,T,pp,pf,P,Pq,fp,fq⟩
  have mx:∀Y:R->Prop,(∀j:Int,Y (.val (.int j)))->qay [.int (qby ns 4+i),.int 1,.int 3] Y:=λY y=>⟨_,1,3,rfl,by decide,by decide,λj _ _ _=>y j⟩
  rw[Int.zero_add]
  refine⟨[some (.val (.scr ns)),none,none,none,some (.val (.int i)),none,none,none,none,none,none,none],λ_=>True,⟨hv.same (su.trans T.s),qfo,trivial⟩,?_,?_⟩
  ·dsimp! only[qao]
   refine mx _ λj=>?_
   rfl'
  rintro b H3-s3
  have T3:=T.same s3
  have n1:∀a,U' a≠none->a∉F1:=λa z m=>z (T.ua a m)
  have n2:∀a,U' a≠none->a∉F2:=λa z m=>z (T.ub a m)
  cases b with
 |true =>
   refine iteT (qnq T3.a (pp.same T3.s) (λa m=>n1 a (pp.got a m)) P fp rfl rfl λF' q Hm fr sub g' hq=>?_)
   have Tm:=T3.fst fr g' λx m=>.inl (sub x m)
   have uq:U' q=none:=Tm.s.free hq
   obtain⟨Tn,sn⟩:=(Tm.same (qae hq _)).more (a:=q) qag (λm=>Tm.a.got q m hq) (λm=>Tm.b.got q m hq) uq
   exact⟨_,q,lf,_,af,_,_,qs,F',F2,rfl,su.trans sn,Tn,pp.cut sn qag,pf.same sn,P.take _,Pq,by rw[List.length_take];omega,fq⟩
 |false =>
   refine iteF (qnq T3.b (pf.same T3.s) (λa m=>n2 a (pf.got a m)) Pq fq rfl rfl λF' q Hm fr sub g' hq=>?_)
   have Tm:=T3.snd fr g' λx m=>.inl (sub x m)
   have uq:U' q=none:=Tm.s.free hq
   obtain⟨Tn,sn⟩:=(Tm.same (qae hq _)).more (a:=q) qag (λm=>Tm.a.got q m hq) (λm=>Tm.b.got q m hq) uq
   exact⟨_,lp,q,ap,_,_,ps,_,F1,F',rfl,su.trans sn,Tn,pp.same sn,pf.cut sn qag,P,Pq.take _,fp,by rw[List.length_take];omega⟩
 ·rintro σ H2 ⟨v4,lp,lf,ap,af,U',ps,qs,F1,F2,rfl,su,T,pp,pf,P,Pq,fp,fq⟩
  exact Two.held T.a (pp.same T.s) P fp rfl rfl λH3 s3=>⟨true,rfl,iteT (Two.held (T.same s3).b ((pf.same T.s).same s3) Pq fq rfl rfl λH4 s4'=>k H4 (su.trans ((T.s.trans s3).trans s4')))⟩
end
section
variable {K:PySem.W.Frag} {H H1 H2 H' B B' U U':Hp} {F G F1 F2:List Addr} {a b l g o:Addr} {rs:List Row} {as:List Addr} {ps qs:List (List Row)} {D:Ends}
def qzo(K:PySem.W.Frag):TS :=
 tSeq (tAsg (hE K (vOp vMod (qar qao (qaa (vVar 0) (qaa (vC (.int 4)) vNil))) (vC (.int 4)))) (qb1 11))
 (tSeq (tFor (qom (qcm (tVar 11) tNil)) (qb1 4) (tSeq (tIfS (quq (tOp (λx y H Q=>y=.non/\Q (.bl (!decide (x=.non))) H) (tM0 K 8 "lay" (qyz K)) (tC .non))) (tRet (tC (.bl false))) qhv) (qjq (tBM K "list" qep (tVar 3) (qcm (tLst tNil) tNil)))))
 (tSeq (tIfS (tOr (tNot (tB (qk5 K 8 3))) (tNot (tB (qk5 K 9 6)))) (tRet (tC (.bl false))) qhv)
 (qzm K)))
theorem qz5{ns:List Int}{v0:V}{s1 s4 s5 s7 s10 s11:Option V}{n:Nat}{lf:Addr}{af:List Addr}(T:Two K U H g o ps qs F1 F2)(hv:Rep K U (.scr ns) v0)(hn:n<=12)(hl:H l=some (.lst (as.map .ref)))(ul:U l=none)(l1:l∉F1)(l2:l∉F2)(el:as.length=ps.length)(pn:∀(i:Nat) a p,as[i]?=some a->ps[i]?=some p->PnAt K U a p)
  (pf:PsAt K U lf af qs) (P:PanesOk ps) (Pq:PanesOk qs) (fp:ps.length<=12) (fq:qs.length<=12) (k:∀H',Same U H'->D.rt (.bl true) H') :
  qzo K D [some v0,s1,some (.int n),some (.ref l),s4,s5,some (.ref lf),s7,some (.ref g),some (.ref o),s10,s11] H:=by
 have big:1000<sizeLine:=by decide
 refine⟨[some (.val (.scr ns)),none,none,none,none,none,none,none,none,none,none,none],λr=>∃y:Nat,y<=3/\r=.val (.int y),⟨hv.same T.s,trivial⟩,?_,(λ_ ⟨_,_,z⟩=>by cases z),?_⟩
 ·dsimp! only[qao]
  have q0:=Int.emod_nonneg (qby ns 4) (show (4:Int)≠0 by decide)
  have q1:=Int.emod_lt_of_pos (qby ns 4) (show (0:Int)<4 by decide)
  exact⟨(qby ns 4%4).toNat,by omega,by rw[show ((qby ns 4%4).toNat:Int)=qby ns 4%4 by omega]⟩
 rintro r v B1 H1 ⟨y,hy,rfl⟩ s1' _ rr
 have rr':Rep K B1 (.int y) v:=rr
 unfold Rep at rr'
 subst rr'
 have T1:=T.same s1'
 clear rr
 refine⟨.int y,rfl,y,rfl,by omega,by omega,?_⟩
 rw[Int.toNat_natCast]
 refine qgn (lo:=0) (λi σ H'=>∃(v4:Option V) (as:List Addr) (U':Hp) (ps:List (List Row)) (F1:List Addr),σ=[some v0,s1,some (.int n),some (.ref l),v4,s5,some (.ref lf),s7,some (.ref g),some (.ref o),s10,some (.int y)]/\Same U U'/\Two K U' H' g o ps qs F1 F2/\H' l=some (.lst (as.map .ref))/\U' l=none/\l∉F1/\as.length=ps.length/\(∀(i:Nat) a p,as[i]?=some a->ps[i]?=some p->PnAt K U' a p)/\PanesOk ps/\ps.length<=12+i) ?_ ?_ ?_
 ·exact⟨s4,as,U,ps,F1,rfl,Same.refl _,T1,s1' _ _ hl,ul,l1,el,pn,P,fp⟩
 ·rintro i σ H2 hi ⟨v4,as,U',ps,F1,rfl,su,T,hl,ul,l1,el,pn,P,fp⟩
  refine T.a.m0 rfl ⟨g,ps,F1,rfl,T.a,by omega,λp H3 hp fr g'=>⟨rfl,false,rfl,iteF ?_⟩⟩
  have pl:p≠l:=λz=>by rw[z,hl] at hp;cases hp
  have T3:=T.fst fr g' λx m=>(List.mem_append.mp m).imp id λm=>by rw[List.mem_singleton.mp m];exact hp
  have hl3:H3 l=some (.lst (as.map .ref)):=fr.out hl l1
  have l3:l∉F1++[p]:=λm=>(List.mem_append.mp m).elim l1 λm=>pl (List.mem_singleton.mp m).symm
  refine⟨.ref l,rfl,.inl ⟨rfl,_,SqL.of hl3⟩,Nat.zero_le _,λq hq=>⟨l,as.map .ref,.ref q,rfl,rfl,qae hq _ _ _ hl3,by rw[List.length_map];omega,?_⟩⟩
  have ql:q≠l:=λz=>by rw[z,hl3] at hq;cases hq
  have uq:U' q=none:=T3.s.free hq
  obtain⟨T4,s4⟩:=(T3.same (qae hq (.lst []))).more (a:=q) qag (λm=>T3.a.got q m hq) (λm=>T3.b.got q m hq) uq
  have fr5:Fr [l] (upd H3 q (.lst [])) (upd (upd H3 q (.lst [])) l (.lst (as.map .ref++[.ref q]))):=Fr.upd (by simp) (qae hq _ _ _ hl3) (λ_ z=>by cases z)
  have T5:=T4.fr fr5 λx m=>by
   rw[List.mem_singleton.mp m]
   exact⟨by rw[qal ql.symm];exact ul,l3,l2⟩
  refine⟨_,as++[q],_,_,_,rfl,su.trans s4,T5,by rw[qag,List.map_append];rfl,by rw[qal ql.symm];exact ul,l3,by rw[List.length_append,List.length_append,el];rfl,λj a r e1 e2=>?_,P.more,by rw[List.length_append,List.length_singleton];omega⟩
  by_cases hj:j<as.length
  ·rw[List.getElem?_append_left hj] at e1
   rw[List.getElem?_append_left (by omega)] at e2
   exact(pn j a r e1 e2).same s4
  ·have hj2:j=as.length:=by
    have:=(List.getElem?_eq_some_iff.mp e1).1
    rw[List.length_append,List.length_singleton] at this
    omega
   subst hj2
   rw[List.getElem?_append_right (Nat.le_refl _),Nat.sub_self] at e1
   rw[el,List.getElem?_append_right (Nat.le_refl _),Nat.sub_self] at e2
   cases e1
   cases e2
   exact⟨[],qag,by unfold Reps;rfl⟩
 ·rintro σ H2 ⟨v4,as,U',ps,F1,rfl,su,T,hl,ul,l1,el,pn,P,fp⟩
  obtain⟨T3,s3⟩:=T.more hl l1 l2 ul
  have pp:PsAt K (upd U' l (.lst (as.map .ref))) l as ps:=⟨qag,el,λj a p e1 e2=>(pn j a p e1 e2).same s3⟩
  refine Two.held T3.a (pp.same T3.s) P (by omega) rfl rfl λH4 s4=>⟨true,rfl,iteF (Two.held (T3.same s4).b (((pf.same (su.trans s3)).same T3.s).same s4) Pq (by omega) rfl rfl λH5 s5'=>⟨true,rfl,iteF ?_⟩)⟩
  exact qz4 ((T3.same s4).same s5') (hv.same (su.trans s3)) hn hy pp (pf.same (su.trans s3)) P Pq (by omega) (by omega) λH' s'=>k H' ((su.trans s3).trans s')
end
section
variable {K:PySem.W.Frag} {H H1 H2 H' B B' U U':Hp} {F G F1 F2:List Addr} {a b l g o:Addr} {rs:List Row} {as:List Addr} {ps qs:List (List Row)} {D:Ends}
def qu3(K:PySem.W.Frag):TS:=tFor (qlv K (tVar 7)) (qb1 10) (tIfS (quq (tOp (rI0 λi j=>.bl (decide (j<i))) (tCB (λxs H Q=>∃x n,xs=[x]/\LenV K x H n/\Q (.int n) H) (qcm (tVar 10) tNil)) (tC (.int 0)))) (qjq (tBM0 K "list" rPop (tVar 10))) qhv)
def b_t3(K:PySem.W.Frag):TS:=tSeq (qu3 K)
 (tSeq (qjq (tBM K "list" qep (tVar 7) (qcm (tLst (hA K (qaa (vTup (qaa (vTup vNil) (qaa (vC (.str "shut")) (qaa (vC (.str "")) vNil)))) vNil))) tNil))) (qzo K))
def b_t2(K:PySem.W.Frag)(C0:Addr):TS:=tSeq (tAsg (qsb C0 (qhe K) [] E0 (qcm (tVar 7) tNil)) (qb1 8))
 (tSeq (tAsg (qsb C0 (qhe K) [] E0 (qcm (qk4 (qlv K (tVar 6)) (qb1 12) fNil (tCB (rLst K) (qcm (tVar 12) tNil)) 1) tNil)) (qb1 9)) (b_t3 K))
def qu5(K:PySem.W.Frag)(C0:Addr):TS :=
 tSeq (tAsg (tSl (rSlL K) (tVar 3) qjr (qup (hE K (vOp vMod (qar qao (qaa (vVar 0) (qaa (vC (.int 3)) vNil))) (vOp vAdd (vVar 2) (vC (.int 1))))))) (qb1 6))
 (tSeq (tAsg (qk4 (qlv K (tVar 3)) (qb1 12) fNil (tCB (rLst K) (qcm (tVar 12) tNil)) 1) (qb1 7)) (b_t2 K C0))
theorem qw7{s0 s1 s2 s3 s4 s5 s6 s8 s9 s10 s11:Option V}{lh:Addr}{ah:List Addr}(ph:PsAt K H lh ah ps)(nd:(lh::ah).Nodup)
  (k:∀v H',Fr ah H H'->D.nx [s0,s1,s2,s3,s4,s5,s6,some (.ref lh),s8,s9,v,s11] H'):qu3 K D [s0,s1,s2,s3,s4,s5,s6,some (.ref lh),s8,s9,s10,s11] H:=by
 have nl:=(List.nodup_cons.mp nd).1
 refine⟨.ref lh,rfl,lh,rfl,⟨_,SqL.of ph.at'⟩,qs0 (xs:=ah.map .ref) (λ_ σ H'=>∃v,σ=[s0,s1,s2,s3,s4,s5,s6,some (.ref lh),s8,s9,v,s11]/\Fr ah H H'/\∀a∈ah,∃xs,H' a=some (.lst xs)) ?_ ?_ ?_ ?_⟩
 ·exact⟨s10,rfl,.of (Same.refl _),λa m=>let ⟨_,xs,e,_⟩:=ph.mem m;⟨xs,e⟩⟩
 ·rintro i σ H1 _ ⟨v,rfl,fr,_⟩
  exact SqL.of (fr.out ph.at' nl)
 ·rintro i x σ H1 hx ⟨v,rfl,fr,ls⟩
  rw[List.getElem?_map] at hx
  obtain⟨a,ea,rfl⟩:=Option.map_eq_some_iff.mp hx
  have ma:=List.mem_of_getElem? ea
  obtain⟨xs,e⟩:=ls a ma
  refine⟨.ref a,rfl,.ref a,xs.length,rfl,.inl ⟨xs,SqL.of e,rfl⟩,xs.length,0,rfl,rfl,_,rfl,?_⟩
  by_cases h0:xs=[]
  ·subst h0
   exact qlw rfl ⟨_,rfl,fr,ls⟩
  ·have hl:0<xs.length:=List.length_pos_iff.mpr h0
   refine qqp (decide_eq_true (by omega)) ⟨.ref a,rfl,.inl ⟨rfl,_,SqL.of e⟩,a,xs,xs[xs.length-1]'(by omega),rfl,rfl,e,List.getElem?_eq_getElem _,_,rfl,fr.trans (Fr.upd ma e (λ_ z=>by cases z)),λb m=>?_⟩
   by_cases z:b=a
   ·exact⟨_,by rw[z,qag]⟩
   ·rw[qal z]
    exact ls b m
 ·rintro σ H1 ⟨v,rfl,fr,_⟩
  exact k v H1 fr
theorem qr0{u:HO}(s:Same U H)(e:H a=some u):Same (upd U a u) H:=λx w e2=>by
 by_cases z:x=a
 ·subst z
  rw[qag] at e2
  cases e2
  exact e
 ·rw[qal z] at e2
  exact s _ _ e2
theorem qw8{ns:List Int}{v0:V}{s1 s4 s5 s6 s7 s8 s9 s10 s11:Option V}{n:Nat}{C0:Addr}(hc:clsOf K "Glass" C0)(su:Same U H)(hv:Rep K U (.scr ns) v0)(hn:n<=12)(en:ps.length=n)(hl:H l=some (.lst (as.map .ref)))(ul:U l=none)(el:as.length=ps.length)(pn:∀(i:Nat) a p,as[i]?=some a->ps[i]?=some p->PnAt K U a p)
  (P:PanesOk ps) (k:∀H',Same U H'->D.rt (.bl true) H') :
  qu5 K C0 D [some v0,s1,some (.int n),some (.ref l),s4,s5,s6,s7,s8,s9,s10,s11] H:=by
 have big:1000<sizeLine:=by decide
 refine⟨.ref l,rfl,[some (.val (.scr ns)),none,some (.val (.int n)),none,none,none,none,none,none,none,none,none],λr=>∃m:Nat,r=.val (.int m),⟨hv.same su,qfo,trivial⟩,?_,(λ_ ⟨_,z⟩=>by cases z),?_⟩
 ·dsimp! only[qao]
  have q0:=Int.emod_nonneg (qby ns 3) (show ((n:Int)+1)≠0 by omega)
  refine⟨by omega,(qby ns 3%(n+1)).toNat,by rw[show ((qby ns 3%((n:Int)+1)).toNat:Int)=qby ns 3%(n+1) by omega]⟩
 rintro r v B1 H1 ⟨m,rfl⟩ s01 _ rr
 have rr':Rep K B1 (.int m) v:=rr
 unfold Rep at rr'
 subst rr'
 clear rr
 refine⟨m,rfl,l,as.map .ref,rfl,SqL.of (s01 _ _ hl),λlf hlf=>?_⟩
 rw[qim,qez]
 have nu:U lf=none:=(su.trans s01).free hlf
 have s12:Same H (upd H1 lf (.lst ((as.take m).map .ref))):=s01.trans (qae hlf _)
 have sU2:Same (upd U lf (.lst ((as.take m).map .ref))) (upd H1 lf (.lst ((as.take m).map .ref))):=qr0 (su.trans s12) qag
 have sUU:Same U (upd U lf (.lst ((as.take m).map .ref))):=qae nu _
 have pf:PsAt K (upd U lf (.lst ((as.take m).map .ref))) lf (as.take m) (ps.take m):=⟨qag,by rw[List.length_take,List.length_take,el],λi a p e1 e2=>by
  rw[List.getElem?_take] at e1 e2
  split at e1
  ·rename_i hi
   rw[if_pos hi] at e2
   exact(pn i a p e1 e2).same sUU
  ·cases e1⟩
 have ll:lf≠l:=λz=>by rw[z,s01 _ _ hl] at hlf;cases hlf
 have hl2:upd H1 lf (.lst ((as.take m).map .ref)) l=some (.lst (as.map .ref)):=s12 _ _ hl
 have ul2:upd U lf (.lst ((as.take m).map .ref)) l=none:=by rw[qal ll.symm];exact ul
 generalize upd U lf (.lst ((as.take m).map .ref))=U2 at sU2 sUU pf ul2
 generalize upd H1 lf (.lst ((as.take m).map .ref))=H2 at s12 sU2 hl2
 have pl:PsAt K H2 l as ps:=⟨hl2,el,λi a p e1 e2=>((pn i a p e1 e2).same sUU).same sU2⟩
 refine qgj (i:=3) (j:=12) (σ:=[some v0,s1,some (.int n),some (.ref l),s4,s5,some (.ref lf),s7,s8,s9,s10,s11]) (Q:=λx H1=>b_t2 K C0 D [some v0,s1,some (.int n),some (.ref l),s4,s5,some (.ref lf),some x,s8,s9,s10,s11] H1) rfl rfl pl (by omega) λlh ah H3 N3 ph=>?_
 refine⟨.ref lh,rfl,λx dx hx hdx ne=>qq8 (Q:=λv H2=>tSeq (tAsg (qsb C0 (qhe K) [] E0 (qcm (qk4 (qlv K (tVar 6)) (qb1 12) fNil (tCB (rLst K) (qcm (tVar 12) tNil)) 1) tNil)) (qb1 9)) (b_t3 K) D [some v0,s1,some (.int n),some (.ref l),s4,s5,some (.ref lf),some (.ref lh),some v,s9,s10,s11] H2) hc ph (by omega) (λg F1 H4 s34 f4 g4=>?_) hx hdx ne⟩
 have s24:Same H2 H4:=N3.s.trans s34
 refine qgj (i:=6) (j:=12) (σ:=[some v0,s1,some (.int n),some (.ref l),s4,s5,some (.ref lf),some (.ref lh),some (.ref g),s9,s10,s11]) (Q:=λv H1=>∀x dx,H1 x=none->H1 dx=none->dx≠x->qhe K (.ref x::([v]++[])) (upd (upd H1 dx (.own x)) x (.ins C0 dx [])) (λv H2=>v=.non/\b_t3 K D [some v0,s1,some (.int n),some (.ref l),s4,s5,some (.ref lf),some (.ref lh),some (.ref g),some (.ref x),s10,s11] H2) E0) rfl rfl ((pf.same sU2).same s24) (by rw[List.length_take];omega) λl5 a5 H5 N5 p5=>λx dx hx hdx ne=>qq8 (Q:=λv H2=>b_t3 K D [some v0,s1,some (.int n),some (.ref l),s4,s5,some (.ref lf),some (.ref lh),some (.ref g),some v,s10,s11] H2) hc p5 (by rw[List.length_take];omega) (λo F2 H6 s56 f6 g6=>?_) hx hdx ne
 have s36:Same H3 H6:=(s34.trans N5.s).trans s56
 have T:Two K U2 H6 g o ps (ps.take m) F1 F2:=⟨(sU2.trans N3.s).trans s36,(g4.same N5.s).same s56,g6,λx m=>(sU2.trans N3.s).free (f4 x m),λx m=>((sU2.trans s24).trans N5.s).free (f6 x m),λx m z=>(g4.same N5.s).got x m (f6 x z)⟩
 have hf:∀x,H3 x≠none->x∉F1/\x∉F2:=λx z=>⟨λm=>z (f4 x m),λm=>z ((s34.trans N5.s).free (f6 x m))⟩
 have nh:∀x∈lh::ah,U2 x=none/\x∉F1/\x∉F2:=λx m=>⟨sU2.free (N3.fresh x m),hf x (ph.got x m)⟩
 have hl3:H3 l=some (.lst (as.map .ref)):=N3.s _ _ hl2
 have nl:l∉lh::ah:=λm=>by
  have:=N3.fresh l m
  rw[hl2] at this
  cases this
 refine qw7 (ph.same s36) N3.nd λv H7 fr7=>?_
 have T7:=T.fr (fr7.mono (G:=lh::ah) λx m=>List.mem_cons_of_mem _ m) nh
 have hl7:H7 l=some (.lst (as.map .ref)):=fr7.out (s36 _ _ hl3) λm=>nl (List.mem_cons_of_mem _ m)
 have hh7:H7 lh=some (.lst (ah.map .ref)):=fr7.out (s36 _ _ ph.at') (List.nodup_cons.mp N3.nd).1
 refine⟨.ref lh,rfl,.inl ⟨rfl,_,SqL.of hh7⟩,List.replicate 12 none,λa=>a=.ok [rowD sR],trivial,?_,(λ_ z=>by cases z),?_⟩
 ·rfl'
  exact⟨by decide,rfl⟩
 rintro ds vs B8 H8 e8 s8' _ rp
 cases e8
 obtain⟨y,rfl,_⟩:=qgb rp
 refine⟨show 1<=sizeLine by decide,λq hq=>⟨lh,ah.map .ref,.ref q,rfl,rfl,qae hq _ _ _ (s8' _ _ hh7),by rw[List.length_map,ph.len];omega,?_⟩⟩
 have fr9:Fr [lh] (upd H8 q (.lst [y])) (upd (upd H8 q (.lst [y])) lh (.lst (ah.map .ref++[.ref q]))):=Fr.upd (by simp) (qae hq _ _ _ (s8' _ _ hh7)) (λ_ z=>by cases z)
 have T9:=((T7.same s8').same (qae hq _)).fr fr9 λx m=>by
  rw[List.mem_singleton.mp m]
  exact nh lh (List.mem_cons_self ..)
 exact qz5 T9 (hv.same sUU) hn (fr9.out (qae hq _ _ _ (s8' _ _ hl7)) λm=>nl (by rw[List.mem_singleton.mp m];exact List.mem_cons_self ..)) ul2 (hf l (by rw[hl3];exact λz=>by cases z)).1 (hf l (by rw[hl3];exact λz=>by cases z)).2 el (λi a p e1 e2=>(pn i a p e1 e2).same sUU) pf P (P.take m) (by omega) (by rw[List.length_take];omega) λH' s'=>k H' (sUU.trans s')
theorem q29:∀ {σ:St},σ.length=12->∃s0 s1 s2 s3 s4 s5 s6 s7 s8 s9 s10 s11,σ=[s0,s1,s2,s3,s4,s5,s6,s7,s8,s9,s10,s11]
|[s0,s1,s2,s3,s4,s5,s6,s7,s8,s9,s10,s11],_=>⟨s0,s1,s2,s3,s4,s5,s6,s7,s8,s9,s10,s11,rfl⟩
theorem qyu{C0:Addr}{EX:St->XK}(hc:clsOf K "Glass" C0):RfS K EX (qu5 K C0) quu:=λB0 H0 B H τ σ Dv Dh p S ⟨ns,st,n,ps,a,b,P,en,hn,e,h⟩ E=>by
 subst e
 obtain⟨s0,s1,s2,s3,s4,s5,s6,s7,s8,s9,s10,s11,rfl⟩:=q29 S.len
 obtain⟨v0,e0,r0⟩:=S.val 0 _ rfl
 obtain⟨v2,e2,r2⟩:=S.val 2 _ rfl
 obtain⟨l,e3,h0,hb,xs,hl,rx⟩:=S.own 3 _ rfl
 cases Option.some.inj e0
 cases Option.some.inj e2
 cases Option.some.inj e3
 unfold Rep at r2
 subst r2
 obtain⟨as,rfl,el,pn⟩:=q1g rx
 let U:Hp:=λx=>match B x,H0 x with
 |none,none=>none
 |_,_=>H x
 have u1:∀x,B x=none->H0 x=none->U x=none:=λx z1 z2=>by
  show (match B x,H0 x with|none,none=>none|_,_=>H x)=none
  rw[z1,z2]
 have u2:∀x o,B x=some o->U x=some o:=λx o z=>by
  show (match B x,H0 x with|none,none=>none|_,_=>H x)=some o
  rw[z]
  exact p.s _ _ z
 have u3:∀x o,H0 x=some o->U x=some o:=λx o z=>by
  show (match B x,H0 x with|none,none=>none|_,_=>H x)=some o
  rw[z]
  cases B x<;>exact p.h _ _ z
 have u4:Same U H:=λx o z=>by
  have z':(match B x,H0 x with|none,none=>none|_,_=>H x)=some o:=z
  split at z'
  ·cases z'
  ·exact z'
 exact qw8 hc u4 (r0.same u2) hn en hl (u1 l hb h0) el (λi a p e1 e2=>(pn i a p e1 e2).same u2) P λH' s'=>E.rt (.val (.bl true)) (.bl true) B H' ⟨p.b,λx o z=>s' _ _ (u3 x o z),λx o z=>s' _ _ (u2 x o z),p.d⟩ (repV rfl) h
end
def qzn:TVS:=(vSeq (vSet 1 (vOp vMod (qar qao (qaa (vVar 0) (qaa (vC (.int 0)) vNil))) (vOp vPow (vC (.int 10)) (vC (.int 12)))))
 (vSeq (vSet 2 (vOp vMod (qar qao (qaa (vVar 0) (qaa (vC (.int 1)) vNil))) (vC (.int 6))))
 (vSeq (vIfS (vBl (vOp vEq (vOp vMod (vOp vDiv (qar qao (qaa (vVar 0) (qaa (vC (.int 1)) vNil))) (vC (.int 6))) (vC (.int 8))) (vC (.int 3))))
  (vSet 2 (vC (.int 12)))
  qcz)
 (vSeq (qes 3 (vLst vNil))
 (vSeq (vFor (qjw (vVar 2)) (qa9 4)
  (vSeq (vSet 5 (qar qay (qaa (vOp vAdd (qar qao (qaa (vVar 0) (qaa (vC (.int 2)) vNil))) (vVar 4)) (qaa (vC (.int 0)) (qaa (vC (.int 9)) vNil)))))
  (qhj 3 (qar qdy (qaa (qar qfj (qaa (vVar 0) (qaa (vOp vAdd (vC (.int 5)) (vVar 4)) (qaa (vVar 2) (qaa (vVar 5) vNil))))) (qaa (vVar 1) vNil))))))
 quu)))))
theorem q30:∀ds Q,qlt ds Q->qzn (En Q) (qbg ["_law_script","_law_stem","_law_many","_law_panes","_law_k","_law_size","_law_fewer","_law_handed","_law_glass","_law_other","_law_pane","_law_lays"] ds):=by
 rintro ds Q ⟨ns,rfl,h⟩
 refine v_cut (λτ=>∃st:Int,0<=st/\st<10 ^ 18/\τ=[some (.val (.scr ns)),some (.val (.int st)),none,none,none,none,none,none,none,none,none,none]) ?_ λnx hnx=>?now
 case now =>
  dsimp! only[qao]
  have q1:qby ns 0%10 ^ Int.toNat 12<10 ^ Int.toNat 12:=Int.emod_lt_of_pos _ (by decide)
  exact⟨⟨by decide,by decide,by decide⟩,by decide,hnx _ ⟨_,Int.emod_nonneg _ (show (10 ^ Int.toNat 12:Int)≠0 by decide),Int.lt_trans q1 (by decide),rfl⟩⟩
 rintro τ ⟨st,s0,s1,rfl⟩
 refine v_cut (λτ=>∃n:Nat,n<=12/\τ=[some (.val (.scr ns)),some (.val (.int st)),some (.val (.int n)),none,none,none,none,none,none,none,none,none]) ?_ λnx hnx=>?now
 case now =>
  dsimp! only[qao]
  have q0:=Int.emod_nonneg (qby ns 1) (show (6:Int)≠0 by decide)
  have q1:=Int.emod_lt_of_pos (qby ns 1) (show (0:Int)<6 by decide)
  refine hnx _ ⟨(qby ns 1%6).toNat,by omega,?_⟩
  rw[show ((qby ns 1%6).toNat:Int)=qby ns 1%6 by omega]
 rintro τ ⟨n0,hn0,rfl⟩
 refine v_cut (λτ=>∃n:Nat,n<=12/\τ=[some (.val (.scr ns)),some (.val (.int st)),some (.val (.int n)),none,none,none,none,none,none,none,none,none]) ?_ λnx hnx=>?now
 case now =>
  dsimp! only[qao]
  split
  ·exact hnx _ ⟨12,Nat.le_refl _,rfl⟩
  ·exact hnx _ ⟨n0,hn0,rfl⟩
 clear hn0 n0
 rintro τ ⟨n,hn,rfl⟩
 refine v_cut (λτ=>τ=[some (.val (.scr ns)),some (.val (.int st)),some (.val (.int n)),some (.own (qav [])),none,none,none,none,none,none,none,none]) ?_ λnx hnx=>?now
 case now =>
  rfl'
  exact hnx _ rfl
 rintro τ rfl
 refine v_cut (λτ=>∃ps a b,(PanesOk ps/\ps.length=n)/\τ=[some (.val (.scr ns)),some (.val (.int st)),some (.val (.int n)),some (.own (qav ps)),a,b,none,none,none,none,none,none]) ?_ λnx hnx=>?now
 case now =>
  rfl'
  refine⟨by omega,by omega,qgo (λi τ=>∃ps a b,((∀p∈ps,PaneOk p/\NmOk p/\p.length<=200)/\qco ps<=sumF (λk=>(szI (qby ns 2+k)).toNat) i/\ps.length=i)/\τ=[some (.val (.scr ns)),some (.val (.int st)),some (.val (.int n)),some (.own (qav ps)),a,b,none,none,none,none,none,none]) ⟨[],none,none,⟨(λp hp=>by cases hp),Nat.zero_le _,rfl⟩,rfl⟩ ?_ ?_⟩
  ·rintro i τ hi ⟨ps,a,b,⟨hok,hb,hl⟩,rfl⟩ nx2 hnx2
   have sz:=qy3 (qby ns 2+i)
   refine v_cut (λτ=>τ=[some (.val (.scr ns)),some (.val (.int st)),some (.val (.int n)),some (.own (qav ps)),some (.val (.int i)),some (.val (.int (szI (qby ns 2+i)))),none,none,none,none,none,none]) ?_ λnx3 hnx3=>?now
   case now =>
    have mx:∀Y:R->Prop,Y (.val (.int (szI (qby ns 2+i))))->qay [.int (qby ns 2+i),.int 0,.int 9] Y:=λY y=>⟨_,0,9,rfl,by decide,by decide,λj _ _ e=>by rw[e rfl];exact y⟩
    dsimp! only[qao]
    refine mx _ ?_
    rfl'
    exact hnx3 _ rfl
   rintro τ rfl
   have go:∀(cs:List Int),cs.length=(szI (qby ns 2+i)).toNat->∀p,qzk cs.length p->nx2 [some (.val (.scr ns)),some (.val (.int st)),some (.val (.int n)),some (.own (qav (ps++[p]))),some (.val (.int i)),some (.val (.int (szI (qby ns 2+i)))),none,none,none,none,none,none]:=λcs hcs p ⟨g1,g2,g3,g4,_⟩=>hnx2 _ ⟨ps++[p],_,_,⟨λq hq=>by
    rcases List.mem_append.mp hq with hq|hq
    ·exact hok q hq
    ·rw[List.mem_singleton.mp hq]
     exact⟨g1,g2,by omega⟩,by
    rw[qfh]
    show _<=sumF (λk=>(szI (qby ns 2+k)).toNat) i+(szI (qby ns 2+i)).toNat
    omega,by rw[List.length_append,hl];rfl⟩,rfl⟩
   have ce:∀Y:R->Prop,(∀cs:List Int,cs.length=(szI (qby ns 2+i)).toNat->Y (.own (.lst (cs.map D.int))))->qfj [.scr ns,.int (5+i),.int n,.int (szI (qby ns 2+i))] Y:=λY y=>⟨ns,5+i,n,_,rfl,by omega,by omega,by omega,by omega,y⟩
   have big:1000<sizeLine:=by decide
   dsimp! only[qao,qav]
   refine ce _ λcs hcs=>?_
   rfl'
   refine⟨cs,st,rfl,by omega,s0,s1,λp g=>?_⟩
   rfl'
   refine⟨by omega,?_⟩
   have:=go cs hcs p g
   unfold qav at this
   rw[List.map_append] at this
   exact this
  ·rintro τ ⟨ps,a,b,⟨hok,hb,hl⟩,rfl⟩
   have hs:=q19 (qby ns 2) n hn
   rw[Int.toNat_natCast] at hb hl
   exact hnx _ ⟨ps,a,b,⟨⟨hok,by omega⟩,hl⟩,rfl⟩
 rintro τ ⟨ps,a,b,⟨P,hl⟩,rfl⟩
 exact⟨ns,st,n,ps,a,b,P,hl,hn,rfl,h⟩
theorem q0f{K:PySem.W.Frag}{H:Hp}{a:Addr}(ns:List Int)(_:ns.length<=63)(hS:SqL K H a (ns.map V.int)){E:XK}:spOf K qlt [.ref a] H (λv _=>v=.bl true) E:=qum ⟨ns,rfl,rfl⟩ hS
def top(i:Nat):Stmt:=PySem.Challenge.pw_glasslayers_k70_the_glass_holds.main.body.getD i (.Pass ⟨0,0,0,0⟩)
abbrev qmg:Stmt:=top 7
abbrev qfp:Stmt:=top 9
abbrev qfq:Stmt:=top 11
abbrev qmh:Stmt:=top 12
abbrev qdi:Stmt:=top 13
abbrev qc3:Stmt:=top 14
abbrev qgc:Stmt:=top 15
abbrev qml:Stmt:=top 17
abbrev qn1:Stmt:=top 18
abbrev qdj:Stmt:=top 19
abbrev qd2:Stmt:=inClass (top 22) 0
abbrev qjg:Stmt:=inClass (top 22) 1
abbrev qg9:Stmt:=inClass (top 22) 2
abbrev qmj:Stmt:=inClass (top 22) 4
abbrev qjf:Stmt:=inClass (top 22) 5
abbrev qg7:Stmt:=top 24
abbrev qjd:Stmt:=top 25
abbrev qmk:Stmt:=top 26
abbrev qha:Stmt:=top 27
abbrev qhb:Stmt:=top 28
abbrev qd3:Stmt:=top 29
abbrev qe6:Stmt:=top 30
abbrev qgd:Stmt:=top 31
abbrev s_same:Stmt:=top 32
abbrev qmi:Stmt:=top 33
abbrev qje:Stmt:=top 34
abbrev qg8:Stmt:=top 35
structure Blt(K:PySem.W.Frag)(mg:Str->Option Value)(cGlassError:Addr)(cMissing:Addr)(cNoPane:Addr)(cNoRow:Addr)(cGlass:Addr):Prop where
 GlassError:mg "GlassError" = some (.ref cGlassError)
 k_GlassError:clsOf K "GlassError" cGlassError
 Missing:mg "Missing" = some (.ref cMissing)
 k_Missing:clsOf K "Missing" cMissing
 NoPane:mg "NoPane" = some (.ref cNoPane)
 k_NoPane:clsOf K "NoPane" cNoPane
 NoRow:mg "NoRow" = some (.ref cNoRow)
 k_NoRow:clsOf K "NoRow" cNoRow
 Glass:mg "Glass" = some (.ref cGlass)
 k_Glass:clsOf K "Glass" cGlass
 x_NoPane:OwnX K cNoPane
 ek_NoPane:ExcK K cNoPane
 m_NoPane_NoPane:PySem.W.exmOne K (.ref cNoPane) (.ref cNoPane)=some true
 o_NoPane_GlassError:PySem.W.kitOne K (.ref cNoPane) (.ref cGlassError)=some true
 i_NoPane_ValueError:PySem.W.kitOne K (.ref cNoPane) (.type "ValueError")=some true
 j_NoPane_Missing_NoRow:PySem.W.kitAny K (.ref cNoPane) [(.ref cMissing),(.ref cNoRow)]=some false
 ob_Glass:OCls K
 ValueError:mg "ValueError" = none
 isinstance:mg "isinstance" = none
 len:mg "len" = none
 list:mg "list" = none
 range:mg "range" = none
 sorted:mg "sorted" = none
 str:mg "str" = none
 tuple:mg "tuple" = none
section
variable {P:Program} {w:World} {K:PySem.W.Frag} {mg:Str->Option Value} {base:Heap} {f:Addr} {fd:FuncData} {cGlassError:Addr} {cMissing:Addr} {cNoPane:Addr} {cNoRow:Addr} {cGlass:Addr}
theorem qo5:FnScope ["_law_script","_law_k"] ["_law_script","_law_k"] (qad qg7):=⟨rfl,rfl,rfl,by decide +kernel,rfl,by decide +kernel,by decide +kernel⟩
theorem sc_mixed:FnScope ["_law_cell","_law_turn","_law_many","_law_by","_law_prime"] ["_law_cell","_law_turn","_law_many"] (qad qmk):=⟨rfl,rfl,rfl,by decide +kernel,rfl,by decide +kernel,by decide +kernel⟩
theorem sc_name_by:FnScope ["_law_stem","_law_v","_law_signs","_law_size","_law_spot","_law_name","_law_k","_law_turn"] ["_law_stem","_law_v"] (qad qha):=⟨rfl,rfl,rfl,by decide +kernel,rfl,by decide +kernel,by decide +kernel⟩
theorem sc_under_shut:FnScope ["_law_things","_law_way","_law_k"] ["_law_things","_law_way"] (qad qd3):=⟨rfl,rfl,rfl,by decide +kernel,rfl,by decide +kernel,by decide +kernel⟩
theorem sc_text_by:FnScope ["_law_mark","_law_cell","_law_stem","_law_wide","_law_name","_law_more","_law_some"] ["_law_mark","_law_cell","_law_stem","_law_wide"] (qad qhb):=⟨rfl,rfl,rfl,by decide +kernel,rfl,by decide +kernel,by decide +kernel⟩
theorem sc_pane_by:FnScope ["_law_cells_here","_law_stem","_law_wide","_law_things","_law_folders","_law_cell","_law_over","_law_way","_law_mark"] ["_law_cells_here","_law_stem"] (qad qe6):=⟨rfl,rfl,rfl,by decide +kernel,rfl,by decide +kernel,by decide +kernel⟩
theorem qgk:CompScope (qad qe6) ["_law_cells_here","_law_stem","_law_wide","_law_things","_law_folders","_law_cell","_law_over","_law_way","_law_mark"] ["_law_cells_here","_law_stem","_law_wide","_law_things","_law_folders","_law_cell","_law_over","_law_way'","_law_mark","_law_way"] ["_law_way"] ({ kind:=PySem.ScopeKind.function,names:=[ (PySem.Str.ofString ".0",PySem.NameKind.local),(PySem.Str.ofString "_law_way",PySem.NameKind.local),(PySem.Str.ofString "_law_things",PySem.NameKind.free)],isGenerator:=false,isCoroutine:=false,more:=[]:PySem.Scope }):=⟨rfl,by decide +kernel,by decide +kernel,by decide +kernel,by decide +kernel,rfl,by decide +kernel⟩
theorem quf:FnScope ["_law_script","_law_first","_law_step","_law_many"] ["_law_script","_law_first","_law_step","_law_many"] (qad qjd):=⟨rfl,rfl,rfl,by decide +kernel,rfl,by decide +kernel,by decide +kernel⟩
theorem qki:CompScope (qad qjd) ["_law_script","_law_first","_law_step","_law_many"] ["_law_script","_law_first","_law_step","_law_many","_law_k"] ["_law_k"] ({ kind:=PySem.ScopeKind.function,names:=[ (PySem.Str.ofString ".0",PySem.NameKind.local),(PySem.Str.ofString "_law_k",PySem.NameKind.local),(PySem.Str.ofString "_law_cell_at",PySem.NameKind.globalImplicit),(PySem.Str.ofString "_law_first",PySem.NameKind.free),(PySem.Str.ofString "_law_script",PySem.NameKind.free),(PySem.Str.ofString "_law_step",PySem.NameKind.free)],isGenerator:=false,isCoroutine:=false,more:=[]:PySem.Scope }):=⟨rfl,by decide +kernel,by decide +kernel,by decide +kernel,by decide +kernel,rfl,by decide +kernel⟩
theorem qr1:FnScope ["panes"] ["panes"] (qad qgc):=⟨rfl,rfl,rfl,by decide +kernel,rfl,by decide +kernel,by decide +kernel⟩
theorem cs_copies0:CompScope (qad qgc) ["panes"] ["panes","pane"] ["pane"] ({ kind:=PySem.ScopeKind.function,names:=[ (PySem.Str.ofString ".0",PySem.NameKind.local),(PySem.Str.ofString "pane",PySem.NameKind.local),(PySem.Str.ofString "list",PySem.NameKind.globalImplicit)],isGenerator:=false,isCoroutine:=false,more:=[]:PySem.Scope }):=⟨rfl,by decide +kernel,by decide +kernel,by decide +kernel,by decide +kernel,rfl,by decide +kernel⟩
theorem qjh:FnScope ["self","panes"] ["self","panes"] (qad qd2):=⟨rfl,rfl,rfl,by decide +kernel,rfl,by decide +kernel,by decide +kernel⟩
theorem quh:FnScope ["self"] ["self"] (qad qmj):=⟨rfl,rfl,rfl,by decide +kernel,rfl,by decide +kernel,by decide +kernel⟩
theorem qo6:FnScope ["self"] ["self"] (qad qg9):=⟨rfl,rfl,rfl,by decide +kernel,rfl,by decide +kernel,by decide +kernel⟩
theorem sc_same:FnScope ["_law_found","_law_due","_law_k","_law_row"] ["_law_found","_law_due"] (qad s_same):=⟨rfl,rfl,rfl,by decide +kernel,rfl,by decide +kernel,by decide +kernel⟩
theorem sc_l_laid:FnScope ["_law_pane","_law_tree","_law_marks","_law_row","_law_shown","_law_kept","_law_k"] ["_law_pane","_law_tree"] (qad qgd):=⟨rfl,rfl,rfl,by decide +kernel,rfl,by decide +kernel,by decide +kernel⟩
theorem qhy:CompScope (qad qgd) ["_law_pane","_law_tree","_law_marks","_law_row","_law_shown","_law_kept","_law_k"] ["_law_pane","_law_tree","_law_marks","_law_row","_law_shown","_law_kept","_law_k","_law_way"] ["_law_way"] ({ kind:=PySem.ScopeKind.function,names:=[ (PySem.Str.ofString ".0",PySem.NameKind.local),(PySem.Str.ofString "_law_way",PySem.NameKind.local),(PySem.Str.ofString "_law_shown",PySem.NameKind.free)],isGenerator:=false,isCoroutine:=false,more:=[]:PySem.Scope }):=⟨rfl,by decide +kernel,by decide +kernel,by decide +kernel,by decide +kernel,rfl,by decide +kernel⟩
theorem qui:FnScope ["way","mark","text"] ["way","mark","text"] (qad qml):=⟨rfl,rfl,rfl,by decide +kernel,rfl,by decide +kernel,by decide +kernel⟩
theorem qmm:FnScope ["entries"] ["entries"] (qad qfp):=⟨rfl,rfl,rfl,by decide +kernel,rfl,by decide +kernel,by decide +kernel⟩
theorem sc_marks_of:FnScope ["pane","marks","way","mark","text"] ["pane"] (qad qfq):=⟨rfl,rfl,rfl,by decide +kernel,rfl,by decide +kernel,by decide +kernel⟩
theorem que:FnScope ["way"] ["way"] (qad qmg):=⟨rfl,rfl,rfl,by decide +kernel,rfl,by decide +kernel,by decide +kernel⟩
theorem qug:FnScope ["mark"] ["mark"] (qad qmh):=⟨rfl,rfl,rfl,by decide +kernel,rfl,by decide +kernel,by decide +kernel⟩
theorem sc_hidden_ways:FnScope ["pane","entries","marks","hidden","way","mark","text"] ["pane","entries"] (qad qdi):=⟨rfl,rfl,rfl,by decide +kernel,rfl,by decide +kernel,by decide +kernel⟩
theorem sc_left_alone:FnScope ["pane","entries","marks","hidden"] ["pane","entries"] (qad qc3):=⟨rfl,rfl,rfl,by decide +kernel,rfl,by decide +kernel,by decide +kernel⟩
theorem qeg:CompScope (qad qc3) ["pane","entries","marks","hidden"] ["pane","entries","marks","hidden","entry"] ["entry"] ({ kind:=PySem.ScopeKind.function,names:=[ (PySem.Str.ofString ".0",PySem.NameKind.local),(PySem.Str.ofString "entry",PySem.NameKind.local),(PySem.Str.ofString "hidden",PySem.NameKind.free),(PySem.Str.ofString "marks",PySem.NameKind.free)],isGenerator:=false,isCoroutine:=false,more:=[]:PySem.Scope }):=⟨rfl,by decide +kernel,by decide +kernel,by decide +kernel,by decide +kernel,rfl,by decide +kernel⟩
theorem sc_laid:FnScope ["pane","tree","put"] ["pane","tree"] (qad qn1):=⟨rfl,rfl,rfl,by decide +kernel,rfl,by decide +kernel,by decide +kernel⟩
theorem qf6:CompScope (qad qn1) ["pane","tree","put"] ["pane","tree","put","way","mark","text"] ["way","mark","text"] ({ kind:=PySem.ScopeKind.function,names:=[ (PySem.Str.ofString ".0",PySem.NameKind.local),(PySem.Str.ofString "way",PySem.NameKind.local),(PySem.Str.ofString "mark",PySem.NameKind.local),(PySem.Str.ofString "text",PySem.NameKind.local),(PySem.Str.ofString "shown",PySem.NameKind.globalImplicit)],isGenerator:=false,isCoroutine:=false,more:=[]:PySem.Scope }):=⟨rfl,by decide +kernel,by decide +kernel,by decide +kernel,by decide +kernel,rfl,by decide +kernel⟩
theorem sc_seen_laying:FnScope ["panes","tree","pane"] ["panes"] (qad qdj):=⟨rfl,rfl,rfl,by decide +kernel,rfl,by decide +kernel,by decide +kernel⟩
theorem qr3:FnScope ["self"] ["self"] (qad qjg):=⟨rfl,rfl,rfl,by decide +kernel,rfl,by decide +kernel,by decide +kernel⟩
theorem sc_holds:FnScope ["_law_glass","_law_panes","_law_told","_law_tree","_law_k","_law_whole"] ["_law_glass","_law_panes"] (qad qmi):=⟨rfl,rfl,rfl,by decide +kernel,rfl,by decide +kernel,by decide +kernel⟩
theorem qr2:FnScope ["self"] ["self"] (qad qjf):=⟨rfl,rfl,rfl,by decide +kernel,rfl,by decide +kernel,by decide +kernel⟩
theorem sc_lifted:FnScope ["_law_glass","_law_panes","_law_told","e","_law_good"] ["_law_glass","_law_panes"] (qad qje):=⟨rfl,rfl,rfl,by decide +kernel,rfl,by decide +kernel,by decide +kernel⟩
theorem sc_law:FnScope ["_law_script","_law_stem","_law_many","_law_panes","_law_k","_law_size","_law_fewer","_law_handed","_law_glass","_law_other","_law_pane","_law_lays"] ["_law_script"] (qad qg8):=⟨rfl,rfl,rfl,by decide +kernel,rfl,by decide +kernel,by decide +kernel⟩
theorem cs_law0:CompScope (qad qg8) ["_law_script","_law_stem","_law_many","_law_panes","_law_k","_law_size","_law_fewer","_law_handed","_law_glass","_law_other","_law_pane","_law_lays"] ["_law_script","_law_stem","_law_many","_law_panes","_law_k","_law_size","_law_fewer","_law_handed","_law_glass","_law_other","_law_pane'","_law_lays","_law_pane"] ["_law_pane"] ({ kind:=PySem.ScopeKind.function,names:=[ (PySem.Str.ofString ".0",PySem.NameKind.local),(PySem.Str.ofString "_law_pane",PySem.NameKind.local),(PySem.Str.ofString "list",PySem.NameKind.globalImplicit)],isGenerator:=false,isCoroutine:=false,more:=[]:PySem.Scope }):=⟨rfl,by decide +kernel,by decide +kernel,by decide +kernel,by decide +kernel,rfl,by decide +kernel⟩
theorem cs_law1:CompScope (qad qg8) ["_law_script","_law_stem","_law_many","_law_panes","_law_k","_law_size","_law_fewer","_law_handed","_law_glass","_law_other","_law_pane","_law_lays"] ["_law_script","_law_stem","_law_many","_law_panes","_law_k","_law_size","_law_fewer","_law_handed","_law_glass","_law_other","_law_pane'","_law_lays","_law_pane"] ["_law_pane"] ({ kind:=PySem.ScopeKind.function,names:=[ (PySem.Str.ofString ".0",PySem.NameKind.local),(PySem.Str.ofString "_law_pane",PySem.NameKind.local),(PySem.Str.ofString "list",PySem.NameKind.globalImplicit)],isGenerator:=false,isCoroutine:=false,more:=[]:PySem.Scope }):=⟨rfl,by decide +kernel,by decide +kernel,by decide +kernel,by decide +kernel,rfl,by decide +kernel⟩
variable (B:Blt K mg cGlassError cMissing cNoPane cNoRow cGlass) include B
theorem qoy(F:Fun K "_law_cell_at" "_law_cell_at" qg7 f fd) :FnOk P w K mg base CX0 1 f fd ["_law_script","_law_k"] (spOf K qao) :=
 F.okV qo5 qly λcdv A outer s H E hr=>⟨qgg,(qaf (qda (qa7 q2u (vv 1) (qeu qdo rfl B.len PyProof.Rows.Boot.«len» (vv 0)))
   (qaj (qbq (qbd qat (vv 0) (vv 1))))
   qbe)
  (qaj (qbq qab))),qso⟩
theorem qtl(F:Fun K "_law_mixed" "_law_mixed" qmk f fd) :FnOk P w K mg base CX0 1 f fd ["_law_cell","_law_turn","_law_many"] (spOf K qay) :=
 F.okV sc_mixed qqz λcdv A outer s H E hr=>⟨qpr,(qaf (qa5 (i:=3) sc_mixed.nd rfl (Or.inl rfl) (qa4 (vac qab (vac qab (vac qab (vac qab (vac qab (vac qab (vac qab (vac qab qah))))))))))
  (qaf (qa5 (i:=4) sc_mixed.nd rfl (Or.inl rfl) (qa4 (vac qab (vac qab (vac qab (vac qab (vac qab (vac qab (vac qab (vac qab qah))))))))))
  (qaj (qbq (qau qb6 (qau qb6 (qau qsk (qau qba (qau qb6 (vv 0) (qau qsl qab qab)) qab) (qbd qat (vv 3) (qau qb6 (vv 1) qab))) (qbd qat (vv 4) (qau qb6 (vv 1) qab))) (vv 2)))))),qze⟩
theorem qo0(F:Fun K "_law_name_by" "_law_name_by" qha f fd) :FnOk P w K mg base CX0 1 f fd ["_law_stem","_law_v"] (spOf K qbu) :=
 F.okV sc_name_by qlz λcdv A outer s H E hr=>⟨qj7,(qaf (qa5 (i:=2) sc_name_by.nd rfl (Or.inl rfl) qak)
  (qaf (qa5 (i:=3) sc_name_by.nd rfl (Or.inl rfl) (qau qba qab (qau qb6 (vv 0) qab)))
  (qaf (qa5 (i:=4) sc_name_by.nd rfl (Or.inl rfl) (qau qb6 (qau qid (vv 0) qab) (vv 3)))
  (qaf (qa5 (i:=5) sc_name_by.nd rfl (Or.inl rfl) qak)
  (qaf (qdr PassesOwn.never rfl (qfv rfl B.range (vv 3)) (qa3 (i:=6) sc_name_by.nd rfl (Or.inl rfl))
   (qaf (qa5 (i:=7) sc_name_by.nd rfl (Or.inl rfl) (qau qba (qau qid (vv 0) qab) (qau qsk (vv 6) (qau qb6 (qau qid (vv 0) qab) qab))))
  (qaf (qda (qa7 (qfw hr.units) (vv 6) (vv 4))
   (qaj (qa5 (i:=7) sc_name_by.nd rfl (Or.inl rfl) (qau qba (vv 7) (vv 1))))
   qbe)
  (qaj (qa5 (i:=5) sc_name_by.nd rfl (Or.inl rfl) (qau qba (vv 5) (qbd qat (vv 2) (qau qb6 (vv 7) qab))))))))
  (qaf (qda (vw_t (qeh (qa7 (qfw hr.units) (qau qb6 (qau qid (vv 0) qab) qab) qab) (qc6 (qa7 (qfw hr.units) (qau qb6 (vv 1) qab) qab))))
   (qaj (qa5 (i:=5) sc_name_by.nd rfl (Or.inl rfl) (qee (vv 5) qfx (qfy (qau qba qab (qau qb6 (vv 1) (vv 3)))))))
   qbe)
  (qaj (qbq (vv 5))))))))),qsp⟩
theorem qi1(F:Fun K "_law_under_shut" "_law_under_shut" qd3 f fd) :FnOk P w K mg base CX0 1 f fd ["_law_things","_law_way"] (spOf K qb0) :=
 F.okV sc_under_shut qhr λcdv A outer s H E hr=>⟨qdv,(qaf (qdr PassesOwn.never rfl (qfv rfl B.range (qeu qdo rfl B.len PyProof.Rows.Boot.«len» (vv 1))) (qa3 (i:=2) sc_under_shut.nd rfl (Or.inl rfl))
   (qaj (qda (vw_t (qeh (qsm hr.dict (qee (vv 1) qfx (qfy (vv 2))) (vv 0)) (qc6 (qa7 (qfw hr.units) (qbd qat (qjz hr.dict (vv 0) (qee (vv 1) qfx (qfy (vv 2)))) qab) qak))))
   (qaj (qbq qk9))
   qbe)))
  (qaj (qbq qk9))),qle⟩
theorem qo2(F:Fun K "_law_text_by" "_law_text_by" qhb f fd)(Cmixed:Cal P w K mg base 1 "_law_mixed" ["_law_cell","_law_turn","_law_many"] (spOf K qay))(Cname_by:Cal P w K mg base 1 "_law_name_by" ["_law_stem","_law_v"] (spOf K qbu)):FnOk P w K mg base CX0 2 f fd ["_law_mark","_law_cell","_law_stem","_law_wide"] (spOf K qc7) :=
 F.okV sc_text_by ql1 λcdv A outer s H E hr=>⟨qj8,(qaf (qda (qa7 (qfw hr.units) (vv 0) qak)
   (qaj (qbq (qbd qat (qa4 (vac qak (vac qak (vac (qau qba (qy6 q2p rfl B.str PyProof.Rows.Boot.«str» (qau qb6 (vv 1) (qau qsl qab qab))) qak) qah)))) (qas Cmixed (hr.mono (by decide)) rfl (vac (vv 1) (vac qab (vac qab qah)))))))
   qbe)
  (qaf (qda (qa7 (qdq hr.units) (vv 0) qak)
   (qaj (qbq qak))
   qbe)
  (qaf (qa5 (i:=4) sc_text_by.nd rfl (Or.inl rfl) (qas Cname_by (hr.mono (by decide)) rfl (vac (vv 2) (vac (qas Cmixed (hr.mono (by decide)) rfl (vac (vv 1) (vac qab (vac (vv 3) qah)))) qah))))
  (qaf (qa5 (i:=5) sc_text_by.nd rfl (Or.inl rfl) (qas Cname_by (hr.mono (by decide)) rfl (vac (vv 2) (vac (qas Cmixed (hr.mono (by decide)) rfl (vac (vv 1) (vac qab (vac (vv 3) qah)))) qah))))
  (qaf (qa5 (i:=6) sc_text_by.nd rfl (Or.inl rfl) (qa4 (vac qak (vac (qau qba qak (vv 4)) (vac (vv 4) (vac (qau qba qak (vv 4)) (vac (qau qba (qau qba (qau qba qak (vv 4)) qak) (vv 5)) (vac (qau qba (qau qba qak (vv 4)) qak) (vac qak (vac qak qah))))))))))
  (qaj (qbq (qbd qat (vv 6) (qas Cmixed (hr.mono (by decide)) rfl (vac (vv 1) (vac qab (vac qab qah)))))))))))),qsr⟩
theorem qo1(F:Fun K "_law_pane_by" "_law_pane_by" qe6 f fd)(Cmixed:Cal P w K mg base 1 "_law_mixed" ["_law_cell","_law_turn","_law_many"] (spOf K qay))(Cname_by:Cal P w K mg base 1 "_law_name_by" ["_law_stem","_law_v"] (spOf K qbu))(Cunder_shut:Cal P w K mg base 1 "_law_under_shut" ["_law_things","_law_way"] (spOf K qb0))(Ctext_by:Cal P w K mg base 2 "_law_text_by" ["_law_mark","_law_cell","_law_stem","_law_wide"] (spOf K qc7)):FnOk P w K mg base CX0 3 f fd ["_law_cells_here","_law_stem"] (spOf K qdy) :=
 F.okV sc_pane_by ql0 λcdv A outer s H E hr=>⟨qgh,(qaf (qa5 (i:=2) sc_pane_by.nd rfl (Or.inl rfl) (qau qba qab (qau qb6 (qau qid (vv 1) qab) qab)))
  (qaf (qdl (i:=3) sc_pane_by.nd rfl (Or.inr rfl) qfd)
  (qaf (qdl (i:=4) sc_pane_by.nd rfl (Or.inl rfl) (qla (vac (qa4 qah) qah)))
  (qaf (qda (vw_t (qeh (qa7 q2s (qeu qdo rfl B.len PyProof.Rows.Boot.«len» (vv 0)) qab) (qc6 (qa7 (qfw hr.units) (qas Cmixed (hr.mono (by decide)) rfl (vac (qbd qat (vv 0) qab) (vac qab (vac qab qah)))) qab))))
   (qaj (qd7 3 hr.dict (qa4 qah) (qa4 (vac qak (vac qak qah)))))
   qbe)
  (qaf (qdr PassesOwn.never rfl (qd6 (vv 0)) (qa3 (i:=5) sc_pane_by.nd rfl (Or.inl rfl))
   (qaf (qa5 (i:=6) sc_pane_by.nd rfl (Or.inl rfl) (qbd qat (vv 4) (qas Cmixed (hr.mono (by decide)) rfl (vac (vv 5) (vac qab (vac (qeu qdo rfl B.len PyProof.Rows.Boot.«len» (vv 4)) qah))))))
  (qaf (qda (qa7 (qfw hr.units) (qas Cmixed (hr.mono (by decide)) rfl (vac (vv 5) (vac qab (vac qab qah)))) qab)
   (qaj (qa5 (i:=6) sc_pane_by.nd rfl (Or.inl rfl) (qbd qat (vv 4) (qlb qab))))
   qbe)
  (qaf (qa5 (i:=7) sc_pane_by.nd rfl (Or.inl rfl) (qau qba (vv 6) (qa4 (vac (qas Cname_by (hr.mono (by decide)) rfl (vac (vv 1) (vac (qas Cmixed (hr.mono (by decide)) rfl (vac (vv 5) (vac qab (vac (vv 2) qah)))) qah))) qah))))
  (qaj (qda (vw_t (qeh (qhn hr.dict (vv 7) (vv 3)) (qc6 (qa7 q2u (qeu qdo rfl B.len PyProof.Rows.Boot.«len» (vv 7)) qab))))
   (qaf (qa5 (i:=8) sc_pane_by.nd rfl (Or.inl rfl) (qbd qat (qa4 (vac qak (vac qak (vac qak (vac qak (vac qak (vac qak (vac qak qah)))))))) (qas Cmixed (hr.mono (by decide)) rfl (vac (vv 5) (vac qab (vac qab qah))))))
  (qaf (qda (vw_t (qeh (qds (qy5 (i:=3) Cunder_shut (hr.mono (by decide)) rfl (vac (vv 7) qah))) (qc6 (qa7 q2t (vv 8) (qa4 (vac qak (vac qak qah)))))))
   (qaj (qa5 (i:=8) sc_pane_by.nd rfl (Or.inl rfl) qak))
   qbe)
  (qaf (qd7 3 hr.dict (vv 7) (qa4 (vac (vv 8) (vac (qas Ctext_by (hr.mono (by decide)) rfl (vac (vv 8) (vac (vv 5) (vac (vv 1) (vac (vv 2) qah))))) qah))))
  (qaj (qda (qa7 q2t (vv 8) (qa4 (vac qak (vac qak qah))))
   (qaj (qlc 4 (vv 7)))
   qbe)))))
   qbe))))))
  (qaj (qbq (vc_e (qhl (M:=["_law_way"]) (qd6 (qeu (qhm hr.units) rfl B.sorted PyProof.Rows.Boot.«sorted» (qy6 (qob hr.hd) rfl B.list PyProof.Rows.Boot.«list» (vv 3)))) rfl qgk (λcl C s2 H2 fp pn=>(qa3 (i:=9) (qgk).nd rfl (Or.inl rfl))) (λcl C s2 H2 fp pn=>qmt) (λcl C s2 H2 fp pn=>(qau qba (qa4 (vac (vv 9) qah)) (qjz hr.dict (vv 3) (vv 9))))))))))))),qsq⟩
theorem qth(F:Fun K "_law_cells" "_law_cells" qjd f fd)(Ccell_at:Cal P w K mg base 1 "_law_cell_at" ["_law_script","_law_k"] (spOf K qao)):FnOk P w K mg base CX0 2 f fd ["_law_script","_law_first","_law_step","_law_many"] (spOf K qfj) :=
 F.okV quf qqx λcdv A outer s H E hr=>⟨qll,(qaj (qbq (vc_e (qhl (M:=["_law_k"]) (qfv rfl B.range (vv 3)) rfl qki (λcl C s2 H2 fp pn=>(qa3 (i:=4) (qki).nd rfl (Or.inl rfl))) (λcl C s2 H2 fp pn=>qmt) (λcl C s2 H2 fp pn=>(qau qba (qas Ccell_at (hr.mono (by decide)) rfl (vac (vv 0) (vac (qau qba (vv 1) (qau qsk (vv 2) (vv 4))) qah))) (vv 4))))))),qzc⟩
theorem qrc(F:Fun K "copies" "copies" qgc f fd) :FnOk P w K mg base CX0 1 f fd ["panes"] (qjn K):=by
 refine F.okQ qr1 (λvs H Q E ⟨l,as,ps,e,_⟩=>by rw[e];rfl) (λcdv A outer s H vs Q E hr ⟨l,as,ps,e,P,few,k⟩=>?_)
 subst e
 exact⟨_,qaw (qck (qc_e (qi5 (M:=["pane"]) (qi6 (qv 0)) rfl cs_copies0 (λcl C s2 H2 fp pn=>qd1 (i:=1) cs_copies0.nd rfl (Or.inl rfl)) (λcl C s2 H2 fp pn=>qi7) (λcl C s2 H2 fp pn=>qct qdw rfl B.list PyProof.Rows.Boot.«list» (qac (qv 1) qaq))))),qgj rfl rfl P few k⟩
theorem qi0(F:Fun K "__init__" "Glass.__init__" qd2 f fd)(Ccopies:Cal P w K mg base 1 "copies" ["panes"] (qjn K)):FnOk P w K mg base CX0 2 f fd ["self","panes"] (qhe K):=by
 refine F.okQ qjh (λvs H Q E ⟨x,C,dx,l,as,ps,e,_⟩=>by rw[e];rfl) (λcdv A outer s H vs Q E hr ⟨x,C2,dx,l,as,ps,e,hc,ex,P,few,k⟩=>?_)
 subst e
 obtain⟨C,u1,u2,u3⟩:=B.ob_Glass
 cases hc.inj u1
 exact⟨_,qaw (q1u (qv 0) (qdm Ccopies (hr.mono (by decide)) rfl (qac (qv 1) qaq))),.ref l,rfl,l,as,ps,rfl,P,few,λl' as' H' N P'=>⟨.ref x,rfl,x,C2,dx,[],rfl,N.s _ _ ex,u2,u3,by decide,k l' as' H' N P'⟩⟩
theorem qtk(F:Fun K "lay" "Glass.lay" qmj f fd) :FnOk P w K mg base CX0 1 f fd ["self"] (qyz K):=by
 refine F.okQ quh (λvs H Q E ⟨x,ps,G,e,_⟩=>by rw[e];rfl) (λcdv A outer s H vs Q E hr ⟨x,ps,G,e,hg,few,k⟩=>?_)
 subst e
 obtain⟨C,u1,u2,u3⟩:=B.ob_Glass
 obtain⟨C2,dx,l,as,rfl,nd,hc,ex,pa⟩:=hg
 cases hc.inj u1
 have big:1000<sizeLine:=by decide
 exact⟨_,qaw (qdh (qbm PySem.F.plainAttrs_list PySem.F.slot_list_append PySem.F.type_list_append qb5 (qku (qv 0)) (qac (qg5 qaq) qaq))),.ref x,rfl,x,C,dx,_,.ref l,rfl,ex,u2,u3,List.lookup_cons_self,.inl ⟨rfl,_,SqL.of pa.at'⟩,Nat.zero_le _,λp hp=>⟨l,_,.ref p,rfl,rfl,qae hp _ _ _ pa.at',by rw[List.length_map,pa.len];omega,q0g nd hc ex pa hp k⟩⟩
theorem qoz(F:Fun K "panes" "Glass.panes" qg9 f fd)(Ccopies:Cal P w K mg base 1 "copies" ["panes"] (qjn K)):FnOk P w K mg base CX0 2 f fd ["self"] (qmo K):=by
 refine F.okQ qo6 (λvs H Q E ⟨x,ps,G,e,_⟩=>by rw[e];rfl) (λcdv A outer s H vs Q E hr ⟨x,ps,G,e,hg,few,k⟩=>?_)
 subst e
 obtain⟨C,u1,u2,u3⟩:=B.ob_Glass
 obtain⟨C2,dx,l,as,rfl,nd,hc,ex,pa⟩:=hg
 cases hc.inj u1
 exact⟨_,qaw (qck (qdm Ccopies (hr.mono (by decide)) rfl (qac (qku (qv 0)) qaq))),.ref x,rfl,x,C,dx,_,.ref l,rfl,ex,u2,u3,List.lookup_cons_self,l,as,ps,rfl,pa,few,k⟩
theorem qxo(F:Fun K "_law_same" "_law_same" s_same f fd) :FnOk P w K mg base CX0 1 f fd ["_law_found","_law_due"] (spOf K g_same) :=
 F.okV sc_same qta λcdv A outer s H E hr=>⟨qu4,(qaf (qda (vw_t (qj0 (qfe (qds (qfu .list rfl B.isinstance rfl B.list PyProof.Rows.Boot.«list» (vv 0)))) (qho (qa7 (qdq hr.units) (qeu qdo rfl B.len PyProof.Rows.Boot.«len» (vv 0)) (qeu qdo rfl B.len PyProof.Rows.Boot.«len» (vv 1))))))
   (qaj (qbq qk9))
   qbe)
  (qaf (qdr PassesOwn.never rfl (qfv rfl B.range (qeu qdo rfl B.len PyProof.Rows.Boot.«len» (vv 1))) (qa3 (i:=2) sc_same.nd rfl (Or.inl rfl))
   (qaf (qa5 (i:=3) sc_same.nd rfl (Or.inl rfl) (qbd qat (vv 0) (vv 2)))
  (qaf (qda (vw_t (qj0 (qfe (qds (qfu .tuple rfl B.isinstance rfl B.tuple PyProof.Rows.Boot.«tuple» (vv 3)))) (qj0 (qa7 (qdq hr.units) (qeu qdo rfl B.len PyProof.Rows.Boot.«len» (vv 3)) qab) (qho (qfe (qds (qfu .tuple rfl B.isinstance rfl B.tuple PyProof.Rows.Boot.«tuple» (qbd qat (vv 3) qab))))))))
   (qaj (qbq qk9))
   qbe)
  (qaj (qda (vw_t (qj0 (qfe (qds (qfu .str rfl B.isinstance rfl B.str PyProof.Rows.Boot.«str» (qbd qat (vv 3) qab)))) (qj0 (qfe (qds (qfu .str rfl B.isinstance rfl B.str PyProof.Rows.Boot.«str» (qbd qat (vv 3) qab)))) (qho (qa7 (qdq hr.units) (vv 3) (qbd qat (vv 1) (vv 2)))))))
   (qaj (qbq qk9))
   qbe)))))
  (qaj (qbq qk9)))),q2w⟩
theorem qrd(F:Fun K "_law_laid" "_law_laid" qgd f fd) :FnOk P w K mg base CX0 1 f fd ["_law_pane","_law_tree"] (spOf K qe0) :=
 F.okV sc_l_laid qoq λcdv A outer s H E hr=>⟨qmz,(qaf (qdl (i:=2) sc_l_laid.nd rfl (Or.inl rfl) qfd)
  (qaf (qdr PassesOwn.never rfl (qd6 (vv 0)) (qa3 (i:=3) sc_l_laid.nd rfl (Or.inl rfl))
   (qaj (qd7 2 hr.dict (qbd qat (vv 3) qab) (qbd qat (vv 3) qab))))
  (qaf (qdl (i:=4) sc_l_laid.nd rfl (Or.inr rfl) qfd)
  (qaf (qdr PassesOwn.never rfl (qd6 (vv 1)) (qa3 (i:=3) sc_l_laid.nd rfl (Or.inl rfl))
   (qaf (qa5 (i:=5) sc_l_laid.nd rfl (Or.inl rfl) (qsg hr.dict (qbd qat (vv 3) qab) (vv 2)))
  (qaf (qdr PassesOwn.never rfl (qfv rfl B.range (qeu qdo rfl B.len PyProof.Rows.Boot.«len» (qbd qat (vv 3) qab))) (qa3 (i:=6) sc_l_laid.nd rfl (Or.inl rfl))
   (qaj (qda (vw_t (qeh (qsm hr.dict (qee (qbd qat (vv 3) qab) qfx (qfy (vv 6))) (vv 2)) (qc6 (qa7 (qdq hr.units) (qjz hr.dict (vv 2) (qee (qbd qat (vv 3) qab) qfx (qfy (vv 6)))) qak))))
   (qaj (qa5 (i:=5) sc_l_laid.nd rfl (Or.inl rfl) qk9))
   qbe)))
  (qaj (qda (qds (vv 5))
   (qaj (qd7 4 hr.dict (qbd qat (vv 3) qab) (qa4 (vac (qbd qat (vv 3) qab) (vac (qbd qat (vv 3) qab) qah)))))
   qbe)))))
  (qaf (qdr PassesOwn.never rfl (qd6 (vv 0)) (qa3 (i:=3) sc_l_laid.nd rfl (Or.inl rfl))
   (qaj (qda (vw_t (qj0 (qa7 (qfw hr.units) (qbd qat (vv 3) qab) qak) (qho (qa7 (qfw hr.units) (qbd qat (vv 3) qab) qak))))
   (qaj (qd7 4 hr.dict (qbd qat (vv 3) qab) (qa4 (vac (qbd qat (vv 3) qab) (vac (qbd qat (vv 3) qab) qah)))))
   (qaj (qda (vw_t (qeh (qa7 (qdq hr.units) (qbd qat (vv 3) qab) qak) (qc6 (qa7 (qdq hr.units) (qbd qat (vv 3) qab) (qa4 qah)))))
   (qaj (qd7 4 hr.dict (qbd qat (vv 3) qab) (qa4 (vac qak (vac qak qah)))))
   qbe)))))
  (qaj (qbq (vc_e (qhl (M:=["_law_way"]) (qd6 (qeu (qhm hr.units) rfl B.sorted PyProof.Rows.Boot.«sorted» (qy6 (qob hr.hd) rfl B.list PyProof.Rows.Boot.«list» (vv 4)))) rfl qhy (λcl C s2 H2 fp pn=>(qa3 (i:=7) (qhy).nd rfl (Or.inl rfl))) (λcl C s2 H2 fp pn=>qmt) (λcl C s2 H2 fp pn=>(qau qba (qa4 (vac (vv 7) qah)) (qjz hr.dict (vv 4) (vv 7))))))))))))),qu0⟩
theorem qtm(F:Fun K "shown" "shown" qml f fd) :FnOk P w K mg base CX0 1 f fd ["way","mark","text"] (spOf K qfl) :=
 F.okV qui qq0 λcdv A outer s H E hr=>⟨qlm,(qaj (qbq (quw (qa7 (qfw hr.units) (vv 1) qak) (qa4 (vac (vv 0) (vac qak (vac qak qah)))) (qa4 (vac (vv 0) (vac (vv 1) (vac (vv 2) qah))))))),qzf⟩
theorem ql9(F:Fun K "in_order" "in_order" qfp f fd) :FnOk P w K mg base CX0 1 f fd ["entries"] (spOf K qcs) :=
 F.okV qmm qko λcdv A outer s H E hr=>⟨qff,(qaj (qbq (qeu (qhm hr.units) rfl B.sorted PyProof.Rows.Boot.«sorted» (vv 0)))),qph⟩
theorem qma(F:Fun K "marks_of" "marks_of" qfq f fd) :FnOk P w K mg base CX0 1 f fd ["pane"] (spOf K qb9) :=
 F.okV sc_marks_of qkp λcdv A outer s H E hr=>⟨qfg,(qaf (qdl (i:=1) sc_marks_of.nd rfl (Or.inl rfl) qfd)
  (qaf (qdr PassesOwn.never rfl (qd6 (vv 0)) (qsj rfl (qcr (qa3 (i:=2) sc_marks_of.nd rfl (Or.inl rfl)) (qcr (qa3 (i:=3) sc_marks_of.nd rfl (Or.inl rfl)) (qcr (qa3 (i:=4) sc_marks_of.nd rfl (Or.inl rfl)) qmu))))
   (qaj (qd7 1 hr.dict (vv 2) (vv 3))))
  (qaj (qmv 1)))),qpi⟩
theorem qtg(F:Fun K "above" "above" qmg f fd) :FnOk P w K mg base CX0 1 f fd ["way"] (spOf K qen) :=
 F.okV que qqw λcdv A outer s H E hr=>⟨qlk,(qaj (qbq (qee (vv 0) qfx (qfy (qlb qab))))),qzb⟩
theorem qti(F:Fun K "hides" "hides" qmh f fd) :FnOk P w K mg base CX0 1 f fd ["mark"] (spOf K qfk) :=
 F.okV qug qqy λcdv A outer s H E hr=>⟨qih,(qaj (qbq (qoa (qsf quy (vv 0) q2n) (qsh (qsf (qdq hr.units) (vv 0) qak))))),qzd⟩
theorem qhs(F:Fun K "hidden_ways" "hidden_ways" qdi f fd)(Cmarks_of:Cal P w K mg base 1 "marks_of" ["pane"] (spOf K qb9))(Cabove:Cal P w K mg base 1 "above" ["way"] (spOf K qen))(Chides:Cal P w K mg base 1 "hides" ["mark"] (spOf K qfk)):FnOk P w K mg base CX0 2 f fd ["pane","entries"] (spOf K qb3) :=
 F.okV sc_hidden_ways qgv λcdv A outer s H E hr=>⟨qdc,(qaf (qa5 (i:=2) sc_hidden_ways.nd rfl (Or.inl rfl) (qas Cmarks_of (hr.mono (by decide)) rfl (vac (vv 0) qah)))
  (qaf (qdl (i:=3) sc_hidden_ways.nd rfl (Or.inl rfl) qfd)
  (qaf (qdr PassesOwn.never rfl (qd6 (vv 1)) (qsj rfl (qcr (qa3 (i:=4) sc_hidden_ways.nd rfl (Or.inl rfl)) (qcr (qa3 (i:=5) sc_hidden_ways.nd rfl (Or.inl rfl)) (qcr (qa3 (i:=6) sc_hidden_ways.nd rfl (Or.inl rfl)) qmu))))
   (qaj (qda (vw_t (qeh (qa7 (qdq hr.units) (vv 4) (qa4 qah)) (qc6 (vw_t (qj0 (qsm hr.dict (qas Cabove (hr.mono (by decide)) rfl (vac (vv 4) qah)) (vv 3)) (qho (qds (qas Chides (hr.mono (by decide)) rfl (vac (quv hr.dict (vv 2) (qas Cabove (hr.mono (by decide)) rfl (vac (vv 4) qah))) qah)))))))))
   (qaj (qd7 3 hr.dict (vv 4) qk9))
   qbe)))
  (qaj (qmv 3))))),qj1⟩
theorem qiz(F:Fun K "left_alone" "left_alone" qc3 f fd)(Cmarks_of:Cal P w K mg base 1 "marks_of" ["pane"] (spOf K qb9))(Chidden_ways:Cal P w K mg base 2 "hidden_ways" ["pane","entries"] (spOf K qb3)):FnOk P w K mg base CX0 3 f fd ["pane","entries"] (spOf K qbz) :=
 F.okV sc_left_alone qhq λcdv A outer s H E hr=>⟨qdu,(qaf (qa5 (i:=2) sc_left_alone.nd rfl (Or.inr rfl) (qas Cmarks_of (hr.mono (by decide)) rfl (vac (vv 0) qah)))
  (qaf (qa5 (i:=3) sc_left_alone.nd rfl (Or.inr rfl) (qas Chidden_ways (hr.mono (by decide)) rfl (vac (vv 0) (vac (vv 1) qah))))
  (qaj (qbq (vc_e (qhl (M:=["entry"]) (qd6 (vv 1)) rfl qeg (λcl C s2 H2 fp pn=>(qa3 (i:=4) (qeg).nd rfl (Or.inl rfl))) (λcl C s2 H2 fp pn=>(qsi (vw_t (qeh (qhn hr.dict (qbd qat (vv 4) qab) (vv 2)) (qc6 (qhn hr.dict (qbd qat (vv 4) qab) (vv 3))))))) (λcl C s2 H2 fp pn=>(vv 4)))))))),qld⟩
theorem qxn(F:Fun K "laid" "laid" qn1 f fd)(Cshown:Cal P w K mg base 1 "shown" ["way","mark","text"] (spOf K qfl))(Cin_order:Cal P w K mg base 1 "in_order" ["entries"] (spOf K qcs))(Cleft_alone:Cal P w K mg base 3 "left_alone" ["pane","entries"] (spOf K qbz)):FnOk P w K mg base CX0 4 f fd ["pane","tree"] (spOf K qf1) :=
 F.okV sc_laid qnp λcdv A outer s H E hr=>⟨qu2,(qaf (qy9 (i:=2) sc_laid.nd rfl (Or.inl rfl) (qhl (M:=["way","mark","text"]) (qd6 (vv 0)) rfl qf6 (λcl C s2 H2 fp pn=>(qsj rfl (qcr (qa3 (i:=3) (qf6).nd rfl (Or.inl rfl)) (qcr (qa3 (i:=4) (qf6).nd rfl (Or.inl rfl)) (qcr (qa3 (i:=5) (qf6).nd rfl (Or.inl rfl)) qmu))))) (λcl C s2 H2 fp pn=>(qsi (vw_t (qeh (qa7 (qdq hr.units) (vv 3) (qa4 qah)) (qc6 (qa7 (qdq hr.units) (vv 4) qak)))))) (λcl C s2 H2 fp pn=>(qas Cshown (hr.mono (by decide)) rfl (vac (vv 3) (vac (vv 4) (vac (vv 5) qah)))))))
  (qaj (qbq (qas Cin_order (hr.mono (by decide)) rfl (vac (qau qba (qas Cleft_alone (hr.mono (by decide)) rfl (vac (vv 0) (vac (vv 1) qah))) (vv 2)) qah))))),q2v⟩
theorem qht(F:Fun K "seen" "seen" qdj f fd)(Claid:Cal P w K mg base 4 "laid" ["pane","tree"] (spOf K qf1)):FnOk P w K mg base CX0 5 f fd ["panes"] (spOf K qcp) :=
 F.okV sc_seen_laying qgw λcdv A outer s H E hr=>⟨qex,(qaf (qdl (i:=1) sc_seen_laying.nd rfl (Or.inl rfl) (qla qah))
  (qaf (qdr PassesOwn.never rfl (qd6 (vv 0)) (qa3 (i:=2) sc_seen_laying.nd rfl (Or.inl rfl))
   (qza 1 (qaj (qdl (i:=1) sc_seen_laying.nd rfl (Or.inl rfl) (qas Claid (hr.mono (by decide)) rfl (vac (vv 2) (vac (vv 1) qah)))))))
  (qaj (qmv 1)))),qj2⟩
theorem qrg(F:Fun K "seen" "Glass.seen" qjg f fd)(Cseen_laying:Cal P w K mg base 5 "seen_laying" ["panes"] (spOf K qcp)):FnOk P w K mg base CX0 6 f fd ["self"] (qn5 K):=by
 refine F.okQ qr3 (λvs H Q E ⟨x,ps,G,e,_⟩=>by rw[e];rfl) (λcdv A outer s H vs Q E hr ⟨x,ps,G,e,hg,P,k⟩=>?_)
 subst e
 obtain⟨C,u1,u2,u3⟩:=B.ob_Glass
 obtain⟨C2,dx,l,as,rfl,nd,hc,ex,pa⟩:=hg
 cases hc.inj u1
 exact⟨_,qaw (qck (qdm Cseen_laying (hr.mono (by decide)) rfl (qac (qku (qv 0)) qaq))),.ref x,rfl,x,C,dx,_,.ref l,rfl,ex,u2,u3,List.lookup_cons_self,qus pa P k⟩
theorem qtj(F:Fun K "_law_holds" "_law_holds" qmi f fd)(Cm_panes:CalM P w K mg base 2 "panes" ["self"] (qmo K))(Csame:Cal P w K mg base 1 "_law_same" ["_law_found","_law_due"] (spOf K g_same))(Cl_laid:Cal P w K mg base 1 "_law_laid" ["_law_pane","_law_tree"] (spOf K qe0))(Cm_seen:CalM P w K mg base 6 "seen" ["self"] (qn5 K)):FnOk P w K mg base CX0 7 f fd ["_law_glass","_law_panes"] (qmn K):=by
 refine F.okQ sc_holds (λvs H Q E ⟨g,ps,G,l,as,e,_⟩=>by rw[e];rfl) (λcdv A outer s H vs Q E hr ⟨g,ps,G,l,as,e,hg,pa,P,few,k⟩=>?_)
 subst e
 exact⟨_,qam (qc9 (i:=2) sc_holds.nd rfl (Or.inl rfl) (qt3 Cm_panes (hr.mono (by decide)) 0))
  (qam (qf5 (qh_t (vw_t (qj0 (qfe (qds (qfu .list rfl B.isinstance rfl B.list PyProof.Rows.Boot.«list» (vv 2)))) (qho (qa7 (qdq hr.units) (qeu qdo rfl B.len PyProof.Rows.Boot.«len» (vv 2)) (qeu qdo rfl B.len PyProof.Rows.Boot.«len» (vv 1))))))) (qaw (qck qhu)) qcv)
  (qam (qc9 (i:=3) sc_holds.nd rfl (Or.inl rfl) (qg5 qaq))
  (qam (qkv PassesOwn.never rfl (qt5 rfl B.range (qac (qcb qm1 rfl B.len PyProof.Rows.Boot.«len» (qac (qv 1) qaq)) qaq)) (qd1 (i:=4) sc_holds.nd rfl (Or.inl rfl))
   (qam (qf5 (qh_t (qfe (qds (qas Csame (hr.mono (by decide)) rfl (vac (qbd qat (vv 2) (vv 4)) (vac (qbd qat (vv 1) (vv 4)) qah)))))) (qaw (qck qhu)) qcv)
   (qam (qc9 (i:=3) sc_holds.nd rfl (Or.inl rfl) (qh_e (qas Cl_laid (hr.mono (by decide)) rfl (vac (qbd qat (vv 1) (vv 4)) (vac (vv 3) qah)))))
   (qaw (qdh (qbm PySem.F.plainAttrs_list PySem.F.slot_list_append PySem.F.type_list_append qb5 (q1n qqq (qv 2) (qv 4) (λ_ _=>rfl)) (qh_a (vac (qa4 (vac (qa4 qah) (vac qak (vac qak qah)))) qah))))))))
  (qam (qdh (qbm PySem.F.plainAttrs_list PySem.F.slot_list_append PySem.F.type_list_append qb5 (qv 2) (qac (qg5 qaq) qaq)))
  (qam (qc9 (i:=5) sc_holds.nd rfl (Or.inl rfl) (qt3 Cm_seen (hr.mono (by decide)) 0))
  (qam (qf5 (qh_t (qfe (qds (qas Csame (hr.mono (by decide)) rfl (vac (vv 5) (vac (vv 3) qah)))))) (qaw (qck qhu)) qcv)
  (qam (qdh (qbm PySem.F.plainAttrs_list PySem.F.slot_list_append PySem.F.type_list_append qb5 (qv 5) (qh_a (vac (qa4 (vac (qa4 (vac qak qah)) (vac qak (vac qak qah)))) qah))))
  (qaw (qck (qdm Csame (hr.mono (by decide)) rfl (qac (qt3 Cm_seen (hr.mono (by decide)) 0) (qac (qv 3) qaq)))))))))))),qs4 hg pa P few k⟩
theorem qrf(F:Fun K "lift" "Glass.lift" qjf f fd) :FnOk P w K mg base (CXR P w) 1 f fd ["self"] (qn4 K):=by
 refine F.okX qr2 (λvs H Q E ⟨x,ps,G,e,_⟩=>by rw[e];rfl) (λcdv A outer s H vs Q E hr ⟨x,ps,G,e,hg,k0,k1⟩ o=>?_)
 subst e
 obtain⟨C,u1,u2,u3⟩:=B.ob_Glass
 obtain⟨C2,dx,l,as,rfl,nd,hc,ex,pa⟩:=hg
 cases hc.inj u1
 refine⟨_,qam (qf5 (qja (qvq (Nat.lt_of_le_of_lt (Nat.add_le_add_left (by decide:60<=64) _) hr.units)) (qku (qv 0)) (qg5 qaq) (by with_unfolding_all rfl)) (qaw (qt6 B.x_NoPane B.NoPane rfl rfl o (qac qvw qaq))) qcv) (qaw (qck (qbm0 PySem.F.plainAttrs_list PySem.F.slot_list_pop PySem.F.type_list_pop qvp (qku (qv 0))))),?_⟩
 refine⟨.ref x,rfl,x,C,dx,_,.ref l,rfl,ex,u2,u3,List.lookup_cons_self,Nat.zero_le _,λp hp=>⟨qav ps,qav [],pa.rep.same (qae hp _),(q1f qag).rep,qwv _ _,qwz _,_,rfl,?_⟩⟩
 by_cases h0:ps=[]
 ·subst h0
  exact qqp (qch _) ⟨by decide,k0 rfl _ _ (qae hp _) B.k_NoPane⟩
 ·have e:=(List.dropLast_concat_getLast h0).symm
  obtain⟨y,ey,ky⟩:=qxg nd hc ex pa e (qae hp (.lst [])) (k1 _ _ e)
  refine qlw (eqP0 h0) ?_
  exact⟨.ref x,rfl,x,C,dx,_,.ref l,rfl,qae hp _ _ _ ex,u2,u3,List.lookup_cons_self,.inl ⟨rfl,_,SqL.of (qae hp _ _ _ pa.at')⟩,l,_,y,rfl,rfl,qae hp _ _ _ pa.at',ey,ky⟩
theorem qre(F:Fun K "_law_lifted" "_law_lifted" qje f fd)(Cm_lift:CalMX P w K mg base 1 "lift" ["self"] (qn4 K))(Csame:Cal P w K mg base 1 "_law_same" ["_law_found","_law_due"] (spOf K g_same)):FnOk P w K mg base CX0 2 f fd ["_law_glass","_law_panes"] (qjo K):=by
 refine F.okQ sc_lifted (λvs H Q E ⟨g,ps,G,l,as,e,_⟩=>by rw[e];rfl) (λcdv A outer s H vs Q E hr ⟨g,ps,G,l,as,e,hg,pa,dj,P,few,k⟩=>?_)
 subst e
 exact⟨_,qam (q1v (tb:=λEX=>tAsg (tMX K 0 "lift" (qn4 K) EX) (qb1 2)) (λpn E EX po o=>qaw (qc9 (i:=2) sc_lifted.nd rfl (Or.inl rfl) (q3n Cm_lift o (hr.mono (by decide)) 0)))
   (qh_h "NoPane" (q3z (yes:=["NoPane"]) (no:=[]) (i:=3) sc_lifted.nd rfl rfl ⟨.ref cNoPane,B.NoPane,(qek B.k_NoPane B.m_NoPane_NoPane qc0),qc0⟩ rfl (λe pn E=>(qaf (qa5 (i:=4) sc_lifted.nd rfl (Or.inl rfl) (qoa (qy7 (c:=cGlassError) (yes:=["NoPane"]) (no:=[]) (qwu (qek B.k_NoPane B.ek_NoPane qc0) qc0) (qek B.k_NoPane B.o_NoPane_GlassError qc0) qc0 rfl B.isinstance rfl B.GlassError (vv 3)) (qsh (q2m (T:="ValueError") (yes:=["NoPane"]) (no:=[]) (qwu (qek B.k_NoPane B.ek_NoPane qc0) qc0) (qek B.k_NoPane B.i_NoPane_ValueError qc0) qc0 rfl B.isinstance rfl B.ValueError PyProof.Rows.Boot.«ValueError» (vv 3)))))
    (qaj (qbq (qoa (vv 4) (qoa (q2o (qy8 (cs:=[cMissing,cNoRow]) (yes:=[]) (no:=["NoPane"]) (qwu qc0 (qek B.k_NoPane B.ek_NoPane qc0)) qc0 (qek B.k_NoPane B.j_NoPane_Missing_NoRow qc0) (Nat.le_of_ble_eq_true rfl) (qac (qmd (v:=.ref cMissing) rfl B.Missing rfl) (qac (qmd (v:=.ref cNoRow) rfl B.NoRow rfl) qaq)) (λ_ _ _ h=>h) rfl B.isinstance (vv 3))) (qsh (qsf (qfw hr.units) (vv 1) (qla qah))))))))) q2r)))
  (qam (qf5 (qh_t (vw_t (qj0 (qa7 (qfw hr.units) (vv 1) (qla qah)) (qho (qfe (qds (qas Csame (hr.mono (by decide)) rfl (vac (vv 2) (vac (qbd qat (vv 1) (qlb qab)) qah))))))))) (qaw (qck qhu)) qcv)
  (qam (qdh (qbm PySem.F.plainAttrs_list PySem.F.slot_list_append PySem.F.type_list_append qb5 (qv 2) (qh_a (vac (qa4 (vac (qa4 qah) (vac qak (vac qak qah)))) qah))))
  (qaw (qck qhu)))),qqn hg pa dj P few k⟩
theorem q0o(F:Fun K "law" "law" qg8 f fd)(Ccell_at:Cal P w K mg base 1 "_law_cell_at" ["_law_script","_law_k"] (spOf K qao))(Cmixed:Cal P w K mg base 1 "_law_mixed" ["_law_cell","_law_turn","_law_many"] (spOf K qay))(Cpane_by:Cal P w K mg base 3 "_law_pane_by" ["_law_cells_here","_law_stem"] (spOf K qdy))(Ccells:Cal P w K mg base 2 "_law_cells" ["_law_script","_law_first","_law_step","_law_many"] (spOf K qfj))(Cm___init__:CalC P w K mg base 2 "Glass" ["self","panes"] (qhe K))(Cm_lay:CalM P w K mg base 1 "lay" ["self"] (qyz K))(Cholds:Cal P w K mg base 7 "_law_holds" ["_law_glass","_law_panes"] (qmn K))(Clifted:Cal P w K mg base 2 "_law_lifted" ["_law_glass","_law_panes"] (qjo K)):FnOk P w K mg base CX0 8 f fd ["_law_script"] (spOf K qlt):=by
 cases Cm___init__ with
|@mk C0 f0 fd0 FI hc hm M hb =>
 exact F.okV sc_law qxf λcdv A outer s H E hr=>⟨qzn,(qaf (qa5 (i:=1) sc_law.nd rfl (Or.inl rfl) (qau qb6 (qas Ccell_at (hr.mono (by decide)) rfl (vac (vv 0) (vac qab qah))) (qau qsl qab qab)))
  (qaf (qa5 (i:=2) sc_law.nd rfl (Or.inl rfl) (qau qb6 (qas Ccell_at (hr.mono (by decide)) rfl (vac (vv 0) (vac qab qah))) qab))
  (qaf (qda (qa7 (qfw hr.units) (qau qb6 (qau qid (qas Ccell_at (hr.mono (by decide)) rfl (vac (vv 0) (vac qab qah))) qab) qab) qab)
   (qaj (qa5 (i:=2) sc_law.nd rfl (Or.inl rfl) qab))
   qbe)
  (qaf (qdl (i:=3) sc_law.nd rfl (Or.inl rfl) (qla qah))
  (qaf (qdr PassesOwn.never rfl (qfv rfl B.range (vv 2)) (qa3 (i:=4) sc_law.nd rfl (Or.inl rfl))
   (qaf (qa5 (i:=5) sc_law.nd rfl (Or.inl rfl) (qas Cmixed (hr.mono (by decide)) rfl (vac (qau qba (qas Ccell_at (hr.mono (by decide)) rfl (vac (vv 0) (vac qab qah))) (vv 4)) (vac qab (vac qab qah)))))
   (qaj (qlc 3 (qas Cpane_by (hr.mono (by decide)) rfl (vac (qas Ccells (hr.mono (by decide)) rfl (vac (vv 0) (vac (qau qba qab (vv 4)) (vac (vv 2) (vac (vv 5) qah))))) (vac (vv 1) qah)))))))
  (quz ⟨_,qam (qc9 (i:=6) sc_law.nd rfl (Or.inl rfl) (qga qjj (qv 3) qi8 (qi9 (qh_e (qau qb6 (qas Ccell_at (hr.mono (by decide)) rfl (vac (vv 0) (vac qab qah))) (qau qba (vv 2) qab))))))
   (qam (qrt (i:=7) sc_law.nd rfl (Or.inl rfl) (qi5 (M:=["_law_pane"]) (qi6 (qv 3)) rfl cs_law0 (λcl C s2 H2 fp pn=>qd1 (i:=12) cs_law0.nd rfl (Or.inl rfl)) (λcl C s2 H2 fp pn=>qi7) (λcl C s2 H2 fp pn=>qct (r:=rLst K) qdw rfl B.list PyProof.Rows.Boot.«list» (qac (qv 12) qaq))))
   (qam (qc9 (i:=8) sc_law.nd rfl (Or.inl rfl) (q1o M FI (hr.mono (by decide)) rfl hm hb (qac (qv 7) qaq)))
   (qam (qc9 (i:=9) sc_law.nd rfl (Or.inl rfl) (q1o M FI (hr.mono (by decide)) rfl hm hb (qac (qc_e (qi5 (M:=["_law_pane"]) (qi6 (qv 6)) rfl cs_law1 (λcl C s2 H2 fp pn=>qd1 (i:=12) cs_law1.nd rfl (Or.inl rfl)) (λcl C s2 H2 fp pn=>qi7) (λcl C s2 H2 fp pn=>qct (r:=rLst K) qdw rfl B.list PyProof.Rows.Boot.«list» (qac (qv 12) qaq)))) qaq)))
   (qam (qkv PassesOwn.never rfl (qi6 (qv 7)) (qd1 (i:=10) sc_law.nd rfl (Or.inl rfl))
    (qaw (qf5 (qja q0q (qcb qm1 rfl B.len PyProof.Rows.Boot.«len» (qac (qv 10) qaq)) qvt (by with_unfolding_all rfl)) (qaw (qdh (qbm0 PySem.F.plainAttrs_list PySem.F.slot_list_pop PySem.F.type_list_pop qvp (qv 10)))) qcv)))
   (qam (qdh (qbm PySem.F.plainAttrs_list PySem.F.slot_list_append PySem.F.type_list_append qb5 (qv 7) (qac (qg5 (qh_a (vac (qa4 (vac (qa4 qah) (vac qak (vac qak qah)))) qah))) qaq)))
   (qam (qc9 (i:=11) sc_law.nd rfl (Or.inl rfl) (qh_e (qau qb6 (qas Ccell_at (hr.mono (by decide)) rfl (vac (vv 0) (vac qab qah))) qab)))
   (qam (qkv PassesOwn.never rfl (qt5 rfl B.range (qac (qv 11) qaq)) (qd1 (i:=4) sc_law.nd rfl (Or.inl rfl))
    (qam (qf5 (qja qri (qt3 Cm_lay (hr.mono (by decide)) 8) qvu (by with_unfolding_all rfl)) (qaw (qck qhu)) qcv)
    (qaw (qdh (qbm PySem.F.plainAttrs_list PySem.F.slot_list_append PySem.F.type_list_append qb5 (qv 3) (qac (qg5 qaq) qaq))))))
   (qam (qf5 (qw_t (q1y (qkw (qkx (qdm Cholds (hr.mono (by decide)) rfl (qac (qv 8) (qac (qv 3) qaq))))) (qvy (qkw (qkx (qdm Cholds (hr.mono (by decide)) rfl (qac (qv 9) (qac (qv 6) qaq)))))))) (qaw (qck qhu)) qcv)
   (qam (qkv PassesOwn.never rfl (qt5 rfl B.range (qac (qh_e (qau qba (qau qba (vv 2) (vv 11)) qab)) qaq)) (qd1 (i:=4) sc_law.nd rfl (Or.inl rfl))
    (qaw (qf5 (qh_t (qa7 q2s (qas Cmixed (hr.mono (by decide)) rfl (vac (qau qba (qas Ccell_at (hr.mono (by decide)) rfl (vac (vv 0) (vac qab qah))) (vv 4)) (vac qab (vac qab qah)))) qab))
     (qam (qf5 (qkw (qkx (qdm Clifted (hr.mono (by decide)) rfl (qac (qv 8) (qac (qv 3) qaq))))) (qaw (qck qhu)) qcv) (qaw (qc9 (i:=3) sc_law.nd rfl (Or.inl rfl) (qga qjj (qv 3) qi8 (qi9 (qh_e (qlb qab)))))))
     (qam (qf5 (qkw (qkx (qdm Clifted (hr.mono (by decide)) rfl (qac (qv 9) (qac (qv 6) qaq))))) (qaw (qck qhu)) qcv) (qaw (qc9 (i:=6) sc_law.nd rfl (Or.inl rfl) (qga qjj (qv 6) qi8 (qi9 (qh_e (qlb qab))))))))))
   (qaw (qck (qvs (qdm Cholds (hr.mono (by decide)) rfl (qac (qv 8) (qac (qv 3) qaq))) (qvv (qdm Cholds (hr.mono (by decide)) rfl (qac (qv 9) (qac (qv 6) qaq)))))))))))))))),qyu hc⟩)))))),q30⟩
end
theorem q32{l:PySem.W.OpenLaw}{w:World}{K:PySem.W.Frag}{h:Heap}{mg:Str->Option Value}{fa:Addr}(X:K.In h)(G:h.Ns mainGlobals mg)(hfa:mg "law" = some (.ref fa))
  {f27:Addr} {od27 an27:Option Addr} {sl27:Array (Option Value)} {oc27 kV27 dc27 pm27 cd27 ct27:Value}
  {cGlassError:Addr}
  {cMissing:Addr}
  {cNoPane:Addr}
  {cNoRow:Addr}
  {cGlass:Addr}
  (d1:qcy K "above" qmg)
  (d2:qcy K "in_order" qfp)
  (d3:qcy K "marks_of" qfq)
  (d4:qcy K "hides" qmh)
  (d5:qcy K "hidden_ways" qdi)
  (d6:qcy K "left_alone" qc3)
  (d7:qcy K "copies" qgc)
  (d8:qcy K "shown" qml)
  (d9:qcy K "laid" qn1)
  (d10:qwi K "seen_laying" "seen" qdj)
  (d11:MethAt K cGlass "__init__" "Glass.__init__" qd2)
  (d12:MethAt K cGlass "seen" "Glass.seen" qjg)
  (d13:MethAt K cGlass "panes" "Glass.panes" qg9)
  (d14:MethAt K cGlass "lay" "Glass.lay" qmj)
  (d15:MethAt K cGlass "lift" "Glass.lift" qjf)
  (d16:qcy K "_law_cell_at" qg7)
  (d17:qcy K "_law_cells" qjd)
  (d18:qcy K "_law_mixed" qmk)
  (d19:qcy K "_law_name_by" qha)
  (d20:qcy K "_law_text_by" qhb)
  (d21:qcy K "_law_under_shut" qd3)
  (d22:qcy K "_law_pane_by" qe6)
  (d23:qcy K "_law_laid" qgd)
  (d24:qcy K "_law_same" s_same)
  (d25:qcy K "_law_holds" qmi)
  (d26:qcy K "_law_lifted" qje)
  (a27:PySem.W.nsIn K mainGlobals "law" = some (some (.ref f27))) (l27:K.lookup f27=some ⟨oc27,od27,.func (PySem.W.fnOf "law" "law" (qb8 qg8) (qbl qg8) (qad qg8) .none kV27 dc27 pm27 an27 cd27 ct27),sl27⟩) (c27:PySem.W.codeIn K cd27 "law" = true) (k27:PySem.W.keepIn K (.ref f27)=true)
  (q_GlassError:PySem.W.nsIn K mainGlobals "GlassError" = some (some (.ref cGlassError)))
  (q_Missing:PySem.W.nsIn K mainGlobals "Missing" = some (some (.ref cMissing)))
  (q_NoPane:PySem.W.nsIn K mainGlobals "NoPane" = some (some (.ref cNoPane)))
  (q_NoRow:PySem.W.nsIn K mainGlobals "NoRow" = some (some (.ref cNoRow)))
  (q_Glass:PySem.W.nsIn K mainGlobals "Glass" = some (some (.ref cGlass)))
  (x_NoPane:OwnX K cNoPane)
  (ek_NoPane:ExcK K cNoPane)
  (m_NoPane_NoPane:PySem.W.exmOne K (.ref cNoPane) (.ref cNoPane)=some true)
  (o_NoPane_GlassError:PySem.W.kitOne K (.ref cNoPane) (.ref cGlassError)=some true)
  (i_NoPane_ValueError:PySem.W.kitOne K (.ref cNoPane) (.type "ValueError")=some true)
  (j_NoPane_Missing_NoRow:PySem.W.kitAny K (.ref cNoPane) [(.ref cMissing),(.ref cNoRow)]=some false)
  (o_pg:PySem.W.plainGet K cGlass Str.empty=true)
  (o_hd:PySem.W.hasDictIn K cGlass=true)
  (o_po:PySem.W.plainOver K cGlass=true)
  (o_sa:PySem.W.findIn K (.ref cGlass) "__setattr__" = some (some (.builtin "object.__setattr__")))
  (o_mk:PySem.W.makesIn K cGlass=true)
  (o_kc:PySem.W.keepIn K (.ref cGlass)=true)
  (o_nl:PySem.W.findIn K (.ref cGlass) "layers" = some none)
  (z_ValueError:PySem.W.nsIn K mainGlobals "ValueError" = some none)
  (z_isinstance:PySem.W.nsIn K mainGlobals "isinstance" = some none)
  (z_len:PySem.W.nsIn K mainGlobals "len" = some none)
  (z_list:PySem.W.nsIn K mainGlobals "list" = some none)
  (z_range:PySem.W.nsIn K mainGlobals "range" = some none)
  (z_sorted:PySem.W.nsIn K mainGlobals "sorted" = some none)
  (z_str:PySem.W.nsIn K mainGlobals "str" = some none)
  (z_tuple:PySem.W.nsIn K mainGlobals "tuple" = some none) :
  ∃fd:FuncData,(∀(s:Shared) (v:Value),BindsTo s fd ⟨[v],[]⟩ [("_law_script",v)])/\∀base:Heap,K.In base->base.Ns mainGlobals mg->FnOk l.prog w K mg base CX0 8 fa fd ["_law_script"] (spOf K qlt):=by
 have e:=hfa.symm.trans (PySem.W.mg_of X G a27)
 cases e
 have B:Blt K mg cGlassError cMissing cNoPane cNoRow cGlass:=⟨PySem.W.mg_of X G q_GlassError,q_GlassError,PySem.W.mg_of X G q_Missing,q_Missing,PySem.W.mg_of X G q_NoPane,q_NoPane,PySem.W.mg_of X G q_NoRow,q_NoRow,PySem.W.mg_of X G q_Glass,q_Glass,x_NoPane,ek_NoPane,m_NoPane_NoPane,o_NoPane_GlassError,i_NoPane_ValueError,j_NoPane_Missing_NoRow,⟨cGlass,q_Glass,⟨o_pg,o_hd,o_po,o_sa⟩,o_nl⟩,PySem.W.mg_none_of X G z_ValueError,PySem.W.mg_none_of X G z_isinstance,PySem.W.mg_none_of X G z_len,PySem.W.mg_none_of X G z_list,PySem.W.mg_none_of X G z_range,PySem.W.mg_none_of X G z_sorted,PySem.W.mg_none_of X G z_str,PySem.W.mg_none_of X G z_tuple⟩
 have F27:=qni (st:=qg8) l27 c27 k27
 have b27:=F27.binds1 (ps:=["_law_script"]) rfl λ_ _ _ _ _ _ _=>rfl
 refine⟨PySem.W.fnOf "law" "law" (qb8 qg8) (qbl qg8) (qad qg8) .none kV27 dc27 pm27 an27 cd27 ct27,λs v=>.of_eq rfl,λbase _ _=>?_⟩
 have Ccell_at:=calD l.prog w base X G d16 (λF=>qoy B F) λF=>F.binds2 (ps:=["_law_script","_law_k"]) rfl λ_ _ _ _ _ _ _ _=>rfl
 have Cmixed:=calD l.prog w base X G d18 (λF=>qtl B F) λF=>F.binds3 (ps:=["_law_cell","_law_turn","_law_many"]) rfl λ_ _ _ _ _ _ _ _ _=>rfl
 have Cname_by:=calD l.prog w base X G d19 (λF=>qo0 B F) λF=>F.binds2 (ps:=["_law_stem","_law_v"]) rfl λ_ _ _ _ _ _ _ _=>rfl
 have Cunder_shut:=calD l.prog w base X G d21 (λF=>qi1 B F) λF=>F.binds2 (ps:=["_law_things","_law_way"]) rfl λ_ _ _ _ _ _ _ _=>rfl
 have Ctext_by:=calD l.prog w base X G d20 (λF=>qo2 B F Cmixed Cname_by) λF=>F.binds4 (ps:=["_law_mark","_law_cell","_law_stem","_law_wide"]) rfl λ_ _ _ _ _ _ _ _ _ _=>rfl
 have Cpane_by:=calD l.prog w base X G d22 (λF=>qo1 B F Cmixed Cname_by Cunder_shut Ctext_by) λF=>F.binds2 (ps:=["_law_cells_here","_law_stem"]) rfl λ_ _ _ _ _ _ _ _=>rfl
 have Ccells:=calD l.prog w base X G d17 (λF=>qth B F Ccell_at) λF=>F.binds4 (ps:=["_law_script","_law_first","_law_step","_law_many"]) rfl λ_ _ _ _ _ _ _ _ _ _=>rfl
 have Ccopies:=calD l.prog w base X G d7 (λF=>qrc B F) λF=>F.binds1 (ps:=["panes"]) rfl λ_ _ _ _ _ _ _=>rfl
 have Cm___init__:=calC l.prog w base X G q_Glass o_mk o_kc d11 (λF=>qi0 B F Ccopies) λF=>F.binds2 (ps:=["self","panes"]) rfl λ_ _ _ _ _ _ _ _=>rfl
 have Cm_lay:=calM l.prog w base q_Glass ⟨o_pg,o_hd,o_po,o_sa⟩ d14 (λF=>qtk B F) λF=>F.binds1 (ps:=["self"]) rfl λ_ _ _ _ _ _ _=>rfl
 have Cm_panes:=calM l.prog w base q_Glass ⟨o_pg,o_hd,o_po,o_sa⟩ d13 (λF=>qoz B F Ccopies) λF=>F.binds1 (ps:=["self"]) rfl λ_ _ _ _ _ _ _=>rfl
 have Csame:=calD l.prog w base X G d24 (λF=>qxo B F) λF=>F.binds2 (ps:=["_law_found","_law_due"]) rfl λ_ _ _ _ _ _ _ _=>rfl
 have Cl_laid:=calD l.prog w base X G d23 (λF=>qrd B F) λF=>F.binds2 (ps:=["_law_pane","_law_tree"]) rfl λ_ _ _ _ _ _ _ _=>rfl
 have Cshown:=calD l.prog w base X G d8 (λF=>qtm B F) λF=>F.binds3 (ps:=["way","mark","text"]) rfl λ_ _ _ _ _ _ _ _ _=>rfl
 have Cin_order:=calD l.prog w base X G d2 (λF=>ql9 B F) λF=>F.binds1 (ps:=["entries"]) rfl λ_ _ _ _ _ _ _=>rfl
 have Cmarks_of:=calD l.prog w base X G d3 (λF=>qma B F) λF=>F.binds1 (ps:=["pane"]) rfl λ_ _ _ _ _ _ _=>rfl
 have Cabove:=calD l.prog w base X G d1 (λF=>qtg B F) λF=>F.binds1 (ps:=["way"]) rfl λ_ _ _ _ _ _ _=>rfl
 have Chides:=calD l.prog w base X G d4 (λF=>qti B F) λF=>F.binds1 (ps:=["mark"]) rfl λ_ _ _ _ _ _ _=>rfl
 have Chidden_ways:=calD l.prog w base X G d5 (λF=>qhs B F Cmarks_of Cabove Chides) λF=>F.binds2 (ps:=["pane","entries"]) rfl λ_ _ _ _ _ _ _ _=>rfl
 have Cleft_alone:=calD l.prog w base X G d6 (λF=>qiz B F Cmarks_of Chidden_ways) λF=>F.binds2 (ps:=["pane","entries"]) rfl λ_ _ _ _ _ _ _ _=>rfl
 have Claid:=calD l.prog w base X G d9 (λF=>qxn B F Cshown Cin_order Cleft_alone) λF=>F.binds2 (ps:=["pane","tree"]) rfl λ_ _ _ _ _ _ _ _=>rfl
 have Cseen_laying:=q21 l.prog w base X G d10 (λF=>qht B F Claid) λF=>F.binds1 (ps:=["panes"]) rfl λ_ _ _ _ _ _ _=>rfl
 have Cm_seen:=calM l.prog w base q_Glass ⟨o_pg,o_hd,o_po,o_sa⟩ d12 (λF=>qrg B F Cseen_laying) λF=>F.binds1 (ps:=["self"]) rfl λ_ _ _ _ _ _ _=>rfl
 have Cholds:=calD l.prog w base X G d25 (λF=>qtj B F Cm_panes Csame Cl_laid Cm_seen) λF=>F.binds2 (ps:=["_law_glass","_law_panes"]) rfl λ_ _ _ _ _ _ _ _=>rfl
 have Cm_lift:=q22 l.prog w base q_Glass ⟨o_pg,o_hd,o_po,o_sa⟩ d15 (λF=>qrf B F) λF=>F.binds1 (ps:=["self"]) rfl λ_ _ _ _ _ _ _=>rfl
 have Clifted:=calD l.prog w base X G d26 (λF=>qre B F Cm_lift Csame) λF=>F.binds2 (ps:=["_law_glass","_law_panes"]) rfl λ_ _ _ _ _ _ _ _=>rfl
 exact q0o B F27 Ccell_at Cmixed Cpane_by Ccells Cm___init__ Cm_lay Cholds Clifted
theorem walk{l:PySem.W.OpenLaw}{q:Program}{loose:List Str}{XP:(Str->Option Value)->Heap->Prop}{YP:World->Heap->Prop}{d:DefRec}{K:Params->PySem.W.Frag}(hn:l.most=some 63)(hdf:d.params.defaults=[])
  (hY:∀(w:World) (h:Heap),YP w h->(K w.params).In h)
  (F:∀(w:World) (mg:Str->Option Value) (fa:Addr) (h:Heap),(K w.params).In h->h.Ns mainGlobals mg->mg d.name=some (.ref fa) ->
   ∃fd:FuncData,(∀(s:Shared) (u:Value),BindsTo s fd ⟨[u],[]⟩ [("_law_script",u)])/\∀base:Heap,(K w.params).In base->base.Ns mainGlobals mg->FnOk l.prog w (K w.params) mg base CX0 8 fa fd ["_law_script"] (spOf (K w.params) qlt)) :
  PySem.W.WalkO q loose XP YP l.row.toRowW d [] (λf vs=>PySem.call f vs) :=
 L2.q31 (n:=63) (k:=8) (x:="_law_script") (CX:=λ_=>CX0) (sp:=λw=>spOf (K w.params) qlt) hn (by decide) hdf ⟨rfl,by decide,by decide⟩ hY F (λw H a ns hl _ hS=>q0f ns hl hS) λ_ _ _ _ _ z=>z
end K70
local macro_rules|`(tactic| ac_rfl)=>`(tactic| (refine' L2.q35 ?a ?b ?c ?d;(case a=>k_is);(case b=>k_is);(case c=>k_is);(case d=>k_is)))
open PySem PySem.W PyProof.Rows
set_option maxRecDepth 100000 in
set_option maxHeartbeats 0 in
def PySem.W.Fast.tw11886085177594036817 := ()
def PySem.W.Fast.tw11570556730228035968 := ()
def PySem.W.Fast.tw13808580902993828521 := ()
def PySem.W.Fast.tw850426719027289004 := ()
def PySem.W.Fast.tw16477160653411634336 := ()
def PySem.W.Fast.tw6756830378560840903 := ()
def PySem.W.Fast.tw87588991487428986 := ()
def PySem.W.Fast.tw318673693190114875 := ()
def PySem.W.Fast.tw12100582231703680593 := ()
def PySem.W.Fast.tw16179709407404711953 := ()
def PySem.W.Fast.tw3086670554093641758 := ()
def PySem.W.Fast.tw10025492426083061445 := ()
def PySem.W.Fast.tw13949128346437047 := ()
def PySem.W.Fast.tw17623868408512510167 := ()
def PySem.W.Fast.tw5519256824334514396 := ()
def PySem.W.Fast.tw15316392969375412986 := ()
def PySem.W.Fast.tw9569354042750849724 := ()
def PySem.W.Fast.tw7230081899611283046 := ()
def PySem.W.Fast.tw6972774175702081965 := ()
def PySem.W.Fast.tw9909395569773574434 := ()
def PySem.W.Fast.tw12272398341727668565 := ()
def PySem.W.Fast.tw1464441897295106308 := ()
def PySem.W.Fast.tw4745148729164008034 := ()
def PySem.W.Fast.tw18340378681217168861 := ()
def PySem.W.Fast.tw9554956680775843555 := ()
def PySem.W.Fast.tw9035533226831162251 := ()
def PySem.W.Fast.tw10529967655202611116 := ()
def PySem.W.Fast.tw17657584467857478696 := ()
def PySem.W.Fast.tw10648213447128627197 := ()
def PySem.W.Fast.tw874565143757562949 := ()
def PySem.W.Fast.tw14133588370667980862 := ()
def PySem.W.Fast.tw10990009905578087057 := ()
def PySem.W.Fast.tw1440268473663223836 := ()
def PySem.W.Fast.tw5127639938819010166 := ()
def PySem.W.Fast.tw4244976901475500863 := ()
def PySem.W.Fast.tw9248903567866044069 := ()
def PySem.W.Fast.tw11025802871359118207 := ()
def PySem.W.Fast.tw17030782170938551336 := ()
def PySem.W.Fast.tw11357749861413668814 := ()
def PySem.W.Fast.tw5489473151276499648 := ()
def PySem.W.Fast.tw3068228470202950055 := ()
def PySem.W.Fast.tw18381020278738578747 := ()
def PySem.W.Fast.tw10773641865504087329 := ()
def PySem.W.Fast.tw14658913101770850652 := ()
def PySem.W.Fast.tw14673171736912236417 := ()
def PySem.W.Fast.tw180488500969375293 := ()
def PySem.W.Fast.tw161710647405320891 := ()
def PySem.W.Fast.tw6507281313373247932 := ()
def PySem.W.Fast.tw5032478734441282 := ()
def PySem.W.Fast.tw3566845276004020907 := ()
def PySem.W.Fast.tw10429471328011656141 := ()
def PySem.W.Fast.tw5192028532638224398 := ()
def PySem.W.Fast.tw6227353580484138909 := ()
def PySem.W.Fast.tw543332097979928013 := ()
def PySem.W.Fast.tw8258461431850834204 := ()
def PySem.W.Fast.tw1531430909649190570 := ()
def PySem.W.Fast.tw4901180605424053185 := ()
def PySem.W.Fast.tw2067704856421836594 := ()
def PySem.W.Fast.tw1690687799230582245 := ()
def PySem.W.Fast.tw12579576130579585599 := ()
def PySem.W.Fast.tw600801451734903161 := ()
def PySem.W.Fast.tw1251556961277560468 := ()
def PySem.W.Fast.tw6536467218969448393 := ()
def PySem.W.Fast.tw11718119720982103870 := ()
def PySem.W.Fast.tw1080811145663516913 := ()
def PySem.W.Fast.tw13678701960086326792 := ()
def PySem.W.Fast.tw14262628901974954343 := ()
def PySem.W.Fast.tw12376444876896672565 := ()
def PySem.W.Fast.tw535260767866707436 := ()
def PySem.W.Fast.tw14560836050422369820 := ()
def PySem.W.Fast.tw17220777398887801430 := ()
def PySem.W.Fast.tw15327914501802197403 := ()
def PySem.W.Fast.tw11986654450628339182 := ()
def PySem.W.Fast.tw3340258881861966093 := ()
def PySem.W.Fast.tw2392556747971117078 := ()
def PySem.W.Fast.tw9456878618173573992 := ()
def PySem.W.Fast.tw1462418404404699660 := ()
def PySem.W.Fast.tw356088249118209874 := ()
def PySem.W.Fast.tw1173493801411899937 := ()
def PySem.W.Fast.tw3350411216680111509 := ()
def PySem.W.Fast.tw17553405678613181112 := ()
def PySem.W.Fast.tw18116048462047184712 := ()
def PySem.W.Fast.tw9487116256413085901 := ()
def PySem.W.Fast.tw17018259024628746087 := ()
def PySem.W.Fast.tw3225019479754129611 := ()
def PySem.W.Fast.tw7083666801487194960 := ()
def PySem.W.Fast.tw10453425091503293637 := ()
def PySem.W.Fast.tw15303208467156040733 := ()
def PySem.W.Fast.tw6681040263677640635 := ()
def PySem.W.Fast.tw16429497385350569400 := ()
def PySem.W.Fast.tw9142321677932555306 := ()
def PySem.W.Fast.tw8417074616968291876 := ()
def PySem.W.Fast.tw4076466462552558386 := ()
def PySem.W.Fast.tw6794870755648916553 := ()
def PySem.W.Fast.tw8150269698250356642 := ()
def PySem.W.Fast.tw5354438342813421892 := ()
def PySem.W.Fast.tw723590607186696250 := ()
def PySem.W.Fast.tw4275894291312004732 := ()
def PySem.W.Fast.tw14012583271205293110 := ()
def PySem.W.Fast.tw11165533596115710099 := ()
def PySem.W.Fast.tw4541749618858869725 := ()
def PySem.W.Fast.tw9604292218375139421 := ()
def PySem.W.Fast.tw10114654001763018327 := ()
def PySem.W.Fast.tw10562007818628265469 := ()
def PySem.W.Fast.tw17106424936332906076 := ()
def PySem.W.Fast.tw5497569057668272084 := ()
def PySem.W.Fast.tw16172386259668549028 := ()
def PySem.W.Fast.tw14308462652466298447 := ()
def PySem.W.Fast.tw356172813972251186 := ()
def PySem.W.Fast.tw8172234954675736225 := ()
def PySem.W.Fast.tw18295328482993037884 := ()
def PySem.W.Fast.tw10989781066306043252 := ()
def PySem.W.Fast.tw3903504414637602405 := ()
def PySem.W.Fast.tw10069135907033481798 := ()
def PySem.W.Fast.tw18265103043864552399 := ()
def PySem.W.Fast.tw11502355099503965930 := ()
def PySem.W.Fast.tw14756875170389062023 := ()
def PySem.W.Fast.tw2681230895686499549 := ()
def PySem.W.Fast.tw15868230132718761622 := ()
def PySem.W.Fast.tw1078542230928090169 := ()
def PySem.W.Fast.tw2616263136944530182 := ()
def PySem.W.Fast.tw2922489959200440348 := ()
def PySem.W.Fast.tw16900049173358400360 := ()
def PySem.W.Fast.tw13191498264190258238 := ()
def PySem.W.Fast.tw11439159509775999760 := ()
def PySem.W.Fast.tw4402547831489622849 := ()
def PySem.W.Fast.tw16958179963675850547 := ()
def PySem.W.Fast.tw3877150960141056587 := ()
def PySem.W.Fast.tw16986057014397426887 := ()
def PySem.W.Fast.tw10845027274628013013 := ()
def PySem.W.Fast.tw17888396810104427641 := ()
def PySem.W.Fast.tw5578779080355975172 := ()
def PySem.W.Fast.tw8815753075223322793 := ()
def PySem.W.Fast.tw12218254604792340828 := ()
def PySem.W.Fast.tw15198518725539181109 := ()
def PySem.W.Fast.tw6956085515160163088 := ()
def PySem.W.Fast.tw16155575943604514563 := ()
def PySem.W.Fast.tw16349359116957286134 := ()
def PySem.W.Fast.tw6787246105527623854 := ()
def PySem.W.Fast.tw13604999324284590229 := ()
def PySem.W.Fast.tw6270662049057534219 := ()
def PySem.W.Fast.tw2782858794617873582 := ()
def PySem.W.Fast.tw5365485514496071226 := ()
def PySem.W.Fast.tw17183781222052256404 := ()
def PySem.W.Fast.tw5482684601881327280 := ()
def PySem.W.Fast.tw4124942855802922914 := ()
def PySem.W.Fast.tw6988820176539741077 := ()
def PySem.W.Fast.tw5378618423723126670 := ()
def PySem.W.Fast.tw11654868706177221042 := ()
def PySem.W.Fast.tw750877148837968834 := ()
def PySem.W.Fast.tw5999066468495006267 := ()
def PySem.W.Fast.tw18334168433935457641 := ()
def PySem.W.Fast.tw5378612935909780331 := ()
def PySem.W.Fast.tw17233580653414969793 := ()
def PySem.W.Fast.tw17864037417363293485 := ()
def PySem.W.Fast.tw18365194213352522681 := ()
def PySem.W.Fast.tw7703279332124147472 := ()
def PySem.W.Fast.tw6295272698618508860 := ()
def PySem.W.Fast.tw7870030108276669239 := ()
def PySem.W.Fast.tw3268197210332405768 := ()
def PySem.W.Fast.tw5800375393165421157 := ()
def PySem.W.Fast.tw17548455927376956053 := ()
def PySem.W.Fast.tw16836104965377051682 := ()
def PySem.W.Fast.tw16418667094188461794 := ()
def PySem.W.Fast.tw6716532566501324202 := ()
def PySem.W.Fast.tw6461085253096723430 := ()
def PySem.W.Fast.tw5585279028465682108 := ()
def PySem.W.Fast.tw17133721238161132543 := ()
def PySem.W.Fast.tw15309042410063856882 := ()
def PySem.W.Fast.tw592320948076253974 := ()
def PySem.W.Fast.tw2242698162743289038 := ()
def PySem.W.Fast.tw1957747394832310699 := ()
def PySem.W.Fast.tw4190661228636027985 := ()
def PySem.W.Fast.tw4376948156438991963 := ()
def PySem.W.Fast.tw11546228792079354905 := ()
def PySem.W.Fast.tw11324155541743210057 := ()
def PySem.W.Fast.tw7524208276493935694 := ()
def PySem.W.Fast.tw5929785976047414763 := ()
def PySem.W.Fast.tw4290610691421809735 := ()
def PySem.W.Fast.tw354238341663725107 := ()
def PySem.W.Fast.tw13926992657738101320 := ()
def PySem.W.Fast.tw11152418590776445801 := ()
def PySem.W.Fast.tw7225031849362772093 := ()
def PySem.W.Fast.tw15311367578656251935 := ()
def PySem.W.Fast.tw8713191678080165589 := ()
def PySem.W.Fast.tw8226654190608706388 := ()
def PySem.W.Fast.tw3209826266541795653 := ()
def PySem.W.Fast.tw2599868181165877922 := ()
def PySem.W.Fast.tw1628384489062642530 := ()
def PySem.W.Fast.tw7634428081622295992 := ()
def PySem.W.Fast.tw7226518756361940967 := ()
def PySem.W.Fast.tw6430463897951222856 := ()
def PySem.W.Fast.tw1874602437788832549 := ()
def PySem.W.Fast.tw12987621473784156097 := ()
def PySem.W.Fast.tw5408761946262751441 := ()
def PySem.W.Fast.tw656107547597897668 := ()
def PySem.W.Fast.tw3200357339028745155 := ()
def PySem.W.Fast.tw12383974161103073378 := ()
def PySem.W.Fast.tw7408548000267793921 := ()
def PySem.W.Fast.tw566838888511498127 := ()
def PySem.W.Fast.tw1964659712688370157 := ()
def PySem.W.Fast.tw18313114822362160307 := ()
def PySem.W.Fast.tw16164521417390985961 := ()
def PySem.W.Fast.tw9867057890973974336 := ()
def PySem.W.Fast.tw9791743341759719671 := ()
def PySem.W.Fast.tw9687077958921367110 := ()
def PySem.W.Fast.tw946106757150423837 := ()
def PySem.W.Fast.tw8785013630294693306 := ()
def PySem.W.Fast.tw8771855619027846352 := ()
def PySem.W.Fast.tw8680312227430764227 := ()
def PySem.W.Fast.tw8671676986006723624 := ()
def PySem.W.Fast.tw8621825447882485594 := ()
def PySem.W.Fast.tw8326525623262985460 := ()
def PySem.W.Fast.tw8264675818697860078 := ()
def PySem.W.Fast.tw7915910385339931575 := ()
def PySem.W.Fast.tw7621569944083233268 := ()
def PySem.W.Fast.tw7615401752766907216 := ()
def PySem.W.Fast.tw7343273913388231976 := ()
def PySem.W.Fast.tw7336377810293267692 := ()
def PySem.W.Fast.tw7283543031674744393 := ()
def PySem.W.Fast.tw7073611743178565178 := ()
def PySem.W.Fast.tw7022948491746270738 := ()
def PySem.W.Fast.tw6955047563519722984 := ()
def PySem.W.Fast.tw6871014554000768842 := ()
def PySem.W.Fast.tw6858063216693104680 := ()
def PySem.W.Fast.tw6006117517629072263 := ()
def PySem.W.Fast.tw5886628756587762541 := ()
def PySem.W.Fast.tw5806790323646880551 := ()
def PySem.W.Fast.tw5715023719033679969 := ()
def PySem.W.Fast.tw5330569866062562850 := ()
def PySem.W.Fast.tw5132167988174772341 := ()
def PySem.W.Fast.tw4401750296699648852 := ()
def PySem.W.Fast.tw4401692005199215911 := ()
def PySem.W.Fast.tw3977810017985673201 := ()
def PySem.W.Fast.tw3639964732944167655 := ()
def PySem.W.Fast.tw3492018579547124210 := ()
def PySem.W.Fast.tw3087977375713028763 := ()
def PySem.W.Fast.tw3070076056889817556 := ()
def PySem.W.Fast.tw2883128505986934474 := ()
def PySem.W.Fast.tw2802691825266317668 := ()
theorem PySem.Challenge.cw_glasslayers_k70_the_glass_holds_holds : PySem.Challenge.rw_glasslayers_k70_the_glass_holds.Holds := by
 w_on;o_law;k_head;(case hw=>w_witness2)
 k_fill
 refine K70.walk (l:=PySem.Challenge.rw_glasslayers_k70_the_glass_holds) rfl rfl (λw h Y=>PySem.W.kIn_of Y) ?F
 case F =>
  intro w mg fa h KX G hmg
  refine' K70.q32 KX G hmg ?d1 ?d2 ?d3 ?d4 ?d5 ?d6 ?d7 ?d8 ?d9 ?d10 ?d11 ?d12 ?d13 ?d14 ?d15 ?d16 ?d17 ?d18 ?d19 ?d20 ?d21 ?d22 ?d23 ?d24 ?d25 ?d26 ?a27 ?l27 ?c27 ?k27 ?q_GlassError ?q_Missing ?q_NoPane ?q_NoRow ?q_Glass ?x_NoPane ?ek_NoPane ?m_NoPane_NoPane ?o_NoPane_GlassError ?i_NoPane_ValueError ?j_NoPane_Missing_NoRow ?o_pg ?o_hd ?o_po ?o_sa ?o_mk ?o_kc ?o_nl ?z_ValueError ?z_isinstance ?z_len ?z_list ?z_range ?z_sorted ?z_str ?z_tuple
  (case d1=>ac_rfl)
  (case d2=>ac_rfl)
  (case d3=>ac_rfl)
  (case d4=>ac_rfl)
  (case d5=>ac_rfl)
  (case d6=>ac_rfl)
  (case d7=>ac_rfl)
  (case d8=>ac_rfl)
  (case d9=>ac_rfl)
  (case d10=>refine' L2.q34 ?a ?b ?c ?d;(case a=>k_is);(case b=>k_is);(case c=>k_is);(case d=>k_is))
  (case d16=>ac_rfl)
  (case d17=>ac_rfl)
  (case d18=>ac_rfl)
  (case d19=>ac_rfl)
  (case d20=>ac_rfl)
  (case d21=>ac_rfl)
  (case d22=>ac_rfl)
  (case d23=>ac_rfl)
  (case d24=>ac_rfl)
  (case d25=>ac_rfl)
  (case d26=>ac_rfl)
  (case a27=>k_is)
  (case l27=>k_is)
  (case c27=>k_is)
  (case k27=>k_is)
  (case q_GlassError=>k_is)
  (case q_Missing=>k_is)
  (case q_NoPane=>k_is)
  (case q_NoRow=>k_is)
  (case q_Glass=>k_is)
  (case x_NoPane=>(delta L2.OwnX;k_exc))
  (case ek_NoPane=>exact⟨by k_is,by k_is,by k_is,by k_is,by k_is,by k_is⟩)
  (case m_NoPane_NoPane=>kts_exm)
  (case o_NoPane_GlassError=>kit_is)
  (case i_NoPane_ValueError=>kit_is)
  (case j_NoPane_Missing_NoRow=>kit_is)
  (case o_pg=>k_is)
  (case o_hd=>k_is)
  (case o_po=>k_is)
  (case o_sa=>k_is)
  (case o_mk=>k_is)
  (case o_kc=>k_is)
  (case o_nl=>k_is)
  (case z_ValueError=>k_is)
  (case z_isinstance=>k_is)
  (case z_len=>k_is)
  (case z_list=>k_is)
  (case z_range=>k_is)
  (case z_sorted=>k_is)
  (case z_str=>k_is)
  (case z_tuple=>k_is)
  (case d11=>refine' L2.q36 ?a ?b ?c ?d ?e;(case a=>k_is);(case b=>k_is);(case c=>k_is);(case d=>k_is);(case e=>k_is))
  (case d12=>refine' L2.q36 ?a ?b ?c ?d ?e;(case a=>k_is);(case b=>k_is);(case c=>k_is);(case d=>k_is);(case e=>k_is))
  (case d13=>refine' L2.q36 ?a ?b ?c ?d ?e;(case a=>k_is);(case b=>k_is);(case c=>k_is);(case d=>k_is);(case e=>k_is))
  (case d14=>refine' L2.q36 ?a ?b ?c ?d ?e;(case a=>k_is);(case b=>k_is);(case c=>k_is);(case d=>k_is);(case e=>k_is))
  (case d15=>refine' L2.q36 ?a ?b ?c ?d ?e;(case a=>k_is);(case b=>k_is);(case c=>k_is);(case d=>k_is);(case e=>k_is))
