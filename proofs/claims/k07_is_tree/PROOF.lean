import PyProof.Rows.All
import Wide.All
import OpenK.AllK
import Wide.FinOn
import Lean
import PyProof.EqAt
import PyProof.EqKinds
import PyProof.TupleCall
import PySem.Challenge.RW_glasslayers_k07_is_tree
set_option compiler.extract_closed false
set_option Elab.async false
set_option linter.all false
set_option maxRecDepth 100000
namespace L2
open PySem PySem.Spec PyProof.Rows
abbrev Key:=Sum Int Str
def qn6:Key->Value->Bool
|.inl k,v=>Value.isInt k v
|.inr x,v=>Value.isStrOf x v
def keyH(w:World):Key->Int
|.inl k=>hashInt k
|.inr x=>hashStr w x
theorem qbc:∀ {k:Key} {v:Value},qn6 k v=true->(∃i t,k=Sum.inl i/\v=Value.int i t)\/(∃x t,k=Sum.inr x/\v=Value.str x t)
|.inl i,v,h=>by
  obtain⟨t,e⟩:=Value.isInt_shape (k:=i) (v:=v) h
  exact .inl ⟨i,t,rfl,e⟩
|.inr x,v,h=>by
  obtain⟨t,e⟩:=Value.isStrOf_shape (x:=x) (v:=v) h
  exact .inr ⟨x,t,rfl,e⟩
theorem qqf(i:Int)(t:Tok):qn6 (.inl i) (.int i t)=true:=by simp[qn6,Value.isInt]
theorem qqg(x:Str)(t:Tok):qn6 (.inr x) (.str x t)=true:=by simp[qn6,Value.isStrOf]
theorem q0j(a b:Int):decide ((Sum.inl a:Key)=Sum.inl b)=(a==b):=by
 by_cases e:a=b
 ·subst e;simp
 ·have h:¬ (Sum.inl a:Key)=Sum.inl b:=λq=>e (Sum.inl.inj q)
  rw[decide_eq_false h]
  exact(beq_eq_false_iff_ne.mpr e).symm
theorem q0m(a b:Str):decide ((Sum.inr a:Key)=Sum.inr b)=decide (a=b):=by
 by_cases e:a=b
 ·subst e;simp
 ·have h:¬ (Sum.inr a:Key)=Sum.inr b:=λq=>e (Sum.inr.inj q)
  rw[decide_eq_false h,decide_eq_false e]
theorem q0k(a:Int)(b:Str):decide ((Sum.inl a:Key)=Sum.inr b)=false:=decide_eq_false (λq=>nomatch q)
theorem q0l(a:Str)(b:Int):decide ((Sum.inr a:Key)=Sum.inl b)=false:=decide_eq_false (λq=>nomatch q)
def qbs(prog:Program)(w:World):PySem.KeyKind prog w Key where
 is:=qn6
 hash:=keyH w
 inj:=λv a b ha hb=>by
  rcases qbc ha with ⟨i,t,rfl,rfl⟩|⟨x,t,rfl,rfl⟩
  ·rcases qbc hb with ⟨j,u,rfl,e⟩|⟨y,u,rfl,e⟩
   ·injection e with e1 _;rw[e1]
   ·exact nomatch e
  ·rcases qbc hb with ⟨j,u,rfl,e⟩|⟨y,u,rfl,e⟩
   ·exact nomatch e
   ·injection e with e1 _;rw[e1]
 byValue:=λk v h=>by
  rcases qbc h with ⟨i,t,rfl,rfl⟩|⟨x,t,rfl,rfl⟩<;>rfl
 pyHash:=λhv h=>by
  rcases qbc hv with ⟨i,t,rfl,rfl⟩|⟨x,t,rfl,rfl⟩
  ·exact wpAny_pyHash_int h
  ·exact wpAny_pyHash_str h
 eqBool:=λhu hv h=>by
  rcases qbc hu with ⟨i,t,rfl,rfl⟩|⟨x,t,rfl,rfl⟩
  ·rcases qbc hv with ⟨j,u,rfl,rfl⟩|⟨y,u,rfl,rfl⟩
   ·rw[q0j] at h;exact wpAny_eqBool_int h
   ·rw[q0k] at h;exact SeqAt.EqAt.int_str i t y u _ _ _ _ h
  ·rcases qbc hv with ⟨j,u,rfl,rfl⟩|⟨y,u,rfl,rfl⟩
   ·rw[q0l] at h;exact SeqAt.EqAt.str_int x t j u _ _ _ _ h
   ·rw[q0m] at h;exact wpAny_eqBool_str h
 «strs»:=λk x t v h=>by
  rcases qbc h with ⟨i,u,rfl,e⟩|⟨y,u,rfl,e⟩
  ·exact nomatch e
  ·injection e with e1 _
   subst e1
   cases v<;>rfl
theorem qlw(prog:Program)(w:World)(i:Int)(t:Tok):(qbs prog w).is (.inl i) (.int i t)=true:=qqf i t
theorem qlx(prog:Program)(w:World)(x:Str)(t:Tok):(qbs prog w).is (.inr x) (.str x t)=true:=qqg x t
end L2
namespace L2
open PySem PySem.Spec PyProof.Rows
inductive V where
|non|bl (b:Bool)|int (i:Int)|str (x:Str)|byt (b:Array UInt8)|flt (b:UInt64)|ref (a:Addr)|ty (n:String)
 deriving DecidableEq
def RelV:V->Value->Prop
|.non,u=>u=Value.none
|.bl b,u=>u=Value.bool b
|.int i,u=>∃t,u=Value.int i t
|.str x,u=>∃t,u=Value.str x t
|.byt b,u=>∃t,u=Value.bytes b t
|.flt b,u=>∃t,u=Value.float b t
|.ref a,u=>u=Value.ref a
|.ty n,u=>u=Value.type n
abbrev Vals:List V->List Value->Prop:=Paired RelV
theorem Vals.length{xs:List V}{us:List Value}(r:Vals xs us):xs.length=us.length:=Paired.length r
theorem Vals.get:∀ {xs:List V} {us:List Value} {i:Nat} {x:V},Vals xs us->xs[i]?=some x->∃u,us[i]?=some u/\RelV x u
|_,_,_,_,.nil,e=>by simp at e
|_,_,0,_,.cons r _,e=>by simp at e;subst e;exact⟨_,rfl,r⟩
|_,_,i+1,x,.cons _ t,e=>by
  obtain⟨u,h1,h2⟩:=Vals.get (i:=i) (x:=x) t (by simpa using e)
  exact⟨u,by simpa using h1,h2⟩
theorem Vals.set{x:V}{u:Value}(r:RelV x u):∀ {xs:List V} {us:List Value} (i:Nat),Vals xs us->Vals (xs.set i x) (us.set i u)
|_,_,_,.nil=>.nil
|_,_,0,.cons _ t=>.cons r t
|_,_,i+1,.cons q t=>.cons q (Vals.set r i t)
theorem Vals.append:∀ {xs ys:List V} {us ws:List Value},Vals xs us->Vals ys ws->Vals (xs++ys) (us++ws)
|_,_,_,_,.nil,s=>s
|_,_,_,_,.cons r t,s=>.cons r (Vals.append t s)
theorem Vals.take:∀ {xs:List V} {us:List Value} (n:Nat),Vals xs us->Vals (xs.take n) (us.take n)
|_,_,0,_=>.nil
|_,_,_+1,.nil=>.nil
|_,_,n+1,.cons r t=>.cons r (Vals.take n t)
theorem Vals.drop:∀ {xs:List V} {us:List Value} (n:Nat),Vals xs us->Vals (xs.drop n) (us.drop n)
|_,_,0,r=>r
|_,_,_+1,.nil=>.nil
|_,_,n+1,.cons _ t=>Vals.drop n t
def RelO:Option V->Option Value->Prop
|some v,some u=>RelV v u
|none,none=>True
|_,_=>False
def KV{κ:Type}:List (κ×V)->List (κ×Value)->Prop:=Paired λ(p:κ×V) (q:κ×Value)=>p.1=q.1/\RelV p.2 q.2
def kV:Key->V
|.inl i=>.int i
|.inr x=>.str x
inductive HO where
|lst (xs:List V)
|tup (xs:List V)
|dK (kvs:List (Key×V))|dT (kvs:List (List Key×V))
|set (S:Int->Bool) (n:Nat)
|ins (C dx:Addr) (fs:List (Str×V))
|own (x:Addr)
|xd (fs:List (Str×V))
|met (f x:Addr)
|rng (lo hi:Int)
|frz (o:Obj) (u:HO)
|tbl (ps:Array Value)
|ext (φ:Heap->Prop)
abbrev Hp:=Addr->Option HO
def upd(H:Hp)(a:Addr)(o:HO):Hp:=λb=>if b=a then some o else H b
theorem qa0{H:Hp}{a:Addr}{o:HO}:upd H a o a=some o:=by unfold upd;rw[if_pos rfl]
theorem qau{H:Hp}{a b:Addr}{o:HO}(h:b≠a):upd H a o b=H b:=by unfold upd;rw[if_neg h]
theorem qxg{H:Hp}{a b:Addr}{o u:HO}(h:H a=some o)(h':H b=some u)(d:o≠u):a≠b:=by
 intro e;subst e;rw[h] at h';exact d (Option.some.inj h')
theorem qa2{H:Hp}{a b:Addr}{o:HO}(h:H a=some o)(h':H b=none):a≠b:=by
 intro e;subst e;rw[h] at h';cases h'
section
variable (P:Program) (w:World)
def ObjOk(H:Hp)(h:Heap)(a:Addr):HO->Prop
|.lst xs=>xs.length<=sizeLine/\∃(its:List Value) (n:Nat),Vals xs its/\h.get? a=some { cls:=.type "list",data:=.seq its.toArray n }
|.tup xs=>xs.length<=sizeLine/\∃its:List Value,Vals xs its/\IsTup h a its.toArray
|.dK kvs=>kvs.length<=sizeLine/\(a==sysModules)=false/\∃vs,KV kvs vs/\h.DictOf (qbs P w) a vs
|.dT kvs=>kvs.length<=sizeLine/\(a==sysModules)=false/\∃xs:List (List Key×Addr×Value),
   Paired (λ(p:List Key×V) (q:List Key×Addr×Value)=>p.1=q.1/\H q.2.1=some (.tup (p.1.map kV))/\RelV p.2 q.2.2) kvs xs /\
   ∃o es ep,h.get? a=some o/\o.ExactDict/\o.data=.dict es ep/\es.toList=xs.map (entryOfKey (tupleKind (qbs P w)))/\(xs.map (·.1)).Nodup
|.set S n=>h.SetOf (intKind P w) a S n
|.ins C dx fs=>H dx=some (.own a)/\fs.length<=1000/\dx≠a/\h.get? a=some (PySem.W.instObj C dx) /\
   ∃mA,h.Ns1 dx mA/\(∀f,RelO (fs.lookup f) (mA f))/\PySem.Within mA (fs.map (·.1))
|.own _=>∃o,h.get? a=some o
|.xd fs=>∃mA,h.Ns1 a mA/\∀f,RelO (fs.lookup f) (mA f)
|.rng lo hi=>∃t u v,h.get? a=some { cls:=.type "range",data:=.fields #[.int lo t,.int hi u,.int 1 v] }
|.frz o u=>h.get? a=some o/\ObjOk H h a u
|.tbl ps=>h.get? a=some { cls:=.none,data:=.fields ps }
|.met f x=>h.get? a=some (PySem.W.methodObj (.ref f) (.ref x))
|.ext φ=>φ h/\(∃o,h.get? a=some o)/\∀h1 h2:Heap,φ h1->(∀o,h1.get? a=some o->h2.get? a=some o)->φ h2
def HOk(H:Hp)(h:Heap):Prop:=∀a o,H a=some o->ObjOk P w H h a o
end
section
variable {P:Program} {w:World} {H H':Hp} {h h':Heap} {a:Addr} {o:HO}
theorem ObjOk.lt(x:ObjOk P w H h a o):a<h.objs.size:=by
 cases o with
|lst xs=>obtain⟨_,_,_,_,e⟩:=x;exact Heap.lt_size e
|tup xs=>obtain⟨_,_,_,p⟩:=x;exact p.lt
|dK kvs=>obtain⟨_,_,_,_,o,_,_,e,_⟩:=x;exact Heap.lt_size e
|dT kvs=>obtain⟨_,_,_,_,o,_,_,e,_⟩:=x;exact Heap.lt_size e
|set S n=>obtain⟨o,_,_,_,e,_⟩:=x;exact Heap.lt_size e
|ins C dx fs=>obtain⟨_,_,_,e,_⟩:=x;exact Heap.lt_size e
|own y=>obtain⟨_,e⟩:=x;exact Heap.lt_size e
|xd fs=>obtain⟨_,⟨_,_,_,e,_⟩,_⟩:=x;exact Heap.lt_size e
|rng lo hi=>obtain⟨_,_,_,e⟩:=x;exact Heap.lt_size e
|frz ob u=>obtain⟨e,_⟩:=x;exact Heap.lt_size e
|tbl ps=>exact Heap.lt_size (show h.get? a=some _ from x)
|met f y=>exact Heap.lt_size (show h.get? a=some _ from x)
|ext φ=>obtain⟨_,⟨_,e⟩,_⟩:=x;exact Heap.lt_size e
theorem Paired.mapP{α β:Type}{F G:α->β->Prop}:∀ {l₁:List α} {l₂:List β},Paired F l₁ l₂->(∀a b,F a b->G a b)->Paired G l₁ l₂
|_,_,.nil,_=>.nil
|_,_,.cons r t,f=>.cons (f _ _ r) (Paired.mapP t f)
theorem ObjOk.stay(x:ObjOk P w H h a o)(k:∀b u,(b=a\/H b=some (.own a))->h.get? b=some u->h'.get? b=some u)
  (ho:∀b,H b=some (.own a)->H' b=some (.own a)) (ht:∀b xs,H b=some (.tup xs)->H' b=some (.tup xs)):ObjOk P w H' h' a o:=by
 induction o with
|lst xs=>obtain⟨z,its,n,r,e⟩:=x;exact⟨z,its,n,r,k _ _ (.inl rfl) e⟩
|tup xs=>obtain⟨z,its,r,ob,e,c⟩:=x;exact⟨z,its,r,ob,k _ _ (.inl rfl) e,c⟩
|dK kvs=>obtain⟨z,y,vs,r,ob,es,ep,e,c⟩:=x;exact⟨z,y,vs,r,ob,es,ep,k _ _ (.inl rfl) e,c⟩
|dT kvs =>
  obtain⟨z,y,xs,r,ob,es,ep,e,c⟩:=x
  exact⟨z,y,xs,Paired.mapP r λp q z=>⟨z.1,ht _ _ z.2.1,z.2.2⟩,ob,es,ep,k _ _ (.inl rfl) e,c⟩
|set S n=>obtain⟨ob,es,ep,t,e,c⟩:=x;exact⟨ob,es,ep,t,k _ _ (.inl rfl) e,c⟩
|ins C dx fs =>
  obtain⟨d,z,ne,e,mA,⟨od,es,ep,e2,c⟩,r⟩:=x
  exact⟨ho _ d,z,ne,k _ _ (.inl rfl) e,mA,⟨od,es,ep,k _ _ (.inr d) e2,c⟩,r⟩
|own y=>obtain⟨ob,e⟩:=x;exact⟨ob,k _ _ (.inl rfl) e⟩
|xd fs=>obtain⟨mA,⟨od,es,ep,e,c⟩,r⟩:=x;exact⟨mA,⟨od,es,ep,k _ _ (.inl rfl) e,c⟩,r⟩
|rng lo hi=>obtain⟨t,u,v,e⟩:=x;exact⟨t,u,v,k _ _ (.inl rfl) e⟩
|frz ob u ih=>obtain⟨e,q⟩:=x;exact⟨k _ _ (.inl rfl) e,ih q⟩
|tbl ps =>
  have e:h.get? a=some { cls:=.none,data:=.fields ps }:=x
  show h'.get? a=some { cls:=.none,data:=.fields ps }
  exact k a _ (.inl rfl) e
|met f y =>
  have e:h.get? a=some (PySem.W.methodObj (.ref f) (.ref y)):=x
  show h'.get? a=some (PySem.W.methodObj (.ref f) (.ref y))
  exact k a _ (.inl rfl) e
|ext φ=>obtain⟨p,⟨o,e⟩,st⟩:=x;exact⟨st _ _ p λo q=>k _ _ (.inl rfl) q,⟨o,k _ _ (.inl rfl) e⟩,st⟩
theorem HOk.lt(x:HOk P w H h)(e:H a=some o):a<h.objs.size:=(x a o e).lt
theorem HOk.fresh(x:HOk P w H h)(e:h.objs.size<=a):H a=none:=by
 cases q:H a with
|none=>rfl
|some u=>exact absurd (Nat.lt_of_lt_of_le (x.lt q) e) (Nat.lt_irrefl _)
theorem HOk.kept(x:HOk P w H h)(k:∀b u,h.get? b=some u->h'.get? b=some u):HOk P w H h':=λa o e =>
 (x a o e).stay (λb u _ q=>k b u q) (λ_ q=>q) λ_ _ q=>q
theorem HOk.laid(x:HOk P w H h)(k:∀b u,h.get? b=some u->h'.get? b=some u)(hp:h.objs.size<=a)(new:ObjOk P w (upd H a o) h' a o):HOk P w (upd H a o) h':=λb u e=>by
 have hn:=x.fresh hp
 by_cases hb:b=a
 ·subst hb;rw[qa0] at e;cases e;exact new
 ·rw[qau hb] at e
  exact(x b u e).stay (λc v _ q=>k c v q) (λc q=>by rw[qau (qa2 q hn)];exact q) λc xs q=>by rw[qau (qa2 q hn)];exact q
end
def Rd(H:Hp)(a:Addr)(u:HO):Prop:=H a=some u\/∃o,H a=some (.frz o u)
theorem Rd.ok{P:Program}{w:World}{H:Hp}{h:Heap}{a:Addr}{u:HO}(r:Rd H a u)(x:HOk P w H h):ObjOk P w H h a u:=by
 rcases r with r|⟨o,r⟩
 ·exact x a u r
 ·obtain⟨_,q⟩:=x a _ r
  exact q
def Mut:Option HO->Prop
|some (.lst _)=>True
|some (.dK _)=>True
|some (.dT _)=>True
|some (.set _ _)=>True
|some (.ins _ _ _)=>True
|some (.ext _)=>True
|_=>False
section
variable {P:Program} {w:World} {H:Hp} {h h':Heap} {x e:Addr} {o':HO}
theorem HOk.write(ok:HOk P w H h)(mu:Mut (H x))(he:e=x\/H e=some (.own x))(k:∀b u,b≠e->h.get? b=some u->h'.get? b=some u)(heo:∃u,h'.get? e=some u)
  (new:ObjOk P w (upd H x o') h' x o'):HOk P w (upd H x o') h':=λb u q=>by
 have nown:∀c y,H c=some (.own y)->c≠x:=λc y r z=>by subst z;rw[r] at mu;exact mu
 have ntup:∀c xs,H c=some (.tup xs)->c≠x:=λc xs r z=>by subst z;rw[r] at mu;exact mu
 by_cases hb:b=x
 ·subst hb;rw[qa0] at q;cases q;exact new
 ·rw[qau hb] at q
  by_cases hbe:b=e
  ·have q':H b=some (.own x):=by
    rcases he with z|z
    ·exact absurd (hbe.trans z) hb
    ·rw[hbe];exact z
   rw[q] at q';cases q'
   obtain⟨v,hv⟩:=heo
   exact⟨v,by rw[hbe];exact hv⟩
  ·refine(ok b u q).stay (λc v hc r=>k c v ?_ r) (λc r=>by rw[qau (nown c b r)];exact r) λc xs r=>by rw[qau (ntup c xs r)];exact r
   rcases hc with rfl|hc
   ·exact hbe
   ·rintro rfl
    rcases he with z|z
    ·exact nown c b hc z
    ·rw[hc] at z;cases z;exact hb rfl
end
structure Un(fs ex:List Addr)(H H':Hp)(h h':Heap):Prop where
 keep:∀b o,h.get? b=some o->H b=none->b∉fs->b∉ex->h'.get? b=some o
 slot:∀b o,h.get? b=some o->H b=none->b∈fs->b∉ex->∃sl,h'.get? b=some { o with slots:=sl }
 free:∀b o,h.get? b=some o->H b=none->b∉ex->H' b=none
 there:∀b o,h.get? b=some o->b∉ex->∃o',h'.get? b=some o'
 tups:∀b xs,H b=some (.tup xs)->H' b=some (.tup xs)
 frzs:∀b o u,H b=some (.frz o u)->H' b=some (.frz o u)
 tbls:∀b ps,H b=some (.tbl ps)->∃more,H' b=some (.tbl (ps++more))
section
variable {fs fs' ex ex':List Addr} {H H1 H2:Hp} {h h1 h2 h':Heap} {a x e:Addr} {o:HO}
theorem Un.any(u:Un fs ex H H1 h h1){b:Addr}{ob:Obj}(q:h.get? b=some ob)(n:H b=none)(hx:b∉ex):∃sl,h1.get? b=some { ob with slots:=sl }:=by
 by_cases hb:b∈fs
 ·exact u.slot b ob q n hb hx
 ·exact⟨ob.slots,u.keep b ob q n hb hx⟩
theorem Un.kept(k:∀b u,h.get? b=some u->h'.get? b=some u):Un fs ex H H h h' :=
 ⟨λb ob q _ _ _=>k b ob q,λb ob q _ _ _=>⟨ob.slots,k b ob q⟩,λ_ _ _ n _=>n,λb ob q _=>⟨ob,k b ob q⟩,λ_ _ q=>q,λ_ _ _ q=>q,λ_ ps q=>⟨#[],by rw[q];simp⟩⟩
theorem Un.refl:Un fs ex H H h h:=Un.kept λ_ _ q=>q
theorem Un.laid(k:∀b u,h.get? b=some u->h'.get? b=some u)(hp:h.objs.size<=a)(hn:H a=none):Un fs ex H (upd H a o) h h' where
 keep:=λb u q _ _ _=>k b u q
 slot:=λb u q _ _ _=>⟨u.slots,k b u q⟩
 free:=λb u q n _=>by rw[qau (Nat.ne_of_lt (Nat.lt_of_lt_of_le (Heap.lt_size q) hp))];exact n
 there:=λb u q _=>⟨u,k b u q⟩
 tups:=λb xs q=>by rw[qau (qa2 q hn)];exact q
 frzs:=λb u xs q=>by rw[qau (qa2 q hn)];exact q
 tbls:=λb ps q=>⟨#[],by rw[qau (qa2 q hn),q];simp⟩
theorem Un.write(mu:Mut (H x))(he:e=x\/H e=some (.own x))(k:∀b u,b≠e->h.get? b=some u->h'.get? b=some u)(heo:∃u,h'.get? e=some u):Un fs ex H (upd H x o) h h':=by
 have hx:∀b,H b=none->b≠x:=λb n z=>by subst z;rw[n] at mu;exact mu
 have hb:∀b,H b=none->b≠e:=λb n z=>by
  subst z
  rcases he with r|r
  ·exact hx b n r
  ·rw[n] at r;cases r
 have hm:∀b u,H b=some u->¬ Mut (some u)->b≠x:=λb u q nm z=>by subst z;rw[q] at mu;exact nm mu
 refine⟨λb u q n _ _=>k b u (hb b n) q,λb u q n _ _=>⟨u.slots,k b u (hb b n) q⟩,λb u q n _=>by rw[qau (hx b n)];exact n,λb u q _=>?_,
  λb xs q=>by rw[qau (hm b _ q λz=>z)];exact q,λb u xs q=>by rw[qau (hm b _ q λz=>z)];exact q,λb ps q=>⟨#[],by rw[qau (hm b _ q λz=>z),q];simp⟩⟩
 by_cases hbe:b=e
 ·subst hbe;exact heo
 ·exact⟨u,k b u hbe q⟩
theorem Un.mono(u:Un fs ex H H1 h h1)(hs:∀b∈fs,b∈fs')(hx:∀b∈ex,b∈ex'):Un fs' ex' H H1 h h1 :=
 ⟨λb ob q n hb he=>u.keep b ob q n (λz=>hb (hs b z)) λz=>he (hx b z),λ_ _ q n _ he=>u.any q n λz=>he (hx _ z),λb ob q n he=>u.free b ob q n λz=>he (hx b z),λb ob q he=>u.there b ob q λz=>he (hx b z),u.tups,u.frzs,u.tbls⟩
end
def trk(h:Heap)(H:Hp):List Addr:=(List.range h.objs.size).filter λa=>(H a).isSome
def hidT(h:Heap)(H:Hp):Heap:=PySem.W.hideAll h (trk h H)
theorem qqc(h:Heap)(H:Hp):(hidT h H).objs.size=h.objs.size:=PySem.W.hideAll_size _ _
theorem qs4{h:Heap}{H:Hp}{b:Addr}{o:Obj}(e:h.get? b=some o)(n:H b=none):(hidT h H).get? b=some o :=
 PySem.W.hideAll_get _ e λhm=>by
  have q:(H b).isSome=true:=(List.mem_filter.mp hm).2
  rw[n] at q;simp at q
theorem qxk{h:Heap}{H:Hp}{b:Addr}{o:Obj}(e:(hidT h H).get? b=some o):h.get? b=some o/\H b=none:=by
 have e':h.get? b=some o:=PySem.W.of_hideAll (trk h H) e
 refine⟨e',?_⟩
 cases q:H b with
|none=>rfl
|some x =>
  have hm:b∈trk h H:=List.mem_filter.mpr ⟨List.mem_range.mpr (Heap.lt_size e'),by simp[q]⟩
  have z:(hidT h H).get? b=none:=PySem.W.hideAll_none (trk h H) hm
  rw[z] at e;cases e
def qwd(g h:Heap)(L:Addr):List (Addr×Obj):=(List.range h.objs.size).filterMap λa=>if a=L\/(g.get? a).isSome=true then none else (h.get? a).map λo=>(a,o)
def rest(g h:Heap)(L d:Addr):List (Addr×Obj):=(qwd g h L).filter λp=>decide (p.1≠d)
end L2
namespace L2
open PySem PySem.Spec PyProof.Rows
structure Mod(K:PySem.W.Frag)(mg:Str->Option Value)(base:Heap):Prop where
 kin:K.In base
 glob:base.Ns mainGlobals mg
 blt:∃mb,base.Ns builtinsNs mb/\∀x:Str,x≠"__name__" -> mb x=bootBuiltins x
 nolimit:base.NoLimit
structure Cx where
 prog:Program
 w:World
 K:PySem.W.Frag
 mg:Str->Option Value
 base:Heap
 A:Around
 N:List Str
 s₀:Shared
 H₀:Hp
 env:Env
 outer:List Env
 stack:List Env
 ex:List Addr
 fn:Str->Bool
 calm:Bool
 pn:List (Addr×Obj)
 xe:Value->Shared->Prop
def frs(l:List Env):List Addr:=l.filterMap (·.frame)
abbrev Cx.fs(X:Cx):List Addr:=frs X.outer
def Vis(sc:Scope)(x:Str):Prop:=sc.names.lookup x=some .local\/sc.names.lookup x=some .cell\/sc.names.lookup x=some .free
def Loc(sc:Scope)(x:Str):Prop:=sc.names.lookup x=some .local\/sc.names.lookup x=some .cell
def Look(env:Env)(h:Heap)(m:Str->Option Value)(x:Str)(u:Value):Prop :=
 (env.kindOf x=some .local/\m x=some u)\/((env.kindOf x=some .cell\/env.kindOf x=some .free)/\∃c,env.cells.lookup x=some c/\h.IsCell c (some u))
structure Cx.Ok(X:Cx):Prop where
 mod:Mod X.K X.mg X.base
 kind:X.env.scope.kind=.function
 glob:X.env.globals=mainGlobals
 blt:X.env.builtins=builtinsNs
 above:X.s₀.heap.objs.size<=X.env.locals
 inj:∀x y c,X.env.cells.lookup x=some c->X.env.cells.lookup y=some c->x=y
 has:∀x,(X.env.kindOf x=some .cell\/X.env.kindOf x=some .free)->∃c,X.env.cells.lookup x=some c
 cab:∀x c,X.fn x=true->X.env.cells.lookup x=some c->X.s₀.heap.objs.size<=c
 hd:X.calm=true->X.A.handled=none
 frames:X.A.frames=some X.stack
 stk:X.stack=X.outer\/(X.stack=X.env::X.outer/\X.env.frame=some X.env.locals)
 exf:∀b∈X.ex,b≠X.env.locals/\∀x c,X.env.cells.lookup x=some c->c≠b
 bs:∀b o,X.base.get? b=some o->X.s₀.heap.get? b=some o/\X.H₀ b=none
 bsz:X.base.objs.size<=X.s₀.heap.objs.size
 noex:∀b o,X.base.get? b=some o->b∉X.ex
 exfs:∀b∈X.ex,b∉X.fs
 funs:X.s₀.heap.FunFrames X.base X.outer
 frf:∀b∈X.fs,X.H₀ b=none
structure Inv(X:Cx)(pins:List (Addr×Obj))(σ:List (Option V))(H:Hp)(s:Shared):Prop where
 ok:X.Ok
 os:s.os=X.s₀.os
 bare:AllBare s.gens
 base:Un X.fs X.ex X.H₀ H X.s₀.heap s.heap
 loc:∃m,s.heap.Ns X.env.locals m/\∀(i:Nat) (x:Str) (v:V),X.N[i]?=some x->σ[i]?=some (some v)->Vis X.env.scope x->∃u,RelV v u/\Look X.env s.heap m x u
 cell:∀x c,X.env.cells.lookup x=some c->∃v,s.heap.IsCell c v
 free:H X.env.locals=none
 freeC:∀x c,X.env.cells.lookup x=some c->H c=none
 pin:∀p∈X.pn++pins,s.heap.get? p.1=some p.2/\H p.1=none/\p.1≠X.env.locals/\p.1∉X.fs/\∀v,p.2.data≠.cell v
 hok:HOk X.prog X.w H s.heap
 len:σ.length=X.N.length
section
variable {X:Cx} {pins:List (Addr×Obj)} {σ:List (Option V)} {H H':Hp} {s:Shared} {h':Heap}
theorem Cx.Ok.nofr(ok:X.Ok){b:Addr}{o:Obj}(e:X.base.get? b=some o):b∉X.fs:=λhb=>by
 have:=(ok.funs.mem hb).1
 rw[e] at this;cases this
theorem Inv.bs(I:Inv X pins σ H s):∀b o,X.base.get? b=some o->s.heap.get? b=some o/\H b=none:=λb o e =>
 ⟨I.base.keep b o (I.ok.bs b o e).1 (I.ok.bs b o e).2 (I.ok.nofr e) (I.ok.noex b o e),I.base.free b o (I.ok.bs b o e).1 (I.ok.bs b o e).2 (I.ok.noex b o e)⟩
theorem Inv.bk(I:Inv X pins σ H s):∀b o,X.base.get? b=some o->s.heap.get? b=some o:=λb o e=>(I.bs b o e).1
theorem Inv.mod(I:Inv X pins σ H s):Mod X.K X.mg X.base:=I.ok.mod
theorem Inv.kIn(I:Inv X pins σ H s):X.K.In s.heap:=I.ok.mod.kin.keeps I.bk
theorem Inv.lt(I:Inv X pins σ H s):X.env.locals<s.heap.objs.size:=let ⟨_,hn,_⟩:=I.loc;hn.lt
theorem Inv.sz(I:Inv X pins σ H s):X.s₀.heap.objs.size<=s.heap.objs.size:=Nat.le_trans I.ok.above (Nat.le_of_lt I.lt)
theorem Inv.nofs(I:Inv X pins σ H s){a:Addr}(h:s.heap.objs.size<=a):a∉X.fs:=λhb=>by
 obtain⟨_,o,ho,_⟩:=I.ok.funs.mem hb
 exact absurd (Nat.lt_of_lt_of_le (Heap.lt_size ho) (Nat.le_trans I.sz h)) (Nat.lt_irrefl _)
theorem Inv.cne(I:Inv X pins σ H s):∀x c,X.env.cells.lookup x=some c->c≠X.env.locals:=λx c e z=>by
 obtain⟨v,o,ho,hd⟩:=I.cell x c e
 obtain⟨m,⟨o',es,ep,ho',hd',_⟩,_⟩:=I.loc
 rw[z,ho'] at ho;cases ho;rw[hd'] at hd;cases hd
theorem Inv.funs(I:Inv X pins σ H s):s.heap.FunFrames X.base X.outer:=by
 have all:∀(l:List Env),(∀b∈frs l,b∈X.fs)->X.s₀.heap.FunFrames X.base l->s.heap.FunFrames X.base l:=by
  intro l
  induction l with
 |nil=>intro _ _;trivial
 |cons env r ih =>
   intro hs hl
   obtain⟨hk,⟨L,o,hf,hn,ho,hd⟩,hr⟩:=hl
   have hL:L∈X.fs:=hs L (by unfold frs;rw[List.filterMap_cons,hf];exact List.mem_cons_self)
   obtain⟨sl,e⟩:=I.base.slot L o ho (I.ok.frf L hL) hL λz=>I.ok.exfs L z hL
   exact⟨hk,⟨L,_,hf,hn,e,hd⟩,ih (λb hb=>hs b (by unfold frs;rw[List.filterMap_cons,hf];exact List.mem_cons_of_mem _ hb)) hr⟩
 exact all X.outer (λ_ hb=>hb) I.ok.funs
theorem Inv.stack(I:Inv X pins σ H s):s.heap.FunFrames X.base X.stack:=by
 rcases I.ok.stk with e|⟨e,hf⟩
 ·rw[e];exact I.funs
 ·rw[e]
  obtain⟨m,hn,_⟩:=I.loc
  refine .cons (by rw[I.ok.kind];decide) hf hn ?_ I.funs
  exact Heap.get?_none_of_le (Nat.le_trans I.ok.bsz I.ok.above)
theorem Inv.stkSub(I:Inv X pins σ H s):∀b∈frs X.stack,b∈X.env.locals::X.fs:=λb hb=>by
 rcases I.ok.stk with e|⟨e,hf⟩
 ·rw[e] at hb;exact List.mem_cons_of_mem _ hb
 ·rw[e] at hb
  unfold frs at hb
  rw[List.filterMap_cons,hf] at hb
  exact hb
theorem Inv.stkFree(I:Inv X pins σ H s):∀b∈frs X.stack,H b=none:=λb hb=>by
 rcases List.mem_cons.mp (I.stkSub b hb) with e|hb
 ·rw[e];exact I.free
 ·obtain⟨_,o,ho,_⟩:=I.ok.funs.mem hb
  exact I.base.free b o ho (I.ok.frf b hb) λz=>I.ok.exfs b z hb
theorem Inv.step{g':Array GenState}{t':Nat}{d':Drawn}{ch:List Addr}(I:Inv X pins σ H s)
  (hch:∀b∈ch,(b∈X.ex\/X.s₀.heap.objs.size<=b)/\b≠X.env.locals/\(∀x c,X.env.cells.lookup x=some c->c≠b)/\∀p∈X.pn++pins,p.1≠b)
  (keep:∀b o,b≠X.env.locals->b∉X.fs->b∉ch->s.heap.get? b=some o->H b=none->h'.get? b=some o)
  (slot:∀b o,b≠X.env.locals->b∈X.fs->b∉ch->s.heap.get? b=some o->H b=none->∃sl,h'.get? b=some { o with slots:=sl }) (free:∀b o,b∉ch->s.heap.get? b=some o->H b=none->H' b=none)
  (there:∀b o,b∉ch->s.heap.get? b=some o->∃o',h'.get? b=some o')
  (tups:∀b xs,H b=some (.tup xs)->H' b=some (.tup xs)) (frzs:∀b o u,H b=some (.frz o u)->H' b=some (.frz o u)) (tbls:∀b ps,H b=some (.tbl ps)->∃more,H' b=some (.tbl (ps++more)))
  (ns:∀m,s.heap.Ns X.env.locals m->h'.Ns X.env.locals m) (hok:HOk X.prog X.w H' h') (hg:AllBare g') :
  Inv X pins σ H' { s with heap:=h',gens:=g',drawn:=d',toks:=t' }:=by
 have neL:∀b o,X.s₀.heap.get? b=some o->b≠X.env.locals:=λb o e=>Nat.ne_of_lt (Nat.lt_of_lt_of_le (Heap.lt_size e) I.ok.above)
 have neC:∀b o,X.s₀.heap.get? b=some o->b∉X.ex->b∉ch:=λb o e hx hb=>by
  rcases (hch b hb).1 with z|z
  ·exact hx z
  ·exact absurd (Nat.lt_of_lt_of_le (Heap.lt_size e) z) (Nat.lt_irrefl _)
 have cellK:∀x c,X.env.cells.lookup x=some c->∀v,s.heap.IsCell c v->h'.IsCell c v:=λx c e v ⟨o,ho,hd⟩=>by
  have nch:c∉ch:=λz=>(hch c z).2.2.1 x c e rfl
  by_cases hc:c∈X.fs
  ·obtain⟨sl,q⟩:=slot c o (I.cne x c e) hc nch ho (I.freeC x c e)
   exact⟨_,q,hd⟩
  ·exact⟨o,keep c o (I.cne x c e) hc nch ho (I.freeC x c e),hd⟩
 refine⟨I.ok,I.os,hg,⟨λb o e n hb hx=>?_,λb o e n hb hx=>?_,λb o e n hx=>?_,λb o e hx=>?_,λb xs e=>tups b xs (I.base.tups b xs e),λb o xs e=>frzs b o xs (I.base.frzs b o xs e),λb ps e=>?_⟩,?_,λx c e=>?_,?_,λx c e=>?_,λp hp=>?_,hok,I.len⟩
 ·exact keep b o (neL b o e) hb (neC b o e hx) (I.base.keep b o e n hb hx) (I.base.free b o e n hx)
 ·obtain⟨sl,e1⟩:=I.base.slot b o e n hb hx
  obtain⟨sl',e2⟩:=slot b _ (neL b o e) hb (neC b o e hx) e1 (I.base.free b o e n hx)
  exact⟨sl',e2⟩
 ·obtain⟨o',e1⟩:=I.base.there b o e hx
  exact free b o' (neC b o e hx) e1 (I.base.free b o e n hx)
 ·obtain⟨o',e1⟩:=I.base.there b o e hx
  exact there b o' (neC b o e hx) e1
 ·obtain⟨m1,e1⟩:=I.base.tbls b ps e
  obtain⟨m2,e2⟩:=tbls b _ e1
  exact⟨m1++m2,by rw[e2,Array.append_assoc]⟩
 ·obtain⟨m,hn,hl⟩:=I.loc
  refine⟨m,ns m hn,λi x v e1 e2 e3=>?_⟩
  obtain⟨u,r,l⟩:=hl i x v e1 e2 e3
  refine⟨u,r,?_⟩
  rcases l with l|⟨k,c,e,z⟩
  ·exact .inl l
  ·exact .inr ⟨k,c,e,cellK x c e _ z⟩
 ·obtain⟨v,z⟩:=I.cell x c e
  exact⟨v,cellK x c e v z⟩
 ·obtain⟨m,⟨o,_,_,ho,_⟩,_⟩:=I.loc
  exact free _ o (λz=>(hch _ z).2.1 rfl) ho I.free
 ·obtain⟨v,o,ho,hd⟩:=I.cell x c e
  exact free c o (λz=>(hch c z).2.2.1 x c e rfl) ho (I.freeC x c e)
 ·obtain⟨e,n,ne,nf,d⟩:=I.pin p hp
  have nch:p.1∉ch:=λz=>(hch p.1 z).2.2.2 p hp rfl
  exact⟨keep p.1 p.2 ne nf nch e n,free p.1 p.2 nch e n,ne,nf,d⟩
theorem Inv.un{t':Nat}(I:Inv X pins σ H s)(u:Un X.fs [] H H' s.heap h')(hok:HOk X.prog X.w H' h'):Inv X pins σ H' { s with heap:=h',toks:=t' }:=by
 obtain⟨m,⟨o,es,ep,ho,r⟩,_⟩:=id I.loc
 obtain⟨sl,hL⟩:=u.any ho I.free (by simp)
 exact I.step (g':=s.gens) (d':=s.drawn) (ch:=[]) (λ_ z=>nomatch z) (λb o _ hb _ e n=>u.keep b o e n hb (by simp)) (λb o _ hb _ e n=>u.slot b o e n hb (by simp)) (λb o _ e n=>u.free b o e n (by simp)) (λb o _ e=>u.there b o e (by simp)) u.tups u.frzs u.tbls (λm' hm=>by
  obtain⟨o',es',ep',ho',r'⟩:=hm
  rw[ho] at ho';cases ho'
  exact⟨_,es',ep',hL,r'⟩) hok I.bare
theorem Inv.call{g':Array GenState}{t':Nat}{d':Drawn}{ch:List Addr}(I:Inv X pins σ H s)(u:Un (frs X.stack) ch H H' s.heap h')(hok:HOk X.prog X.w H' h')(hg:AllBare g')
  (hch:∀b∈ch,(b∈X.ex\/X.s₀.heap.objs.size<=b)/\b≠X.env.locals/\(∀x c,X.env.cells.lookup x=some c->c≠b)/\∀p∈X.pn++pins,p.1≠b) :
  Inv X pins σ H' { s with heap:=h',gens:=g',drawn:=d',toks:=t' }:=by
 obtain⟨m,⟨o,es,ep,ho,r⟩,_⟩:=id I.loc
 obtain⟨sl,hL⟩:=u.any ho I.free λz=>(hch _ z).2.1 rfl
 exact I.step (ch:=ch) hch (λb o hL hb hc e n=>u.keep b o e n (λz=>(List.mem_cons.mp (I.stkSub b z)).elim hL hb) hc) (λb o _ _ hc e n=>u.any e n hc) (λb o hc e n=>u.free b o e n hc) (λb o hc e=>u.there b o e hc) u.tups u.frzs u.tbls (λm' hm=>by
  obtain⟨o',es',ep',ho',r'⟩:=hm
  rw[ho] at ho';cases ho'
  exact⟨_,es',ep',hL,r'⟩) hok hg
theorem Inv.turned{t':Nat}{it:Addr}(I:Inv X pins σ H s)(k:∀b o,b≠it->s.heap.get? b=some o->h'.get? b=some o)(hn:H it=none)(hL:it≠X.env.locals)
  (h1:it∈X.ex\/X.s₀.heap.objs.size<=it) (h2:∀x c,X.env.cells.lookup x=some c->c≠it) (h3:∀p∈X.pn++pins,p.1≠it):Inv X pins σ H { s with heap:=h',toks:=t' }:=by
 have nit:∀b u,H b=some u->b≠it:=λb u e z=>by rw[z,hn] at e;cases e
 refine I.step (g':=s.gens) (d':=s.drawn) (ch:=[it]) (λb hb=>?_) (λb o _ _ hc e _=>k b o (λz=>hc (by simp[z])) e) (λb o _ _ hc e _=>⟨o.slots,k b o (λz=>hc (by simp[z])) e⟩) (λ_ _ _ _ n=>n)
  (λb o hc e=>⟨o,k b o (λz=>hc (by simp[z])) e⟩) (λ_ _ e=>e) (λ_ _ _ e=>e) (λb ps e=>⟨#[],by rw[e];simp⟩) (λm hm=>?_) (λb u e=>?_) I.bare
 ·have e:b=it:=by simpa using hb
  subst e
  exact⟨h1,hL,h2,h3⟩
 ·obtain⟨o,es,ep,ho,r⟩:=hm
  exact⟨o,es,ep,k _ o (Ne.symm hL) ho,r⟩
 ·refine(I.hok b u e).stay (λc v hc q=>k c v ?_ q) (λ_ q=>q) λ_ _ q=>q
  rcases hc with z|z
  ·rw[z];exact nit b u e
  ·exact nit c _ z
theorem Inv.tok(I:Inv X pins σ H s)(t:Nat):Inv X pins σ H { s with toks:=t }:=I.un (h':=s.heap) (t':=t) Un.refl I.hok
theorem Inv.kept{t':Nat}(I:Inv X pins σ H s)(k:∀b u,s.heap.get? b=some u->h'.get? b=some u):Inv X pins σ H { s with heap:=h',toks:=t' }:=I.un (Un.kept k) (I.hok.kept k)
theorem Inv.laid{a:Addr}{o:HO}{t':Nat}(I:Inv X pins σ H s)(k:∀b u,s.heap.get? b=some u->h'.get? b=some u)(hp:s.heap.objs.size<=a)(new:ObjOk X.prog X.w (upd H a o) h' a o) :
  Inv X pins σ (upd H a o) { s with heap:=h',toks:=t' }:=I.un (Un.laid k hp (I.hok.fresh hp)) (I.hok.laid k hp new)
theorem Inv.write{x e:Addr}{o:HO}{t':Nat}(I:Inv X pins σ H s)(mu:Mut (H x))(he:e=x\/H e=some (.own x))(k:∀b u,b≠e->s.heap.get? b=some u->h'.get? b=some u)(heo:∃u,h'.get? e=some u)
  (new:ObjOk X.prog X.w (upd H x o) h' x o):Inv X pins σ (upd H x o) { s with heap:=h',toks:=t' }:=I.un (Un.write mu he k heo) (I.hok.write mu he k heo new)
theorem Inv.pins_of{pins':List (Addr×Obj)}(I:Inv X pins σ H s)(h:∀p∈pins',s.heap.get? p.1=some p.2/\H p.1=none/\p.1≠X.env.locals/\p.1∉X.fs/\∀v,p.2.data≠.cell v):Inv X pins' σ H s :=
 ⟨I.ok,I.os,I.bare,I.base,I.loc,I.cell,I.free,I.freeC,λp hp=>(List.mem_append.mp hp).elim (λz=>I.pin p (List.mem_append_left _ z)) (h p),I.hok,I.len⟩
theorem qm9{N:List Str}(hN:N.Nodup){i j:Nat}{x:Str}(a:N[i]?=some x)(b:N[j]?=some x):i=j:=by
 obtain⟨h1,e1⟩:=List.getElem?_eq_some_iff.mp a
 obtain⟨h2,e2⟩:=List.getElem?_eq_some_iff.mp b
 exact(List.getElem_inj hN).mp (e1.trans e2.symm)
theorem qke{M:Model}{A:Around}{E:Value->Shared->Prop}{i:Nat}{x:Str}{v:V}{u:Value}{Q:Unit->Shared->Prop}(I:Inv X pins σ H s)(hN:X.N.Nodup)(hi:X.N[i]?=some x)(hx:Loc X.env.scope x)(r:RelV v u)
  (h:∀s',Inv X pins (σ.set i (some v)) H s'->(∃a,Heap.SameBut a s.heap s'.heap/\(a=X.env.locals\/X.env.cells.lookup x=some a))->Q () s') (hf:X.fn x=true\/X.env.scope.names.lookup x=some .local:=by first|exact .inl rfl|exact .inr rfl|assumption):wpAny M A (storeName X.env x u) Q E s:=by
 obtain⟨m,hn,hl⟩:=id I.loc
 have hcls:(X.env.scope.kind==.class||(X.env.scope.kind==.module&&X.env.locals != X.env.globals))=false:=by rw[I.ok.kind];rfl
 have hiσ:i<σ.length:=by rw[I.len];exact(List.getElem?_eq_some_iff.mp hi).1
 have cne:=I.cne
 have tracked:∀ {a:Addr} {h':Heap},(∃o,s.heap.get? a=some o/\H a=none)->Heap.SameBut a s.heap h'->HOk X.prog X.w H h':=λ{a h'} ha hs b ob e=>by
  obtain⟨_,_,hfree⟩:=ha
  refine(I.hok b ob e).stay (λc w' hc q=>(hs.2 c ?_).trans q) (λ_ q=>q) λ_ _ q=>q
  rintro rfl
  rcases hc with rfl|hc
  ·rw[hfree] at e;cases e
  ·rw[hfree] at hc;cases hc
 rcases hx with hk|hk
 ·refine wpAny_storeName_local hk hn (λh' hn' hs=>?_) hcls
  obtain⟨oL,_,_,hoL,_⟩:=id hn
  refine h _ ⟨I.ok,I.os,I.bare,⟨λb o e n hb hx=>?_,λb o e n hb hx=>?_,I.base.free,λb o e hx=>?_,I.base.tups,I.base.frzs,I.base.tbls⟩,⟨_,hn',λj y v' e1 e2 e3=>?_⟩,λy c e=>?_,I.free,I.freeC,λp hp=>?_,tracked ⟨oL,hoL,I.free⟩ hs,by simpa using I.len⟩ ⟨_,hs,.inl rfl⟩
  ·exact(hs.2 b (Nat.ne_of_lt (Nat.lt_of_lt_of_le (Heap.lt_size e) I.ok.above))).trans (I.base.keep b o e n hb hx)
  ·obtain⟨sl,e1⟩:=I.base.slot b o e n hb hx
   exact⟨sl,(hs.2 b (Nat.ne_of_lt (Nat.lt_of_lt_of_le (Heap.lt_size e) I.ok.above))).trans e1⟩
  ·obtain⟨o',e1⟩:=I.base.there b o e hx
   exact⟨o',(hs.2 b (Nat.ne_of_lt (Nat.lt_of_lt_of_le (Heap.lt_size e) I.ok.above))).trans e1⟩
  ·by_cases hj:j=i
   ·subst hj
    rw[hi] at e1;cases e1
    rw[List.getElem?_set_self hiσ] at e2
    cases e2
    exact⟨u,r,.inl ⟨hk,by simp⟩⟩
   ·rw[List.getElem?_set_ne (Ne.symm hj)] at e2
    obtain⟨u',r',q⟩:=hl j y v' e1 e2 e3
    refine⟨u',r',?_⟩
    rcases q with ⟨k,e⟩|⟨k,c,e,z⟩
    ·refine .inl ⟨k,?_⟩
     have:y≠x:=λe=>hj (qm9 hN e1 (e▸hi))
     simp[this,e]
    ·exact .inr ⟨k,c,e,z.sameBut hs (cne y c e)⟩
  ·obtain⟨w',z⟩:=I.cell y c e
   exact⟨w',z.sameBut hs (cne y c e)⟩
  ·obtain⟨e,n,ne,nf,d⟩:=I.pin p hp
   exact⟨(hs.2 p.1 ne).trans e,n,ne,nf,d⟩
 ·have hfn:X.fn x=true:=by
   rcases hf with z|z
   ·exact z
   ·rw[z] at hk;cases hk
  obtain⟨c,hc⟩:=I.ok.has x (.inl hk)
  obtain⟨w',z⟩:=I.cell x c hc
  refine wpAny_storeName_cell I.ok.kind hk hc z (λh' hc' hs=>?_)
  obtain⟨oc,hoc,hocd⟩:=id z
  refine h { s with heap:=h' } ⟨I.ok,I.os,I.bare,⟨λb o e n hb hx=>?_,λb o e n hb hx=>?_,I.base.free,λb o e hx=>?_,I.base.tups,I.base.frzs,I.base.tbls⟩,⟨m,hn.sameBut hs (Ne.symm (cne x c hc)),λj y v' e1 e2 e3=>?_⟩,λy c' e=>?_,I.free,I.freeC,λp hp=>?_,tracked ⟨oc,hoc,I.freeC x c hc⟩ hs,by simpa using I.len⟩ ⟨c,hs,.inr hc⟩
  ·exact(hs.2 b (Nat.ne_of_lt (Nat.lt_of_lt_of_le (Heap.lt_size e) (I.ok.cab x c hfn hc)))).trans (I.base.keep b o e n hb hx)
  ·obtain⟨sl,e1⟩:=I.base.slot b o e n hb hx
   exact⟨sl,(hs.2 b (Nat.ne_of_lt (Nat.lt_of_lt_of_le (Heap.lt_size e) (I.ok.cab x c hfn hc)))).trans e1⟩
  ·obtain⟨o',e1⟩:=I.base.there b o e hx
   exact⟨o',(hs.2 b (Nat.ne_of_lt (Nat.lt_of_lt_of_le (Heap.lt_size e) (I.ok.cab x c hfn hc)))).trans e1⟩
  ·by_cases hj:j=i
   ·subst hj
    rw[hi] at e1;cases e1
    rw[List.getElem?_set_self hiσ] at e2
    cases e2
    exact⟨u,r,.inr ⟨.inl hk,c,hc,hc'⟩⟩
   ·rw[List.getElem?_set_ne (Ne.symm hj)] at e2
    obtain⟨u',r',q⟩:=hl j y v' e1 e2 e3
    refine⟨u',r',?_⟩
    rcases q with q|⟨k,c',e,z'⟩
    ·exact .inl q
    ·refine .inr ⟨k,c',e,z'.sameBut hs ?_⟩
     rintro rfl
     exact hj (qm9 hN e1 (I.ok.inj _ _ _ e hc▸hi))
  ·by_cases hcc:c'=c
   ·subst hcc;exact⟨_,hc'⟩
   ·obtain⟨w2,z2⟩:=I.cell y c' e
    exact⟨w2,z2.sameBut hs hcc⟩
  ·obtain⟨e,n,ne,nf,d⟩:=I.pin p hp
   refine⟨(hs.2 p.1 ?_).trans e,n,ne,nf,d⟩
   intro q
   rw[q,hoc] at e
   have q':oc=p.2:=Option.some.inj e
   exact d w' (by rw[←q'];exact hocd)
theorem qiw{M:Model}{A:Around}{E:Value->Shared->Prop}{i:Nat}{x:Str}{v:V}{u:Value}{Q:Unit->Shared->Prop}(I:Inv X pins σ H s)(hN:X.N.Nodup)(hi:X.N[i]?=some x)(hx:Loc X.env.scope x)(r:RelV v u)
  (h:∀s',Inv X pins (σ.set i (some v)) H s'->Q () s') (hf:X.fn x=true\/X.env.scope.names.lookup x=some .local:=by first|exact .inl rfl|exact .inr rfl|assumption):wpAny M A (storeName X.env x u) Q E s :=
 qke I hN hi hx r (λs' I' _=>h s' I') hf
theorem Inv.call'{s':Shared}{ch:List Addr}(I:Inv X pins σ H s)(ho:s'.os=s.os)(u:Un (frs X.stack) ch H H' s.heap s'.heap)(hok:HOk X.prog X.w H' s'.heap)(hg:AllBare s'.gens)
  (hch:∀b∈ch,(b∈X.ex\/X.s₀.heap.objs.size<=b)/\b≠X.env.locals/\(∀x c,X.env.cells.lookup x=some c->c≠b)/\∀p∈X.pn++pins,p.1≠b):Inv X pins σ H' s':=by
 obtain⟨h',g',d',t',o'⟩:=s'
 have e:o'=s.os:=ho
 subst e
 exact I.call (g':=g') (t':=t') (d':=d') u hok hg hch
end
abbrev XK:=Value->Option Addr->Hp->Prop
abbrev St:=List (Option V)
abbrev VK:=V->Hp->Prop
abbrev TE:=St->Hp->VK->Prop
abbrev TT:=St->Hp->(Bool->Hp->Prop)->Prop
abbrev TA:=St->Hp->(List V->Hp->Prop)->Prop
structure Ends where
 nx:St->Hp->Prop
 rt:VK
 bk:St->Hp->Prop:=λ_ _=>False
 ct:St->Hp->Prop:=λ_ _=>False
abbrev TS:=Ends->St->Hp->Prop
def EP(X:Cx)(pins:List (Addr×Obj))(σ:St)(Q:VK)(u:Value)(s':Shared):Prop:=∃v H',Inv X pins σ H' s'/\RelV v u/\Q v H'
def TP(X:Cx)(pins:List (Addr×Obj))(σ:St)(Q:Bool->Hp->Prop)(b:Bool)(s':Shared):Prop:=∃H',Inv X pins σ H' s'/\Q b H'
def AP(X:Cx)(pins:List (Addr×Obj))(σ:St)(Q:List V->Hp->Prop)(us:List Value)(s':Shared):Prop:=∃vs H',Inv X pins σ H' s'/\Vals vs us/\Q vs H'
def SP(X:Cx)(pins:List (Addr×Obj))(D:Ends)(f:Flow)(s':Shared):Prop :=
 match f with
|.next=>∃σ' H',Inv X pins σ' H' s'/\D.nx σ' H'
|.brk=>∃σ' H',Inv X pins σ' H' s'/\D.bk σ' H'
|.cont=>∃σ' H',Inv X pins σ' H' s'/\D.ct σ' H'
|.ret u=>∃v σ' H',Inv X pins σ' H' s'/\RelV v u/\D.rt v H'
def PE(X:Cx)(e:Expr)(t:TE):Prop :=
 ∀(pins:List (Addr×Obj)) (s:Shared) (σ:St) (H:Hp) (Q:VK),Inv X pins σ H s->t σ H Q->wpAny (model X.prog X.w) X.A (eval e X.env) (EP X pins σ Q) X.xe s
def PT(X:Cx)(e:Expr)(t:TT):Prop :=
 ∀(pins:List (Addr×Obj)) (s:Shared) (σ:St) (H:Hp) (Q:Bool->Hp->Prop),Inv X pins σ H s->t σ H Q->wpAny (model X.prog X.w) X.A (isTrue e X.env (eval e X.env)) (TP X pins σ Q) X.xe s
def PW(X:Cx)(e:Expr)(t:TT):Prop :=
 ∀(whole:Sem Value) (pins:List (Addr×Obj)) (s:Shared) (σ:St) (H:Hp) (Q:Bool->Hp->Prop),Inv X pins σ H s->t σ H Q->wpAny (model X.prog X.w) X.A (isTrue e X.env whole) (TP X pins σ Q) X.xe s
theorem PW.pt{X:Cx}{e:Expr}{t:TT}(h:PW X e t):PT X e t:=h _
def PA(X:Cx)(es:List Expr)(t:TA):Prop :=
 ∀(pos:Pos) (pins:List (Addr×Obj)) (s:Shared) (σ:St) (H:Hp) (Q:List V->Hp->Prop),Inv X pins σ H s->t σ H Q->wpAny (model X.prog X.w) X.A (spliced (backTo pos (starEach es X.env))) (AP X pins σ Q) X.xe s
def PS(X:Cx)(st:Stmt)(t:TS):Prop :=
 ∀(pins:List (Addr×Obj)) (s:Shared) (σ:St) (H:Hp) (D:Ends),Inv X pins σ H s->t D σ H->wpAny (model X.prog X.w) X.A (exec st X.env) (SP X pins D) X.xe s
def PSs(X:Cx)(st:List Stmt)(t:TS):Prop :=
 ∀(pins:List (Addr×Obj)) (s:Shared) (σ:St) (H:Hp) (D:Ends),Inv X pins σ H s->t D σ H->wpAny (model X.prog X.w) X.A (execs st X.env) (SP X pins D) X.xe s
theorem thn{α:Type}{t:Sem α}{Q Q':α->Shared->Prop}{M:Model}{A:Around}{E:Value->Shared->Prop}{s:Shared}(h:wpAny M A t Q E s)(hQ:∀a s,Q a s->Q' a s):wpAny M A t Q' E s:=wpAny_mono h hQ λ_ _ x=>x
end L2
namespace L2
open PySem PySem.Spec PyProof.Rows
section
variable {X:Cx}
def tVar(i:Nat):TE:=λσ H Q=>∃v,σ[i]?=some (some v)/\Q v H
def tC(v:V):TE:=λ_ H Q=>Q v H
theorem q1c{i:Nat}{x:Str}{pos:Pos}(hN:X.N[i]?=some x)(hv:Vis X.env.scope x)(hd:(x==("__debug__" : Str))=false:=by decide)(hcd:(x==("__classdict__" : Str))=false:=by decide):PE X (.Name x pos) (tVar i):=by
 intro pins s σ H Q I h
 obtain⟨v,e,h⟩:=h
 obtain⟨m,hn,hl⟩:=I.loc
 obtain⟨u,r,l⟩:=hl i x v hN e hv
 have fin:EP X pins σ Q u s:=⟨v,H,I,r,h⟩
 rcases l with ⟨hk,hm⟩|⟨hk,c,hc,hcell⟩
 ·exact wpAny_Name (wpAny_loadName_local I.ok.kind hk hn hm fin) hd
 ·rcases hk with hk|hk
  ·exact wpAny_Name (wpAny_loadName_cell I.ok.kind hk hc hcell fin) hd
  ·exact wpAny_Name (wpAny_loadName_free I.ok.kind hk hc hcell fin hcd) hd
theorem q07{i j pos}:PE X (.Constant (.int i) j pos) (tC (.int i)):=λ_ _ _ H _ I h=>wpAny_Constant_int ⟨.int i,H,I.tok _,⟨_,rfl⟩,h⟩
theorem q3l{b j pos}:PE X (.Constant (.bool b) j pos) (tC (.bl b)):=λ_ _ _ H _ I h=>Constant_bool ⟨.bl b,H,I,rfl,h⟩
theorem q1a{x j pos}:PE X (.Constant (.str x) j pos) (tC (.str x)):=λ_ _ _ H _ I h=>Calls.Constant_str ⟨.str x,H,I.tok _,⟨_,rfl⟩,h⟩
def Gl(X:Cx)(x:Str):Prop:=X.env.kindOf x=some .globalImplicit
theorem qgh{E:Value->Shared->Prop}{pins:List (Addr×Obj)}{s:Shared}{σ:St}{H:Hp}{x:Str}{u:Value}{pos:Pos}{Q:Value->Shared->Prop}(I:Inv X pins σ H s)(hg:Gl X x)(hm:X.mg x=some u)(h:Q u s)
  (hd:(x==("__debug__" : Str))=false:=by decide):wpAny (model X.prog X.w) X.A (eval (.Name x pos) X.env) Q E s :=
 Calls.Name_function_global I.ok.kind hg (Calls.loadGlobal_global (by rw[I.ok.glob];exact I.mod.glob.keeps I.bk) hm h) hd
theorem qjs{E:Value->Shared->Prop}{pins:List (Addr×Obj)}{s:Shared}{σ:St}{H:Hp}{x:Str}{u:Value}{pos:Pos}{Q:Value->Shared->Prop}(I:Inv X pins σ H s)(hg:Gl X x)(hm:X.mg x=none)(hv:bootBuiltins x=some u)(h:Q u s)
  (hn:x≠"__name__" := by decide) (hd:(x==("__debug__" : Str))=false:=by decide):wpAny (model X.prog X.w) X.A (eval (.Name x pos) X.env) Q E s:=by
 obtain⟨mb,h1,h2⟩:=I.mod.blt
 exact Calls.Name_function_global I.ok.kind hg (Calls.loadGlobal_builtin (by rw[I.ok.glob];exact I.mod.glob.keeps I.bk) hm (by rw[I.ok.blt];exact h1.keeps I.bk) ((h2 x hn).trans hv) h) hd
theorem qxy{x:Str}{v:V}{u:Value}{pos:Pos}(hg:Gl X x)(hm:X.mg x=some u)(r:RelV v u)(hd:(x==("__debug__" : Str))=false:=by decide):PE X (.Name x pos) (tC v) :=
 λ_ _ _ H _ I h=>qgh I hg hm ⟨v,H,I,r,h⟩ hd
theorem qxu{x:Str}{v:V}{u:Value}{pos:Pos}(hg:Gl X x)(hm:X.mg x=none)(hv:bootBuiltins x=some u)(r:RelV v u)(hn:x≠"__name__" := by decide)(hd:(x==("__debug__" : Str))=false:=by decide):PE X (.Name x pos) (tC v) :=
 λ_ _ _ H _ I h=>qjs I hg hm hv ⟨v,H,I,r,h⟩ hn hd
variable {a b:Expr} {ta tb:TE} {pos:Pos}
def PC(X:Cx)(op:CmpOp)(a b:Expr)(t:TE):Prop :=
 ∀(pins:List (Addr×Obj)) (s:Shared) (σ:St) (H:Hp) (Q:VK),Inv X pins σ H s->t σ H Q ->
  wpAny (model X.prog X.w) X.A (eval a X.env) (λv s₁=>wpAny (model X.prog X.w) X.A (eval b X.env) (λu s₂=>wpAny (model X.prog X.w) X.A (compareOp op v u) (EP X pins σ Q) X.xe s₂) X.xe s₁) X.xe s
theorem qtj(b:Expr){op:CmpOp}(h:op≠.In)(h2:op≠.NotIn):behindInMarks op b=false:=by
 have e1:(op==CmpOp.In)=false:=by cases op<;>first|rfl|exact absurd rfl h
 have e2:(op==CmpOp.NotIn)=false:=by cases op<;>first|rfl|exact absurd rfl h2
 cases b<;>simp[behindInMarks,e1,e2]
def tB(t:TE):TT:=λσ H Q=>t σ H λx H1=>∃c,x=.bl c/\Q c H1
theorem q1m{op:CmpOp}{t:TE}(h:PC X op a b t)(h1:behindInMarks op b=false:=by first|exact qtj _ (by decide) (by decide)|rfl):PT X (.Compare a [op] [b] pos) (tB t):=by
 intro pins s σ H Q I hw
 refine wpAny_isTrue_Compare1 (thn (h pins s σ H _ I hw) λv s1 h1=>thn h1 λu s2 h2=>thn h2 λc s3 ⟨x,H1,I1,r1,q1⟩=>?_) h1
 obtain⟨d,rfl,q⟩:=q1
 cases r1
 exact wpAny_truthy_bool ⟨H1,I1,q⟩
theorem q1o{e:Expr}{t:TE}(h:PE X e t)(he:∀whole,isTrue e X.env whole=(do let v ←whole;standAt e.pos;holding [v] (truthy v)):=by intro _;rfl):PT X e (tB t):=by
 intro pins s σ H Q I hw
 refine isTrue_plain (thn (h pins s σ H _ I hw) λv s1 ⟨x,H1,I1,r1,q1⟩=>?_) (he _)
 obtain⟨d,rfl,q⟩:=q1
 cases r1
 exact wpAny_truthy_bool ⟨H1,I1,q⟩
variable {tA tB':TT} {rest:List Expr}
def tAnd(t u:TT):TT:=λσ H Q=>t σ H λc H1=>if c=true then u σ H1 Q else Q false H1
def tOr(t u:TT):TT:=λσ H Q=>t σ H λc H1=>if c=true then Q true H1 else u σ H1 Q
def tNot(t:TT):TT:=λσ H Q=>t σ H λc H1=>Q (!c) H1
theorem qyb(ha:PT X a tA):PW X (.BoolOp .And [a] pos) tA:=by
 intro wh pins s σ H Q I h
 refine isTrue_and (thn (ha pins s σ H Q I h) λc s1 e=>?_)
 cases c with
|true=>exact isTrue_and_nil e
|false=>exact e
theorem q1r(ha:PT X a tA):PW X (.BoolOp .Or [a] pos) tA:=by
 intro wh pins s σ H Q I h
 refine isTrue_or (thn (ha pins s σ H Q I h) λc s1 e=>?_)
 cases c with
|false=>exact isTrue_or_nil e
|true=>exact e
theorem q1q(ha:PT X a tA)(hb:PW X (.BoolOp .And (b::rest) pos) tB'):PW X (.BoolOp .And (a::b::rest) pos) (tAnd tA tB'):=by
 intro wh pins s σ H Q I h
 refine isTrue_and (thn (ha pins s σ H _ I h) λc s1 ⟨H1,I1,q1⟩=>?_)
 cases c with
|true=>exact hb wh pins s1 σ H1 Q I1 q1
|false=>exact⟨H1,I1,q1⟩
theorem q3t(ha:PT X a tA)(hb:PW X (.BoolOp .Or (b::rest) pos) tB'):PW X (.BoolOp .Or (a::b::rest) pos) (tOr tA tB'):=by
 intro wh pins s σ H Q I h
 refine isTrue_or (thn (ha pins s σ H _ I h) λc s1 ⟨H1,I1,q1⟩=>?_)
 cases c with
|true=>exact⟨H1,I1,q1⟩
|false=>exact hb wh pins s1 σ H1 Q I1 q1
theorem q1n(ha:PT X a tA):PT X (.UnaryOp .Not a pos) (tNot tA):=by
 intro pins s σ H Q I h
 exact isTrue_not (ha pins s σ H (λc H1=>Q (!c) H1) I h)
def q2k(ta tb:TE):TE:=λσ H Q=>ta σ H λx H1=>∃c,x=.bl c/\if c=true then tb σ H1 Q else Q (.bl false) H1
def tOrV(ta tb:TE):TE:=λσ H Q=>ta σ H λx H1=>∃c,x=.bl c/\if c=true then Q (.bl true) H1 else tb σ H1 Q
theorem q09{op}{t:TE}(h:PE X a t):PE X (.BoolOp op [a] pos) t:=λpins s σ H Q I hw=>BoolOp_one (h pins s σ H Q I hw)
theorem q04(ha:PE X a ta)(hb:PE X (.BoolOp .And (b::rest) pos) tb):PE X (.BoolOp .And (a::b::rest) pos) (q2k ta tb):=by
 intro pins s σ H Q I h
 refine BoolOp_and (thn (ha pins s σ H _ I h) λv s1 ⟨x,H1,I1,r1,q1⟩=>?_)
 obtain⟨c,rfl,q1⟩:=q1
 cases r1
 refine wpAny_truthy_bool ?_
 cases c with
|true=>exact hb pins s1 σ H1 Q I1 q1
|false=>exact⟨.bl false,H1,I1,rfl,q1⟩
theorem q3p(ha:PE X a ta)(hb:PE X (.BoolOp .Or (b::rest) pos) tb):PE X (.BoolOp .Or (a::b::rest) pos) (tOrV ta tb):=by
 intro pins s σ H Q I h
 refine BoolOp_or (thn (ha pins s σ H _ I h) λv s1 ⟨x,H1,I1,r1,q1⟩=>?_)
 obtain⟨c,rfl,q1⟩:=q1
 cases r1
 refine wpAny_truthy_bool ?_
 cases c with
|false=>exact hb pins s1 σ H1 Q I1 q1
|true=>exact⟨.bl true,H1,I1,rfl,q1⟩
def tIf(t:TT)(ta tb:TE):TE:=λσ H Q=>t σ H λc H1=>if c=true then ta σ H1 Q else tb σ H1 Q
theorem qts{c:Expr}(hc:PT X c tA)(ha:PE X a ta)(hb:PE X b tb):PE X (.IfExp c a b pos) (tIf tA ta tb):=by
 intro pins s σ H Q I h
 refine wpAny_IfExp (thn (hc pins s σ H _ I h) λd s1 ⟨H1,I1,q1⟩=>?_)
 cases d with
|true=>exact ha pins s1 σ H1 Q I1 q1
|false=>exact hb pins s1 σ H1 Q I1 q1
end
end L2
namespace L2
open PySem PySem.Spec PyProof.Rows
def SqL(K:PySem.W.Frag)(H:Hp)(a:Addr)(xs:List V):Prop :=
 Rd H a (.lst xs) \/
  ∃(o:Obj) (its:Array Value) (n:Nat),K.lookup a=some o/\o.cls=.type "list" /\ o.dict=none/\o.data=.seq its n/\its.size<=sizeLine/\Vals xs its.toList
def SqT(K:PySem.W.Frag)(H:Hp)(a:Addr)(xs:List V):Prop :=
 Rd H a (.tup xs) \/
  ∃(o:Obj) (its:Array Value) (n:Nat),K.lookup a=some o/\o.cls=.type "tuple" /\ o.data=.seq its n/\its.size<=sizeLine/\Vals xs its.toList
def absV:Value->Option V
|.none=>some .non
|.bool b=>some (.bl b)
|.int i _=>some (.int i)
|.str x _=>some (.str x)
|.bytes b _=>some (.byt b)
|.float b _=>some (.flt b)
|.ref a=>some (.ref a)
|.type n=>some (.ty n)
|_=>none
theorem RelV.abs{x:V}{u:Value}(r:RelV x u):absV u=some x:=by
 cases x with
|non=>cases r;rfl
|bl _=>cases r;rfl
|int _=>obtain⟨t,rfl⟩:=r;rfl
|str _=>obtain⟨t,rfl⟩:=r;rfl
|byt _=>obtain⟨t,rfl⟩:=r;rfl
|flt _=>obtain⟨t,rfl⟩:=r;rfl
|ref _=>cases r;rfl
|ty _=>cases r;rfl
theorem RelV.inj{x y:V}{u:Value}(r:RelV x u)(q:RelV y u):x=y:=Option.some.inj (r.abs.symm.trans q.abs)
theorem Vals.inj:∀ {xs ys:List V} {us:List Value},Vals xs us->Vals ys us->xs=ys
|_,_,_,.nil,.nil=>rfl
|_,_,_,.cons r t,.cons r' t'=>by rw[r.inj r',Vals.inj t t']
section
variable {X:Cx} {pins:List (Addr×Obj)} {σ:St} {H:Hp} {s:Shared} {a:Addr} {xs ys:List V}
theorem SqL.of{K:PySem.W.Frag}(h:H a=some (.lst xs)):SqL K H a xs:=.inl (.inl h)
theorem SqT.of{K:PySem.W.Frag}(h:H a=some (.tup xs)):SqT K H a xs:=.inl (.inl h)
theorem Inv.list(I:Inv X pins σ H s)(h:SqL X.K H a xs):∃its:List Value,Vals xs its/\PlainL s.heap a its.toArray/\xs.length<=sizeLine:=by
 rcases h with h|⟨o,its,n,hk,hc,hd,hs,hz,r⟩
 ·obtain⟨z,its,n,r,e⟩:=h.ok I.hok
  exact⟨its,r,⟨_,n,e,rfl,rfl,rfl⟩,z⟩
 ·refine⟨its.toList,r,⟨o,n,I.kIn a o hk,hc,hd,by simpa using hs⟩,?_⟩
  have e:=r.length
  simp only[Array.length_toList] at e
  lia
theorem Inv.tuple(I:Inv X pins σ H s)(h:SqT X.K H a xs):∃its:List Value,Vals xs its/\IsTup s.heap a its.toArray/\xs.length<=sizeLine:=by
 rcases h with h|⟨o,its,n,hk,hc,hs,hz,r⟩
 ·obtain⟨z,its,r,p⟩:=h.ok I.hok
  exact⟨its,r,p,z⟩
 ·refine⟨its.toList,r,⟨o,I.kIn a o hk,hc,n,by simpa using hs⟩,?_⟩
  have e:=r.length
  simp only[Array.length_toList] at e
  lia
theorem Inv.list_inj(I:Inv X pins σ H s)(h:SqL X.K H a xs)(h':SqL X.K H a ys):xs=ys:=by
 obtain⟨its,r,⟨o,n,e,_,_,d⟩,_⟩:=I.list h
 obtain⟨its',r',⟨o',n',e',_,_,d'⟩,_⟩:=I.list h'
 rw[e] at e';cases e'
 rw[d] at d'
 injection d' with d1 _
 have:its=its':=by simpa using congrArg Array.toList d1
 subst this
 exact r.inj r'
theorem Inv.tuple_inj(I:Inv X pins σ H s)(h:SqT X.K H a xs)(h':SqT X.K H a ys):xs=ys:=by
 obtain⟨its,r,⟨o,e,_,n,d⟩,_⟩:=I.tuple h
 obtain⟨its',r',⟨o',e',_,n',d'⟩,_⟩:=I.tuple h'
 rw[e] at e';cases e'
 rw[d] at d'
 injection d' with d1 _
 have:its=its':=by simpa using congrArg Array.toList d1
 subst this
 exact r.inj r'
end
abbrev Cx.wish(X:Cx)(E:Value->Shared->Prop):Cx:={ X with xe:=E }
abbrev Cx.nox(X:Cx):Cx:=X.wish λ_ _=>False
theorem Cx.Ok.wish{X:Cx}(ok:X.Ok)(E:Value->Shared->Prop):(X.wish E).Ok :=
 ⟨ok.mod,ok.kind,ok.glob,ok.blt,ok.above,ok.inj,ok.has,ok.cab,ok.hd,ok.frames,ok.stk,ok.exf,ok.bs,ok.bsz,ok.noex,ok.exfs,ok.funs,ok.frf⟩
theorem Cx.Ok.unwish{X:Cx}{E:Value->Shared->Prop}(ok:(X.wish E).Ok):X.Ok :=
 ⟨ok.mod,ok.kind,ok.glob,ok.blt,ok.above,ok.inj,ok.has,ok.cab,ok.hd,ok.frames,ok.stk,ok.exf,ok.bs,ok.bsz,ok.noex,ok.exfs,ok.funs,ok.frf⟩
section
variable {X:Cx} {pins:List (Addr×Obj)} {σ:St} {H:Hp} {s:Shared} {E:Value->Shared->Prop}
theorem Inv.wish(I:Inv X pins σ H s)(E:Value->Shared->Prop):Inv (X.wish E) pins σ H s:=⟨I.ok.wish E,I.os,I.bare,I.base,I.loc,I.cell,I.free,I.freeC,I.pin,I.hok,I.len⟩
theorem Inv.unwish(I:Inv (X.wish E) pins σ H s):Inv X pins σ H s:=⟨I.ok.unwish,I.os,I.bare,I.base,I.loc,I.cell,I.free,I.freeC,I.pin,I.hok,I.len⟩
theorem SP.unwish{D:Ends}{f:Flow}{s':Shared}(h:SP (X.wish E) pins D f s'):SP X pins D f s':=by
 cases f with
|next=>obtain⟨σ',H',I,q⟩:=h;exact⟨σ',H',I.unwish,q⟩
|brk=>obtain⟨σ',H',I,q⟩:=h;exact⟨σ',H',I.unwish,q⟩
|cont=>obtain⟨σ',H',I,q⟩:=h;exact⟨σ',H',I.unwish,q⟩
|ret u=>obtain⟨v,σ',H',I,r,q⟩:=h;exact⟨v,σ',H',I.unwish,r,q⟩
theorem PSs.nox{st:List Stmt}{t:TS}(h:PSs X.nox st t):PSs X st t:=λpins s σ H D I hw =>
 wpAny_mono (h pins s σ H D (I.wish _) hw) (λ_ _ q=>q.unwish) λ_ _ z=>False.elim z
end
section
variable {X:Cx} {st:Stmt} {rest:List Stmt} {t u:TS} {e:Expr} {te:TE} {pos:Pos}
def q2o:TS:=λD σ H=>D.nx σ H
def tSeq(t u:TS):TS:=λD σ H=>t { D with nx:=u D } σ H
theorem qx8:PSs X [] q2o:=λ_ _ σ H _ I h=>wpAny_execs_nil ⟨σ,H,I,h⟩
theorem qty(h1:PS X st t)(h2:PSs X rest u):PSs X (st::rest) (tSeq t u):=by
 intro pins s σ H D I h
 refine wpAny_execs_cons (thn (h1 pins s σ H { D with nx:=u D } I h) λf s1 q=>?_)
 cases f with
|next =>
  obtain⟨σ',H',I',q⟩:=q
  exact h2 pins s1 σ' H' D I' q
|ret v=>exact q
|brk=>exact q
|cont=>exact q
theorem qx9(h1:PS X st t):PSs X [st] t:=by
 intro pins s σ H D I h
 refine wpAny_execs_cons (thn (h1 pins s σ H D I h) λf s1 q=>?_)
 cases f with
|next=>exact wpAny_execs_nil q
|ret v=>exact q
|brk=>exact q
|cont=>exact q
theorem Inv.quiet{pins:List (Addr×Obj)}{σ:St}{H:Hp}{s:Shared}(I:Inv X pins σ H s):interactive X.env=false:=by simp[interactive,I.ok.kind]
def q2n(te:TE):TS:=λD σ H=>te σ H λ_ H1=>D.nx σ H1
theorem qx6(he:PE X e te)(hs:swapsWith e none pos.line X.env=pure false:=by rfl):PS X (.Expr e pos) (q2n te):=by
 intro pins s σ H D I h
 exact wpAny_Expr_any (thn (he pins s σ H _ I h) λv s1 ⟨x,H1,I1,r1,q1⟩=>⟨σ,H1,I1,q1⟩) I.quiet hs
def tRet(te:TE):TS:=λD σ H=>te σ H D.rt
theorem q1k(he:PE X e te):PS X (.Return (some e) pos) (tRet te):=by
 intro pins s σ H D I h
 exact wpAny_Return_some (thn (he pins s σ H _ I h) λv s1 ⟨x,H1,I1,r1,q1⟩=>⟨x,σ,H1,I1,r1,q1⟩)
def tIfS(c:TT)(t u:TS):TS:=λD σ H=>c σ H λb H1=>if b=true then t D σ H1 else u D σ H1
theorem q3s{c:Expr}{a b:List Stmt}{tc:TT}(hc:PT X c tc)(ha:PSs X a t)(hb:PSs X b u):PS X (.If c a b pos) (tIfS tc t u):=by
 intro pins s σ H D I h
 refine wpAny_If (thn (hc pins s σ H _ I h) λd s1 ⟨H1,I1,q1⟩=>?_)
 cases d with
|true=>exact ha pins s1 σ H1 D I1 q1
|false=>exact hb pins s1 σ H1 D I1 q1
end
abbrev TG:=V->St->Hp->(St->Hp->Prop)->Prop
abbrev TGs:=List V->St->Hp->(St->Hp->Prop)->Prop
def PG(X:Cx)(target:Expr)(t:TG):Prop :=
 ∀(pins:List (Addr×Obj)) (s:Shared) (σ:St) (H:Hp) (v:V) (u:Value) (Q:St->Hp->Prop),Inv X pins σ H s->RelV v u->t v σ H Q ->
  wpAny (model X.prog X.w) X.A (assign target X.env u) (λ_ s'=>∃σ' H',Inv X pins σ' H' s'/\Q σ' H') X.xe s
def PGs(X:Cx)(ts:List Expr)(t:TGs):Prop :=
 ∀(pins:List (Addr×Obj)) (s:Shared) (σ:St) (H:Hp) (vs:List V) (us:List Value) (Q:St->Hp->Prop),Inv X pins σ H s->Vals vs us->t vs σ H Q ->
  wpAny (model X.prog X.w) X.A (assignInOrder ((assignEach ts X.env).map (·.2)) us) (λ_ s'=>∃σ' H',Inv X pins σ' H' s'/\Q σ' H') X.xe s
abbrev TSet:=V->V->V->Hp->(Hp->Prop)->Prop
def PSet(X:Cx)(t:TSet):Prop :=
 ∀(pins:List (Addr×Obj)) (s:Shared) (σ:St) (H:Hp) (o i v:V) (ov iv u:Value) (Q:Hp->Prop),Inv X pins σ H s->RelV o ov->RelV i iv->RelV v u->t o i v H Q ->
  wpAny (model X.prog X.w) X.A (setItem ov iv u) (λ_ s'=>∃H',Inv X pins σ H' s'/\Q H') X.xe s
abbrev TIp:=V->V->Hp->VK->Prop
def PIp(X:Cx)(op:Operator)(t:TIp):Prop :=
 ∀(pins:List (Addr×Obj)) (s:Shared) (σ:St) (H:Hp) (x y:V) (v u:Value) (Q:VK),Inv X pins σ H s->RelV x v->RelV y u->t x y H Q ->
  wpAny (model X.prog X.w) X.A (inplaceOp op v u) (EP X pins σ Q) X.xe s
section
variable {X:Cx} {pos:Pos}
def qjp(i:Nat):TG:=λv σ H Q=>Q (σ.set i (some v)) H
theorem qxz{i:Nat}{x:Str}(hN:X.N.Nodup)(hi:X.N[i]?=some x)(hx:Loc X.env.scope x)(hf:X.fn x=true\/X.env.scope.names.lookup x=some .local:=by first|exact .inl rfl|exact .inr rfl|assumption):PG X (.Name x pos) (qjp i):=by
 intro pins s σ H v u Q I r h
 exact wpAny_assign_Name (qiw I hN hi hx r (λs' I'=>⟨_,H,I',h⟩) hf)
def gNil:TGs:=λvs σ H Q=>vs=[]/\Q σ H
def q0a(t:TG)(u:TGs):TGs:=λvs σ H Q=>∃v r,vs=v::r/\t v σ H λσ' H'=>u r σ' H' Q
theorem qx0:PGs X [] gNil:=by
 intro pins s σ H vs us Q I r h
 obtain⟨e,h⟩:=h
 subst e
 cases r
 exact assignInOrder_nil ⟨σ,H,I,h⟩
theorem qtu{e:Expr}{es:List Expr}{t:TG}{u:TGs}(h1:PG X e t)(h2:PGs X es u)
  (hs:(assignEach (e::es) X.env).map (·.2)=assign e X.env::(assignEach es X.env).map (·.2):=by rfl):PGs X (e::es) (q0a t u):=by
 intro pins s σ H vs us Q I r h
 obtain⟨v,vr,e1,h⟩:=h
 subst e1
 cases r with
|cons r rr =>
  rw[hs]
  refine assignInOrder_cons (thn (h1 pins s σ H _ _ _ I r h) λ_ s1 ⟨σ1,H1,I1,q1⟩=>?_)
  exact h2 pins s1 σ1 H1 _ _ Q I1 rr q1
def gTup(K:PySem.W.Frag)(n:Nat)(t:TGs):TG:=λv σ H Q=>∃a xs,v=.ref a/\SqT K H a xs/\xs.length=n/\t xs σ H Q
theorem q1e{es:List Expr}{k:Nat}{t:TGs}{n:Nat}(hc:X.calm=true)(h:PGs X es t)
  (hn:(assignEach es X.env).length=n:=by rfl) (hst:(assignEach es X.env).findIdx? (·.1)=none:=by rfl):PG X (.Tuple es k pos) (gTup X.K n t):=by
 intro pins s σ H v u Q I r hw
 obtain⟨a,xs,e1,hq,hl,hw⟩:=hw
 subst e1
 cases r
 obtain⟨its,rv,ht,hz⟩:=I.tuple hq
 refine assign_Tuple_tuple (I.ok.hd hc) ht (by simp[hn,←hl,rv.length]) hst λh' hx=>?_
 have I1:Inv X pins σ H { s with heap:=h' }:=I.kept (t':=s.toks) λb o e=>hx b o (Nat.ne_of_lt (Heap.lt_size e)) e
 exact h pins _ σ H xs _ Q I1 (by simpa using rv) hw
def gSub(to ti:TE)(t:TSet):TG:=λv σ H Q=>to σ H λo H1=>ti σ H1 λi H2=>t o i v H2 λH3=>Q σ H3
theorem q1d{o i:Expr}{to ti:TE}{t:TSet}(ho:PE X o to)(hi:PE X i ti)(hs:PSet X t)
  (ha:∀v,assign (.Subscript o i pos) X.env v=(do
   let ov ←holding [v] (eval o X.env)
   let iv ←holding [v,ov] (eval i X.env)
   standAt pos
   holding [v,ov,iv] (setItem ov iv v)
   release [v,ov,iv] []):=by intro _;rfl):PG X (.Subscript o i pos) (gSub to ti t):=by
 intro pins s σ H v u Q I r h
 rw[ha]
 refine wpAny_bind (wpAny_holding (thn (ho pins s σ H _ I h) λov s1 ⟨x,H1,I1,r1,q1⟩=>?_))
 refine wpAny_bind (wpAny_holding (thn (hi pins s1 σ H1 _ I1 q1) λiv s2 ⟨y,H2,I2,r2,q2⟩=>?_))
 refine wpAny_bind (wpAny_standAt (wpAny_bind (wpAny_holding (thn (hs pins s2 σ H2 x y v ov iv u _ I2 r1 r2 r q2) λ_ s3 ⟨H3,I3,q3⟩=>?_))))
 exact wpAny_release ⟨σ,H3,I3,q3⟩
def tAsg(te:TE)(g:TG):TS:=λD σ H=>te σ H λx H1=>g x σ H1 D.nx
theorem q1h{tg e:Expr}{te:TE}{g:TG}(he:PE X e te)(hg:PG X tg g)(hs:swapsWithSole [tg] e pos.line X.env=pure false:=by rfl)(hw:swappedStores [tg] e X.env=pure none:=by rfl)
  (h1:(assignEach [tg] X.env).map (·.2)=[assign tg X.env]:=by rfl):PS X (.Assign [tg] e pos) (tAsg te g):=by
 intro pins s σ H D I h
 refine wpAny_Assign_stores (thn (he pins s σ H _ I h) λv s1 ⟨x,H1,I1,r1,q1⟩=>?_) hs hw
 rw[h1]
 exact thn (hg pins s1 σ H1 x v _ I1 r1 q1) λ_ s2 q=>q
theorem q1l{i:Nat}{x:Str}{e:Expr}{te:TE}{pos':Pos}(hN:X.N.Nodup)(hi:X.N[i]?=some x)(hx:Loc X.env.scope x)(he:PE X e te)(hs:swapsWith e (some (.Name x pos')) pos.line X.env=pure false:=by rfl)(hf:X.fn x=true\/X.env.scope.names.lookup x=some .local:=by first|exact .inl rfl|exact .inr rfl|assumption) :
  PS X (.Assign [.Name x pos'] e pos) (tAsg te (qjp i)):=by
 intro pins s σ H D I h
 refine wpAny_Assign_Name (thn (he pins s σ H _ I h) λv s1 ⟨y,H1,I1,r1,q1⟩=>?_) hs
 exact qiw I1 hN hi hx r1 (λs2 I2=>⟨_,H1,I2,q1⟩) hf
def tAug(i:Nat)(te:TE)(ti:TIp):TS:=λD σ H=>∃x,σ[i]?=some (some x)/\te σ H λy H1=>ti x y H1 λz H2=>D.nx (σ.set i (some z)) H2
theorem q1i{i:Nat}{x:Str}{e:Expr}{te:TE}{op:Operator}{ti:TIp}{pos':Pos}(hN:X.N.Nodup)(hi:X.N[i]?=some x)(hx:Loc X.env.scope x)(he:PE X e te)(ho:PIp X op ti)(hf:X.fn x=true\/X.env.scope.names.lookup x=some .local:=by first|exact .inl rfl|exact .inr rfl|assumption) :
  PS X (.AugAssign (.Name x pos') op e pos) (tAug i te ti):=by
 intro pins s σ H D I h
 obtain⟨v,e1,h⟩:=h
 obtain⟨m,hn,hl⟩:=I.loc
 have vis:Vis X.env.scope x:=by rcases hx with k|k;exact .inl k;exact .inr (.inl k)
 obtain⟨u,r,l⟩:=hl i x v hi e1 vis
 refine wpAny_AugAssign_Name ?_
 have go:wpAny (model X.prog X.w) X.A (eval e X.env) (λw s₂=>wpAny (model X.prog X.w) X.A (inplaceOp op u w) (λr s₃=>wpAny (model X.prog X.w) X.A (storeName X.env x r) (λ_=>SP X pins D .next) X.xe s₃) X.xe s₂) X.xe s:=by
  refine thn (he pins s σ H _ I h) λw s1 ⟨y,H1,I1,r1,q1⟩=>?_
  refine thn (ho pins s1 σ H1 v y u w _ I1 r r1 q1) λz s2 ⟨zv,H2,I2,r2,q2⟩=>?_
  exact qiw I2 hN hi hx r2 (λs3 I3=>⟨_,H2,I3,q2⟩) hf
 rcases l with ⟨hk,hm⟩|⟨hk,c,hc,hcell⟩
 ·exact wpAny_loadName_local I.ok.kind hk hn hm go
 ·rcases hk with hk|hk
  ·exact wpAny_loadName_cell I.ok.kind hk hc hcell go
  ·rcases hx with k|k
   ·have:X.env.scope.names.lookup x=some .free:=hk
    rw[k] at this;cases this
   ·have:X.env.scope.names.lookup x=some .free:=hk
    rw[k] at this;cases this
def ipI(f:Int->Int->Int):TIp:=λx y H Q=>∃i j,x=.int i/\y=.int j/\Q (.int (f i j)) H
theorem q0c:PIp X .Add (ipI λi j=>i+j):=by
 intro pins s σ H x y v u Q I r1 r2 h
 obtain⟨i,j,e1,e2,q⟩:=h
 subst e1;subst e2
 obtain⟨t,rfl⟩:=r1
 obtain⟨t',rfl⟩:=r2
 exact iadd_int ⟨.int _,H,I.tok _,⟨_,rfl⟩,q⟩
end
section
variable {X:Cx} {pos:Pos}
def qv0(c:TT)(tb:TS):TS:=λD σ H=>∃W:Nat->St->Hp->Prop,(∃m,W m σ H)/\∀m σ H,W m σ H ->
 c σ H λb H1=>if b=true then ∃N:St->Hp->Prop,(∀σ' H',N σ' H'->∃m',m'<m/\W m' σ' H')/\tb { D with nx:=N,ct:=N,bk:=D.nx } σ H1 else D.nx σ H1
theorem qtx{c:Expr}{body:List Stmt}{tc:TT}{tb:TS}(hp:PassesOwn (model X.prog X.w) X.A X.env X.xe)(hc:PT X c tc)(hb:PSs X body tb):PS X (.While c body [] pos) (qv0 tc tb):=by
 intro pins s σ H D I h
 obtain⟨W,⟨m0,w0⟩,turn⟩:=h
 refine wpAny_While (codeAny_whileLoop (λn s'=>∃σ' H',Inv X pins σ' H' s'/\W n σ' H') ?_ m0 ⟨σ,H,I,w0⟩)
 rintro n s1 ⟨σ1,H1,I1,w1⟩
 refine wpAny_passesOwn hp (thn (hc pins s1 σ1 H1 _ I1 (turn n σ1 H1 w1)) λb s2 ⟨H2,I2,q2⟩=>?_)
 cases b with
|true =>
  obtain⟨N,hN,q2⟩:=q2
  rw[if_pos rfl]
  refine wpAny_passesOwn hp (thn (hb pins s2 σ1 H2 _ I2 q2) λf s3 q3=>?_)
  cases f with
 |next =>
   obtain⟨σ3,H3,I3,n3⟩:=q3
   obtain⟨m',hm,w3⟩:=hN σ3 H3 n3
   exact⟨m',hm,σ3,H3,I3,w3⟩
 |cont =>
   obtain⟨σ3,H3,I3,n3⟩:=q3
   obtain⟨m',hm,w3⟩:=hN σ3 H3 n3
   exact⟨m',hm,σ3,H3,I3,w3⟩
 |brk=>exact q3
 |ret v=>exact q3
|false =>
  rw[if_neg Bool.false_ne_true]
  exact wpAny_execs_nil ⟨σ1,H2,I2,q2⟩
end
structure It where
 go:Nat->Hp->Prop
 yld:Nat->Hp->V->Hp->Prop
 stop:Nat->Hp->Prop
def FpOk(X:Cx)(pins:List (Addr×Obj))(H:Hp)(b:Addr):Prop :=
 H b=none/\b≠X.env.locals/\b∉X.fs/\(b∈X.ex\/X.s₀.heap.objs.size<=b)/\(∀x c,X.env.cells.lookup x=some c->c≠b)/\∀p∈X.pn++pins,p.1≠b
theorem Inv.fpOk{X:Cx}{pins:List (Addr×Obj)}{σ:St}{H H':Hp}{s:Shared}{b:Addr}(I:Inv X pins σ H s)(hb:s.heap.objs.size<=b)(hn:H' b=none):FpOk X pins H' b:=by
 refine⟨hn,Nat.ne_of_gt (Nat.lt_of_lt_of_le I.lt hb),I.nofs hb,.inr (Nat.le_trans I.sz hb),λx c e z=>?_,λp hp z=>?_⟩
 ·obtain⟨v,q⟩:=I.cell x c e
  exact absurd (Nat.lt_of_lt_of_le q.lt (by rw[z];exact hb)) (Nat.lt_irrefl _)
 ·exact absurd (Nat.lt_of_lt_of_le (Heap.lt_size (I.pin p hp).1) (by rw[z];exact hb)) (Nat.lt_irrefl _)
structure Turn(P:Program)(w:World)(K:PySem.W.Frag)(tg:Expr)(J:It)(fp:List Addr)(it:Addr)(tn:Nat->Heap->Prop):Prop where
 mem:it∈fp
 obj:∀i h,tn i h->∀b∈fp,∃o,h.get? b=some o/\∀v,o.data≠.cell v
 keep:∀i h h',tn i h->(∀b∈fp,∀o,h.get? b=some o->h'.get? b=some o)->tn i h'
 item:∀(X:Cx),X.prog=P->X.w=w->X.K=K->X.calm=true->∀(i:Nat) (pins:List (Addr×Obj)) (s:Shared) (σ:St) (H:Hp) (E:Value->Shared->Prop),Inv X pins σ H s->(∀b∈fp,FpOk X pins H b)->tn i s.heap->J.go i H ->
  wpAny (model P w) X.A (pyNext (.ref it)) (λr s1=>∃u,r=some u /\
   wpAny (model P w) X.A (letOwnedTupleGo tg (.ref it) u) (λ_ s2=>∃x H',Inv X pins σ H' s2/\RelV x u/\J.yld i H x H'/\tn (i+1) s2.heap/\∀b∈fp,H' b=none) E s1) E s
 done:∀(X:Cx),X.prog=P->X.w=w->X.K=K->X.calm=true->∀(i:Nat) (pins:List (Addr×Obj)) (s:Shared) (σ:St) (H:Hp) (E:Value->Shared->Prop),Inv X pins σ H s->(∀b∈fp,FpOk X pins H b)->tn i s.heap->J.stop i H ->
  wpAny (model P w) X.A (pyNext (.ref it)) (λr s1=>r=none/\Inv X pins σ H s1) E s
 self:∀(A:Around) (i:Nat) (s:Shared) (Q:Value->Shared->Prop) (E:Value->Shared->Prop),tn i s.heap->Q (.ref it) s->wpAny (model P w) A (pyIter (.ref it)) Q E s
abbrev TI:=St->Hp->(It->Hp->Prop)->Prop
def PIE(X:Cx)(pins:List (Addr×Obj))(σ:St)(tg:Expr)(R:It->Hp->Prop)(itv:Value)(s2:Shared):Prop :=
 ∃(it:Addr) (fp:List Addr) (tn:Nat->Heap->Prop) (J:It) (H':Hp),itv=.ref it/\Inv X pins σ H' s2/\Turn X.prog X.w X.K tg J fp it tn/\tn 0 s2.heap/\(∀b∈fp,FpOk X pins H' b)/\R J H'
def PI(X:Cx)(tg iter:Expr)(wi:TI):Prop :=
 ∀(pins:List (Addr×Obj)) (s:Shared) (σ:St) (H:Hp) (R:It->Hp->Prop),Inv X pins σ H s->wi σ H R ->
  wpAny (model X.prog X.w) X.A (eval iter X.env) (λv s1=>wpAny (model X.prog X.w) X.A (pyIter v) (PIE X pins σ tg R) X.xe s1) X.xe s
theorem qqb{M:Model}{A:Around}{E:Value->Shared->Prop}{s:Shared}{tg:Expr}{it:Addr}{u:Value}{o:Obj}{n:String}{vs:Array Value}{Q:Unit->Shared->Prop}(ho:s.heap.get? it=some o)(hc:o.cls=.type n)(hd:o.data=.fields vs)
    (hn:["enumerate","zip","dict_itemiterator","dict_reverseitemiterator","odict_iterator","itertools.zip_longest","itertools.pairwise"].contains n=false) (hQ:Q () s):wpAny M A (letOwnedTupleGo tg (.ref it) u) Q E s:=by
  unfold letOwnedTupleGo
  cases tg<;>first
   |exact wpAny_pure hQ
   |  (cases u<;>first
       |exact wpAny_pure hQ
       |  (refine wpAny_bind (wpAny_load ho ?_)
           rw[hc,hd]
           show wpAny M A (if (["enumerate","zip","dict_itemiterator","dict_reverseitemiterator","odict_iterator","itertools.zip_longest","itertools.pairwise"].contains n&&vs[0]?==some (rawInt _))=true then _ else _) Q E s
           rw[if_neg (by intro h;rw[hn,Bool.false_and] at h;cases h)]
           exact wpAny_pure hQ))
def Itl(K:PySem.W.Frag)(a:Addr):It :=
 ⟨λi H=>∃xs x,SqL K H a xs/\xs[i]?=some x,λi H x H'=>H'=H/\∀xs,SqL K H a xs->xs[i]?=some x,λi H=>∃xs,SqL K H a xs/\xs.length<=i⟩
def Itt(K:PySem.W.Frag)(a:Addr):It :=
 ⟨λi H=>∃xs x,SqT K H a xs/\xs[i]?=some x,λi H x H'=>H'=H/\∀xs,SqT K H a xs->xs[i]?=some x,λi H=>∃xs,SqT K H a xs/\xs.length<=i⟩
def Itr(lo:Int)(n:Nat):It:=⟨λi _=>i<n,λi H x H'=>H'=H/\x=.int (lo+i),λi _=>n<=i⟩
theorem qrv{P:Program}{w:World}{K:PySem.W.Frag}{tg:Expr}(a it:Addr):Turn P w K tg (Itl K a) [it] it (λi h=>h.IsListIter it a i) where
 mem:=by simp
 obj:=λi h st b hb=>by
  have e:b=it:=by simpa using hb
  subst e
  obtain⟨o,e,c,d⟩:=st
  exact⟨o,e,λv z=>by rw[d] at z;cases z⟩
 keep:=λi h h' st k=>st.at λo e=>k it (by simp) o e
 item:=by
  intro X hP hw hK hc i pins s σ H E I hf st hg
  subst hP hw hK
  obtain⟨xs,x,hq,hx⟩:=hg
  obtain⟨its,rv,p,hz⟩:=I.list hq
  obtain⟨u,hu,ru⟩:=rv.get hx
  obtain⟨f0,f1,f2,f3,f4,f5⟩:=hf it (by simp)
  refine wpAny_pyNext_list_item st p.isList (x:=u) (by simpa using hu) λh' st' sb=>?_
  have I1:Inv X pins σ H { s with heap:=h' }:=I.turned (t':=s.toks) (λb o hb e=>(sb.2 b hb).trans e) f0 f1 f3 f4 f5
  obtain⟨o,e,c,d⟩:=id st'
  exact⟨u,rfl,qqb (s:={ s with heap:=h' }) e c d (by decide) ⟨x,H,I1,ru,⟨rfl,λys hy=>by rw[I.list_inj hy hq];exact hx⟩,st',λb hb=>(hf b hb).1⟩⟩
 done:=by
  intro X hP hw hK hc i pins s σ H E I hf st hg
  subst hP hw hK
  obtain⟨xs,hq,hx⟩:=hg
  obtain⟨its,rv,p,hz⟩:=I.list hq
  obtain⟨f0,f1,f2,f3,f4,f5⟩:=hf it (by simp)
  have hl:=rv.length
  exact wpAny_pyNext_list_end (I.ok.hd hc) st p.isList (by simp;lia) λh' eb=>⟨rfl,I.turned (t':=s.toks) (λb o hb e=>eb b o hb e) f0 f1 f3 f4 f5⟩
 self:=λ_ _ _ _ _ st h=>wpAny_pyIter_listiter st h
theorem qoz{P:Program}{w:World}{K:PySem.W.Frag}{tg:Expr}(a it:Addr):Turn P w K tg (Itt K a) [it] it (λi h=>h.IsTupleIter it a i) where
 mem:=by simp
 obj:=λi h st b hb=>by
  have e:b=it:=by simpa using hb
  subst e
  obtain⟨o,e,c,d⟩:=st
  exact⟨o,e,λv z=>by rw[d] at z;cases z⟩
 keep:=λi h h' st k=>st.at λo e=>k it (by simp) o e
 item:=by
  intro X hP hw hK hc i pins s σ H E I hf st hg
  subst hP hw hK
  obtain⟨xs,x,hq,hx⟩:=hg
  obtain⟨its,rv,p,hz⟩:=I.tuple hq
  obtain⟨u,hu,ru⟩:=rv.get hx
  obtain⟨f0,f1,f2,f3,f4,f5⟩:=hf it (by simp)
  refine wpAny_pyNext_tuple_item st (show s.heap.IsTuple a its.toArray from p) (x:=u) (by simpa using hu) λh' st' sb=>?_
  have I1:Inv X pins σ H { s with heap:=h' }:=I.turned (t':=s.toks) (λb o hb e=>(sb.2 b hb).trans e) f0 f1 f3 f4 f5
  obtain⟨o,e,c,d⟩:=id st'
  exact⟨u,rfl,qqb (s:={ s with heap:=h' }) e c d (by decide) ⟨x,H,I1,ru,⟨rfl,λys hy=>by rw[I.tuple_inj hy hq];exact hx⟩,st',λb hb=>(hf b hb).1⟩⟩
 done:=by
  intro X hP hw hK hc i pins s σ H E I hf st hg
  subst hP hw hK
  obtain⟨xs,hq,hx⟩:=hg
  obtain⟨its,rv,p,hz⟩:=I.tuple hq
  obtain⟨f0,f1,f2,f3,f4,f5⟩:=hf it (by simp)
  have hl:=rv.length
  exact wpAny_pyNext_tuple_end (I.ok.hd hc) st (show s.heap.IsTuple a its.toArray from p) (by simp;lia) λh' eb=>⟨rfl,I.turned (t':=s.toks) (λb o hb e=>eb b o hb e) f0 f1 f3 f4 f5⟩
 self:=λ_ _ _ _ _ st h=>wpAny_pyIter_tupleiter st h
theorem qoy{P:Program}{w:World}{K:PySem.W.Frag}{tg:Expr}(it:Addr)(lo:Int)(n:Nat):Turn P w K tg (Itr lo n) [it] it (λi h=>IsRangeIter h it (lo+(i:Nat)*1) ((n:Int)-(i:Nat)) 1) where
 mem:=by simp
 obj:=λi h st b hb=>by
  have e:b=it:=by simpa using hb
  subst e
  exact⟨_,st,λv z=>by
   have z':Data.fields _=Data.cell v:=z
   cases z'⟩
 keep:=λi h h' st k=>k it (by simp) _ st
 item:=by
  intro X hP hw hK hc i pins s σ H E I hf st hg
  subst hP hw hK
  obtain⟨f0,f1,f2,f3,f4,f5⟩:=hf it (by simp)
  have W:=Walks.range (prog:=X.prog) (w:=X.w) (I.ok.hd hc) it lo 1 n
  refine W.item i s _ _ hg st λv h' tk hv st' kk=>?_
  obtain⟨t,rfl⟩:=hv
  have I1:Inv X pins σ H { s with heap:=h',toks:=tk }:=I.turned (λb o hb e=>kk b o (by simpa using hb) e) f0 f1 f3 f4 f5
  refine⟨_,rfl,qqb (s:={ s with heap:=h',toks:=tk }) (n:="range_iterator") st' rfl rfl (by decide) ⟨.int (lo+i),H,I1,⟨t,?_⟩,⟨rfl,rfl⟩,st',λb hb=>(hf b hb).1⟩⟩
  rw[Int.mul_one]
 done:=by
  intro X hP hw hK hc i pins s σ H E I hf st hg
  subst hP hw hK
  obtain⟨f0,f1,f2,f3,f4,f5⟩:=hf it (by simp)
  exact wpAny_pyNext_range_end (I.ok.hd hc) st (by have:n<=i:=hg;lia) λh' eb=>⟨rfl,I.turned (t':=s.toks) (λb o hb e=>eb b o hb e) f0 f1 f3 f4 f5⟩
 self:=λ_ _ _ _ _ st h=>wpAny_pyIter_rangeiter st h
end L2
namespace L2
open PySem PySem.Spec PyProof.Rows
section
variable {X:Cx} {tg:Expr}
theorem qt9{pins:List (Addr×Obj)}{σ:St}{H:Hp}{s:Shared}{R:It->Hp->Prop}{E:Value->Shared->Prop}{lo hi:Int}{t u v:Tok}{tk:Nat}(I:Inv X pins σ H s)(h1:-(2 ^ 62)<=lo)(h2:lo<2 ^ 62)(h3:-(2 ^ 62)<=hi)(h4:hi<2 ^ 62)
  (q:R (Itr lo (hi-lo).toNat) H):wpAny (model X.prog X.w) X.A (pyIter (.ref s.heap.objs.size)) (PIE X pins σ tg R) E { s with heap:=s.heap.push { cls:=.type "range",data:=.fields #[.int lo t,.int hi u,.int 1 v] },toks:=tk }:=by
 refine wpAny_pyIter_range (IsRange.new ..) (small_one h1 h2 h3 h4) ?_
 have I1:Inv X pins σ H { s with heap:=s.heap.push { cls:=.type "range",data:=.fields #[.int lo t,.int hi u,.int 1 v] },toks:=tk }:=I.kept λb o e=>Heap.get?_push_of_some _ e
 refine⟨(s.heap.push { cls:=.type "range",data:=.fields #[.int lo t,.int hi u,.int 1 v] }).objs.size,[(s.heap.push { cls:=.type "range",data:=.fields #[.int lo t,.int hi u,.int 1 v] }).objs.size],_,_,H,rfl,
  I1.kept (t':=tk) λb o e=>Heap.get?_push_of_some _ e,qoy _ lo (hi-lo).toNat,?_,λb hb=>?_,q⟩
 ·have e1:lo+((0:Nat):Int)*1=lo:=by simp
  have e2:(((hi-lo).toNat:Nat):Int)-((0:Nat):Int)=Builtin.Range.rangeSize lo hi 1:=by rw[rangeSize_one];split<;>lia
  show IsRangeIter _ _ (lo+((0:Nat):Int)*1) ((((hi-lo).toNat:Nat):Int)-((0:Nat):Int)) 1
  rw[e1,e2]
  exact Heap.get?_push_size _ rfl
 ·have e:b=(s.heap.push { cls:=.type "range",data:=.fields #[.int lo t,.int hi u,.int 1 v] }).objs.size:=by simpa using hb
  subst e
  exact I1.fpOk (Nat.le_refl _) (I1.hok.fresh (Nat.le_refl _))
def qwx(ta:TA):TI:=λσ H R=>ta σ H λvs H1=>∃j:Int,vs=[.int j]/\-(2 ^ 62)<=j/\j<2 ^ 62/\R (Itr 0 j.toNat) H1
theorem qq9{a:Expr}{ta:TA}{p pos:Pos}(hg:Gl X "range")(hm:X.mg "range" = none)(ha:PA X [a] ta)(hs:starEach [a] X.env=[(false,eval a X.env)]:=by rfl):PI X tg (.Call (.Name "range" p) [a] [] pos) (qwx ta):=by
 intro pins s σ H R I h
 refine Call_ (qjs I hg hm boot_range (PyProof.Rows.callWith_type1 (thn (ha pos pins s σ H _ I h) λus s1 ⟨vs,H1,I1,r1,q1⟩=>?_) hs rfl))
 obtain⟨j,e,q1,q2,q⟩:=q1
 subst e
 cases r1 with
|cons r rr =>
  cases rr
  obtain⟨t,rfl⟩:=r
  exact call_range_1 (qt9 I1 (by lia) (by lia) q1 q2 (by simpa using q))
def tFor(wi:TI)(g:TG)(tb:TS):TS:=λD σ H=>wi σ H λJ H1=>∃W:Nat->Nat->St->Hp->Prop,(∃m,W 0 m σ H1)/\∀i m σ H,W i m σ H ->
 (J.stop i H/\D.nx σ H)\/(J.go i H/\∃N:St->Hp->Prop,(∀σ' H',N σ' H'->∃m',m'<m/\W (i+1) m' σ' H')/\∀x H',J.yld i H x H'->g x σ H' λσ2 H2=>tb { D with nx:=N,ct:=N,bk:=D.nx } σ2 H2)
def qj6(fp:List Addr)(h:Heap):List (Addr×Obj):=fp.filterMap λb=>(h.get? b).map λo=>(b,o)
theorem qd9{fp:List Addr}{h:Heap}{b:Addr}{o:Obj}(hb:b∈fp)(e:h.get? b=some o):(b,o)∈qj6 fp h:=List.mem_filterMap.mpr ⟨b,hb,by rw[e];rfl⟩
theorem qq1{fp:List Addr}{h:Heap}{p:Addr×Obj}(hp:p∈qj6 fp h):p.1∈fp/\h.get? p.1=some p.2:=by
 obtain⟨b,hb,e⟩:=List.mem_filterMap.mp hp
 cases q:h.get? b with
|none=>rw[q] at e;cases e
|some o =>
  rw[q] at e
  have e':(b,o)=p:=Option.some.inj e
  subst e'
  exact⟨hb,q⟩
theorem Inv.pinned{pins:List (Addr×Obj)}{σ:St}{H:Hp}{s:Shared}{fp:List Addr}(I:Inv X pins σ H s)(hf:∀b∈fp,FpOk X pins H b)(ho:∀b∈fp,∃o,s.heap.get? b=some o/\∀v,o.data≠.cell v):Inv X (pins++qj6 fp s.heap) σ H s :=
 I.pins_of λp hp=>(List.mem_append.mp hp).elim (λz=>I.pin p (List.mem_append_right _ z)) λz=>by
  obtain⟨hb,e⟩:=qq1 z
  obtain⟨f0,f1,f2,_⟩:=hf p.1 hb
  obtain⟨o,e',d⟩:=ho p.1 hb
  rw[e] at e';cases e'
  exact⟨e,f0,f1,f2,d⟩
theorem Inv.unpinned{pins pl:List (Addr×Obj)}{σ:St}{H:Hp}{s:Shared}(I:Inv X (pins++pl) σ H s):Inv X pins σ H s:=I.pins_of λp hp=>I.pin p (List.mem_append_right _ (List.mem_append_left _ hp))
theorem q1j{iter:Expr}{body:List Stmt}{wi:TI}{g:TG}{tb:TS}{pos:Pos}(hp:PassesOwn (model X.prog X.w) X.A X.env X.xe)(hc:X.calm=true)(hi:PI X tg iter wi)(hg:PG X tg g)(hb:PSs X body tb)
  (hs:∀x,foldedSetIterable iter X.env x=pure x:=by intro _;rfl):PS X (.For tg iter body [] pos) (tFor wi g tb):=by
 intro pins s σ H D I h
 refine wpAny_For (thn (hi pins s σ H _ I h) λv s1 h1=>thn h1 λitv s2 h2=>?_) hs
 obtain⟨it,fp,tn,J,H2,e,I2,T,st2,f2,W,⟨m0,w0⟩,turn⟩:=h2
 subst e
 have stat:∀ {H':Hp},(∀b∈fp,H' b=none)->∀b∈fp,FpOk X pins H' b:=λhn b hb=>⟨hn b hb,(f2 b hb).2⟩
 refine codeAny_forLoop_any (λn s'=>∃i σ' H',Inv X pins σ' H' s'/\tn i s'.heap/\(∀b∈fp,H' b=none)/\W i n σ' H') ?_ m0 ⟨0,σ,H2,I2,st2,λb hb=>(f2 b hb).1,w0⟩
 rintro n s3 ⟨i,σ3,H3,I3,st3,fr3,w3⟩
 rcases turn i n σ3 H3 w3 with ⟨stop,qn⟩|⟨go,N,hN,step⟩
 ·refine wpAny_passesOwn hp (thn (T.done X rfl rfl rfl hc i pins s3 σ3 H3 X.xe I3 (stat fr3) st3 stop) λr s4 ⟨hr,I4⟩=>?_)
  subst hr
  exact wpAny_execs_nil ⟨σ3,H3,I4,qn⟩
 ·refine wpAny_passesOwn hp (thn (T.item X rfl rfl rfl hc i pins s3 σ3 H3 X.xe I3 (stat fr3) st3 go) λr s4 ⟨u,hr,h4⟩=>?_)
  subst hr
  refine wpAny_passesOwn hp (thn h4 λ_ s5 ⟨x,H5,I5,r5,y5,st5,fr5⟩=>?_)
  have I5':=I5.pinned (stat fr5) (T.obj _ _ st5)
  refine wpAny_passesOwn hp (thn (hg _ s5 σ3 H5 x u _ I5' r5 (step x H5 y5)) λ_ s6 ⟨σ6,H6,I6,q6⟩=>?_)
  refine wpAny_passesOwn hp (thn (hb _ s6 σ6 H6 _ I6 q6) λf s7 q7=>?_)
  have again:∀ {σ7:St} {H7:Hp},Inv X (pins++qj6 fp s5.heap) σ7 H7 s7->N σ7 H7->∃m,m<n/\∃i σ' H',Inv X pins σ' H' s7/\tn i s7.heap/\(∀b∈fp,H' b=none)/\W i m σ' H':=λ{σ7 H7} I7 n7=>by
   obtain⟨m',hm,w7⟩:=hN σ7 H7 n7
   refine⟨m',hm,i+1,σ7,H7,I7.unpinned,T.keep _ _ _ st5 λb hb o e=>(I7.pin (b,o) (List.mem_append_right _ (List.mem_append_right _ (qd9 hb e)))).1,λb hb=>?_,w7⟩
   obtain⟨o,e,d⟩:=T.obj _ _ st5 b hb
   exact(I7.pin (b,o) (List.mem_append_right _ (List.mem_append_right _ (qd9 hb e)))).2.1
  cases f with
 |next=>obtain⟨σ7,H7,I7,n7⟩:=q7;exact again I7 n7
 |cont=>obtain⟨σ7,H7,I7,n7⟩:=q7;exact again I7 n7
 |brk=>obtain⟨σ7,H7,I7,q7⟩:=q7;exact⟨σ7,H7,I7.unpinned,q7⟩
 |ret v=>obtain⟨x7,σ7,H7,I7,r7,q7⟩:=q7;exact⟨x7,σ7,H7,I7.unpinned,r7,q7⟩
end
end L2
namespace L2
open PySem PySem.Spec PyProof.Rows
abbrev R2:=V->V->Hp->VK->Prop
def OpR(X:Cx)(f:Value->Value->Sem Value)(r:R2):Prop :=
 ∀(pins:List (Addr×Obj)) (s:Shared) (σ:St) (H:Hp) (x y:V) (v u:Value) (Q:VK),Inv X pins σ H s->RelV x v->RelV y u->r x y H Q ->
  wpAny (model X.prog X.w) X.A (f v u) (EP X pins σ Q) X.xe s
def UnR(X:Cx)(f:Value->Sem Value)(r:V->Hp->VK->Prop):Prop :=
 ∀(pins:List (Addr×Obj)) (s:Shared) (σ:St) (H:Hp) (x:V) (v:Value) (Q:VK),Inv X pins σ H s->RelV x v->r x H Q ->
  wpAny (model X.prog X.w) X.A (f v) (EP X pins σ Q) X.xe s
def CallR(X:Cx)(f:Value)(r:List V->Hp->VK->Prop):Prop :=
 ∀(pins:List (Addr×Obj)) (s:Shared) (σ:St) (H:Hp) (xs:List V) (us:List Value) (Q:VK),Inv X pins σ H s->Vals xs us->r xs H Q ->
  wpAny (model X.prog X.w) X.A (call f us) (EP X pins σ Q) X.xe s
def tOp(r:R2)(ta tb:TE):TE:=λσ H Q=>ta σ H λx H1=>tb σ H1 λy H2=>r x y H2 Q
def tUn(r:V->Hp->VK->Prop)(ta:TE):TE:=λσ H Q=>ta σ H λx H1=>r x H1 Q
def rI(C:Int->Int->Prop)(g:Int->Int->V):R2:=λx y H Q=>∃i j,x=.int i/\y=.int j/\C i j/\Q (g i j) H
def rI0(g:Int->Int->V):R2:=λx y H Q=>∃i j,x=.int i/\y=.int j/\Q (g i j) H
def rU(g:Int->V):V->Hp->VK->Prop:=λx H Q=>∃i,x=.int i/\Q (g i) H
section
variable {X:Cx} {a b c:Expr} {ta tb tc:TE} {pos:Pos}
theorem binT(ha:PE X a ta)(hb:PE X b tb){pins:List (Addr×Obj)}{s:Shared}{σ:St}{H:Hp}{R:V->V->Hp->Prop}(I:Inv X pins σ H s)
  (h:ta σ H λx H1=>tb σ H1 λy H2=>R x y H2) {Q:Value->Shared->Prop} {f:Value->Value->Sem Value}
  (hf:∀v u s2 x y H2,Inv X pins σ H2 s2->RelV x v->RelV y u->R x y H2->wpAny (model X.prog X.w) X.A (f v u) Q X.xe s2) :
  wpAny (model X.prog X.w) X.A (eval a X.env) (λv s₁=>wpAny (model X.prog X.w) X.A (eval b X.env) (λu s₂=>wpAny (model X.prog X.w) X.A (f v u) Q X.xe s₂) X.xe s₁) X.xe s:=by
 refine thn (ha pins s σ H _ I h) λv s1 ⟨x,H1,I1,r1,q1⟩=>?_
 refine thn (hb pins s1 σ H1 _ I1 q1) λu s2 ⟨y,H2,I2,r2,q2⟩=>?_
 exact hf v u s2 x y H2 I2 r1 r2 q2
theorem q3o{op:Operator}{r:R2}(ho:OpR X (binaryOp op) r)(ha:PE X a ta)(hb:PE X b tb):PE X (.BinOp a op b pos) (tOp r ta tb):=by
 intro pins s σ H Q I h
 exact wpAny_BinOp (binT ha hb I h λv u s2 x y H2 I2 rx ry q=>ho pins s2 σ H2 x y v u Q I2 rx ry q)
theorem q3q{op:UnaryOp}{r:V->Hp->VK->Prop}(ho:UnR X (unaryOp op) r)(ha:PE X a ta):PE X (.UnaryOp op a pos) (tUn r ta):=by
 intro pins s σ H Q I h
 exact UnaryOp_ (thn (ha pins s σ H _ I h) λv s1 ⟨x,H1,I1,r1,q1⟩=>ho pins s1 σ H1 x v Q I1 r1 q1)
theorem opI{f:Value->Value->Sem Value}{C:Int->Int->Prop}{g:Int->Int->Int}
  (rule:∀(i j:Int) (t u:Tok) (s:Shared) (Q:Value->Shared->Prop) (E:Value->Shared->Prop),C i j->Q (.int (g i j) s.toks) { s with toks:=s.toks+1 }->wpAny (model X.prog X.w) X.A (f (.int i t) (.int j u)) Q E s) :
  OpR X f (rI C λi j=>.int (g i j)):=by
 intro pins s σ H x y v u Q I rx ry h
 obtain⟨i,j,rfl,rfl,hc,q⟩:=h
 obtain⟨t,rfl⟩:=rx
 obtain⟨t',rfl⟩:=ry
 exact rule i j t t' s _ _ hc ⟨.int (g i j),H,I.tok _,⟨_,rfl⟩,q⟩
theorem opI0{f:Value->Value->Sem Value}{g:Int->Int->Int}
  (rule:∀(i j:Int) (t u:Tok) (s:Shared) (Q:Value->Shared->Prop) (E:Value->Shared->Prop),Q (.int (g i j) s.toks) { s with toks:=s.toks+1 }->wpAny (model X.prog X.w) X.A (f (.int i t) (.int j u)) Q E s) :
  OpR X f (rI0 λi j=>.int (g i j)):=by
 intro pins s σ H x y v u Q I rx ry h
 obtain⟨i,j,rfl,rfl,q⟩:=h
 obtain⟨t,rfl⟩:=rx
 obtain⟨t',rfl⟩:=ry
 exact rule i j t t' s _ _ ⟨.int (g i j),H,I.tok _,⟨_,rfl⟩,q⟩
theorem opB0{f:Value->Value->Sem Value}{g:Int->Int->Bool}
  (rule:∀(i j:Int) (t u:Tok) (s:Shared) (Q:Value->Shared->Prop) (E:Value->Shared->Prop),Q (.bool (g i j)) s->wpAny (model X.prog X.w) X.A (f (.int i t) (.int j u)) Q E s) :
  OpR X f (rI0 λi j=>.bl (g i j)):=by
 intro pins s σ H x y v u Q I rx ry h
 obtain⟨i,j,rfl,rfl,q⟩:=h
 obtain⟨t,rfl⟩:=rx
 obtain⟨t',rfl⟩:=ry
 exact rule i j t t' s _ _ ⟨.bl (g i j),H,I,rfl,q⟩
def CDiv(i j:Int):Prop:=0<j/\j<1073741824
def CPow(i j:Int):Prop:=0<=j/\j<=1000000/\i.natAbs<2 ^ 64
def CMul(i j:Int):Prop:=(-(2 ^ 64)<i/\i<2 ^ 64)\/(-(2 ^ 64)<j/\j<2 ^ 64)
theorem CMul.ok{i j:Int}(h:CMul i j):IntMulOk i j:=by
 rcases h with ⟨h1,h2⟩|⟨h1,h2⟩
 ·exact .of_left (intBits_le_64 h1 h2)
 ·exact .of_right (intBits_le_64 h1 h2)
theorem op_add:OpR X (binaryOp .Add) (rI0 λi j=>.int (i+j)):=opI0 λ_ _ _ _ _ _ _ q=>add_int q
theorem q02:OpR X (binaryOp .Sub) (rI0 λi j=>.int (i-j)):=opI0 λ_ _ _ _ _ _ _ q=>sub_int q
theorem q0z:OpR X (binaryOp .Mult) (rI CMul λi j=>.int (i*j)):=opI λ_ _ _ _ _ _ _ hc q=>mul_int q hc.ok
theorem qxn:OpR X (binaryOp .FloorDiv) (rI CDiv λi j=>.int (i / j)):=opI λi j _ _ _ _ _ hc q=>by
 have h1:(0:Int)<j:=hc.1
 have h2:j<1073741824:=hc.2
 exact floordiv_int (by lia) (by rw[Int.fdiv_eq_ediv_of_nonneg i (by lia)];exact q) (.inl (PyProof.noPylong_small (by lia)))
theorem q0y:OpR X (binaryOp .Mod) (rI (λ_ j=>0<j) λi j=>.int (i%j)):=opI λi j _ _ _ _ _ hc q=>by
 have h1:(0:Int)<j:=hc
 exact mod_int' (by lia) (by rw[Int.fmod_eq_emod_of_nonneg i (by lia)];exact q)
theorem q00:OpR X (binaryOp .Pow) (rI CPow λi j=>.int (i ^ j.toNat)):=opI λ_ _ _ _ _ _ _ hc q=>pow_int_small hc.1 hc.2.1 hc.2.2 q
theorem unI{f:Value->Sem Value}{g:Int->Int}
  (rule:∀(i:Int) (t:Tok) (s:Shared) (Q:Value->Shared->Prop) (E:Value->Shared->Prop),Q (.int (g i) s.toks) { s with toks:=s.toks+1 }->wpAny (model X.prog X.w) X.A (f (.int i t)) Q E s) :
  UnR X f (rU λi=>.int (g i)):=by
 intro pins s σ H x v Q I rx h
 obtain⟨i,rfl,q⟩:=h
 obtain⟨t,rfl⟩:=rx
 exact rule i t s _ _ ⟨.int (g i),H,I.tok _,⟨_,rfl⟩,q⟩
theorem q2t:UnR X (unaryOp .USub) (rU λi=>.int (-i)):=unI λ_ _ _ _ _ q=>neg_int q
end
def scal:V->V->Bool
|.non,.non=>true|.non,.int _=>true|.int _,.non=>true|.non,.bl _=>true|.bl _,.non=>true|.non,.str _=>true|.str _,.non=>true
|.int _,.int _=>true|.bl _,.bl _=>true|.str _,.str _=>true|.byt _,.byt _=>true
|.int _,.str _=>true|.str _,.int _=>true|.bl _,.str _=>true|.str _,.bl _=>true
|_,_=>false
def rEq:R2:=λx y H Q=>scal x y=true/\Q (.bl (decide (x=y))) H
theorem qwn{i j:Int}:decide (V.int i=V.int j)=(i==j):=by
 rw[Bool.eq_iff_iff]
 simp
theorem qz3{i j:Bool}:decide (V.bl i=V.bl j)=(i==j):=by
 rw[Bool.eq_iff_iff]
 simp
theorem qwo{i j:Str}:decide (V.str i=V.str j)=(i==j):=by
 rw[Bool.eq_iff_iff]
 simp
theorem qwm{i j:Array UInt8}:decide (V.byt i=V.byt j)=(i.toList==j.toList):=by
 rw[Bool.eq_iff_iff]
 cases i
 cases j
 simp
section
variable {X:Cx} {a b c:Expr} {ta tb tc:TE} {pos:Pos}
theorem qch{pins:List (Addr×Obj)}{σ:St}{H:Hp}{s:Shared}{Q:VK}{k k':Bool}(I:Inv X pins σ H s)(q:Q (.bl k) H)(e:k=k'):EP X pins σ Q (.bool k') s:=by
 subst e
 exact⟨.bl k,H,I,rfl,q⟩
theorem q3g:OpR X (compareOp .Eq) rEq:=by
 intro pins s σ H x y v u Q I rx ry h
 obtain⟨hs,q⟩:=h
 cases x with
|non =>
  cases rx
  cases y with
 |non=>cases ry;exact PySem.EqNone.eq_none_none (qch I q (by simp))
 |bl j=>cases ry;exact PySem.EqNone.eq_none_bool (qch I q (by simp))
 |int j=>obtain⟨t',rfl⟩:=ry;exact PySem.EqNone.eq_none_int (qch I q (by simp))
 |str j=>obtain⟨t',rfl⟩:=ry;exact PySem.EqNone.eq_none_str (qch I q (by simp))
 |_=>exact absurd (show false=true from hs) Bool.false_ne_true
|bl i =>
  cases rx
  cases y with
 |non=>cases ry;exact PySem.EqNone.eq_bool_none (qch I q (by simp))
 |bl j=>cases ry;exact eq_bool (qch I q qz3)
 |str j=>obtain⟨t',rfl⟩:=ry;exact PySem.EqMixed.eq_bool_str (qch I q (by simp))
 |_=>exact absurd (show false=true from hs) Bool.false_ne_true
|int i =>
  obtain⟨t,rfl⟩:=rx
  cases y with
 |non=>cases ry;exact PySem.EqNone.eq_int_none (qch I q (by simp))
 |int j=>obtain⟨t',rfl⟩:=ry;exact eq_int (qch I q qwn)
 |str j=>obtain⟨t',rfl⟩:=ry;exact PySem.EqMixed.eq_int_str (qch I q (by simp))
 |_=>exact absurd (show false=true from hs) Bool.false_ne_true
|str i =>
  obtain⟨t,rfl⟩:=rx
  cases y with
 |non=>cases ry;exact PySem.EqNone.eq_str_none (qch I q (by simp))
 |bl j=>cases ry;exact PySem.EqMixed.eq_str_bool (qch I q (by simp))
 |int j=>obtain⟨t',rfl⟩:=ry;exact PySem.EqMixed.eq_str_int (qch I q (by simp))
 |str j=>obtain⟨t',rfl⟩:=ry;exact eq_str (qch I q qwo)
 |_=>exact absurd (show false=true from hs) Bool.false_ne_true
|byt i =>
  obtain⟨t,rfl⟩:=rx
  cases y with
 |byt j=>obtain⟨t',rfl⟩:=ry;exact PySem.W.eq_bytes (qch I q qwm)
 |_=>exact absurd (show false=true from hs) Bool.false_ne_true
|_=>cases y<;>exact absurd (show false=true from hs) Bool.false_ne_true
theorem q3j:OpR X (compareOp .Lt) (rI0 λi j=>.bl (decide (i<j))):=opB0 λ_ _ _ _ _ _ _ q=>lt_int q
theorem q3i:OpR X (compareOp .LtE) (rI0 λi j=>.bl (decide (i<=j))):=opB0 λ_ _ _ _ _ _ _ q=>le_int q
theorem q3h:OpR X (compareOp .Gt) (rI0 λi j=>.bl (decide (j<i))):=opB0 λ_ _ _ _ _ _ _ q=>gt_int q
theorem op_in_str:OpR X (compareOp .In) (λx y H Q=>∃i j,x=.str i/\y=.str j/\Q (.bl (!(Builtin.Str.occurrences j i 0 j.length 1).isEmpty)) H):=by
 intro pins s σ H x y v u Q I rx ry h
 obtain⟨i,j,rfl,rfl,q⟩:=h
 obtain⟨t,rfl⟩:=rx
 obtain⟨t',rfl⟩:=ry
 exact in_str (qch I q rfl)
theorem op_notin_str:OpR X (compareOp .NotIn) (λx y H Q=>∃i j,x=.str i/\y=.str j/\Q (.bl (!(!(Builtin.Str.occurrences j i 0 j.length 1).isEmpty))) H):=by
 intro pins s σ H x y v u Q I rx ry h
 obtain⟨i,j,rfl,rfl,q⟩:=h
 obtain⟨t,rfl⟩:=rx
 obtain⟨t',rfl⟩:=ry
 exact notIn_str (qch I q rfl)
theorem OpR.or{f:Value->Value->Sem Value}{r r':R2}(h:OpR X f r)(h':OpR X f r'):OpR X f (λx y H Q=>r x y H Q\/r' x y H Q):=by
 intro pins s σ H x y v u Q I rx ry q
 rcases q with q|q
 ·exact h pins s σ H x y v u Q I rx ry q
 ·exact h' pins s σ H x y v u Q I rx ry q
theorem qxw{op:CmpOp}{r:R2}(ho:OpR X (compareOp op) r)(ha:PE X a ta)(hb:PE X b tb)(hm:behindInMarks op b=false):PE X (.Compare a [op] [b] pos) (tOp r ta tb):=by
 intro pins s σ H Q I h
 exact wpAny_Compare1 (binT ha hb I h λv u s2 x y H2 I2 rx ry q=>ho pins s2 σ H2 x y v u Q I2 rx ry q) hm
def quq(t:TE):TT:=λσ H Q=>t σ H λx H'=>∃k,x=.bl k/\Q k H'
theorem qya{op:CmpOp}{r:R2}(ho:OpR X (compareOp op) r)(ha:PE X a ta)(hb:PE X b tb)(hm:behindInMarks op b=false):PT X (.Compare a [op] [b] pos) (quq (tOp r ta tb)):=by
 intro pins s σ H Q I h
 refine wpAny_isTrue_Compare1 (thn (ha pins s σ H _ I h) λv s1 ⟨x,H1,I1,r1,q1⟩=>thn (hb pins s1 σ H1 _ I1 q1) λu s2 ⟨y,H2,I2,r2,q2⟩ =>
  thn (ho pins s2 σ H2 x y v u _ I2 r1 r2 q2) λc s3 ⟨z,H3,I3,r3,k,e,q3⟩=>?_) hm
 subst e
 cases r3
 exact wpAny_truthy_bool ⟨H3,I3,q3⟩
def qrp(r r':R2)(ta tb tc:TE):TE:=λσ H Q=>ta σ H λx H1=>tb σ H1 λy H2=>r x y H2 λz H3=>∃k,z=.bl k /\
 (if k=true then tc σ H3 λw' H4=>r' y w' H4 Q else Q (.bl false) H3)
theorem qtz{op op':CmpOp}{r r':R2}(ho:OpR X (compareOp op) r)(ho':OpR X (compareOp op') r')(ha:PE X a ta)(hb:PE X b tb)(hc:PE X c tc)
  (hm:lastMarks [op,op'] [b,c]=false:=by with_unfolding_all rfl):PT X (.Compare a [op,op'] [b,c] pos) (quq (qrp r r' ta tb tc)):=by
 intro pins s σ H Q I h
 refine isTrue_chain (thn (ha pins s σ H _ I h) λv s1 ⟨x,H1,I1,r1,q1⟩=>test_link (thn (hb pins s1 σ H1 _ I1 q1) λu s2 ⟨y,H2,I2,r2,q2⟩ =>
  thn (ho pins s2 σ H2 x y v u _ I2 r1 r2 q2) λd s3 ⟨z,H3,I3,r3,k,e,q3⟩=>?_)) hm
 subst e
 cases r3
 refine wpAny_truthy_bool ?_
 cases k with
|false =>
  obtain⟨k',e',q'⟩:=q3
  cases e'
  exact ite_ff ⟨H3,I3,q'⟩
|true =>
  refine ite_tt (test_last (thn (hc pins s3 σ H3 _ I3 q3) λw' s4 ⟨z',H4,I4,r4,q4⟩=>thn (ho' pins s4 σ H4 y z' u w' _ I4 r2 r4 q4) λd' s5 ⟨z2,H5,I5,r5,k2,e2,q5⟩=>?_))
  subst e2
  cases r5
  exact wpAny_truthy_bool ⟨H5,I5,q5⟩
theorem qho:(sizeLine:Nat)<2 ^ 63:=by rw[sizeLine_eq];decide
theorem op_add_str:OpR X (binaryOp .Add) (λx y H Q=>∃i j,x=.str i/\y=.str j/\i.length+j.length<=sizeLine/\Q (.str (i++j)) H):=by
 intro pins s σ H x y v u Q I rx ry h
 obtain⟨i,j,rfl,rfl,hz,q⟩:=h
 obtain⟨t,rfl⟩:=rx
 obtain⟨t',rfl⟩:=ry
 exact add_str (λt' tk=>⟨.str (i++j),H,I.tok _,⟨_,rfl⟩,q⟩) hz
theorem vals1{x:V}{us:List Value}(r:Vals [x] us):∃u,us=[u]/\RelV x u:=by
 cases r with
|cons r1 r2=>cases r2;exact⟨_,rfl,r1⟩
theorem vals2{x y:V}{us:List Value}(r:Vals [x,y] us):∃u w',us=[u,w']/\RelV x u/\RelV y w':=by
 cases r with
|cons r1 r2 =>
  cases r2 with
 |cons r3 r4=>cases r4;exact⟨_,_,rfl,r1,r3⟩
theorem qjj:CallR X (.type "str") (λxs H Q=>∃i,xs=[.int i]/\i.natAbs.log2<1920/\Q (.str (toString i)) H):=by
 intro pins s σ H xs us Q I r h
 obtain⟨i,rfl,hz,q⟩:=h
 obtain⟨u,rfl,t,rfl⟩:=vals1 r
 exact PySem.P.str_of_int hz ⟨.str _,H,I.tok _,⟨_,rfl⟩,q⟩
end
end L2
namespace L2
open PySem PySem.Spec PyProof.Rows
structure ObjM(h:Heap)(x dx C:Addr)(mA:Str->Option Value):Prop where
 obj:h.get? x=some (PySem.W.instObj C dx)
 ns:h.Ns1 dx mA
 ne:dx≠x
theorem qqn{h:Heap}{dx:Addr}{mA:Str->Option Value}(n:h.Ns1 dx mA):∃od,h.get? dx=some od/\∀name,PySem.W.lookIn name od=some (mA name):=by
 obtain⟨o,es,ep,ho,hd,hk,_,hm⟩:=n
 refine⟨o,ho,λname=>?_⟩
 have e:=hm name
 unfold nsFind findBy at e
 rw[←Array.find?_toList] at e
 unfold PySem.W.lookIn
 rw[hd]
 dsimp only
 split
 ·rename_i y q
  rw[q] at e
  exact congrArg some e
 ·rename_i q
  rw[q] at e
  have a:es.toList.any (·.refKey)=false:=by
   rw[List.any_eq_false]
   intro y hy
   obtain⟨z,t,hkey⟩:=hk y (Array.mem_toList_iff.mp hy)
   simp[DictEntry.refKey,hkey]
  have a':¬ es.toList.any (·.refKey)=true:=by rw[a];exact Bool.false_ne_true
  rw[if_neg a']
  exact congrArg some e
theorem ObjM.look{h:Heap}{x dx C:Addr}{mA:Str->Option Value}(I:ObjM h x dx C mA):∃od,PySem.W.InstAt h x (PySem.W.instObj C dx) C (some od)/\∀name,PySem.W.lookIn name od=some (mA name) :=
 let ⟨od,ho,hl⟩:=qqn I.ns
 ⟨od,⟨I.obj,rfl,rfl,ho⟩,hl⟩
section
variable {prog:Program} {w:World} {A:Around} {E:Value->Shared->Prop} {s:Shared} {K:PySem.W.Frag} {x dx C f:Addr} {mA:Str->Option Value} {name:Str} {v:Value}
end
theorem RelO.some_of{v:V}{o:Option Value}(r:RelO (some v) o):∃u,o=some u/\RelV v u:=by
 cases o with
|none=>exact(show False from r).elim
|some u=>exact⟨u,rfl,r⟩
section
variable {P:Program} {w:World} {H H':Hp} {h h':Heap} {a C dx:Addr} {fs fs':List (Str×V)}
theorem qwz(hok:HOk P w H h)(e:H a=some (.ins C dx fs)):∃mA,ObjM h a dx C mA/\(∀f,RelO (fs.lookup f) (mA f))/\PySem.Within mA (fs.map (·.1))/\fs.length<=1000/\H dx=some (.own a):=by
 obtain⟨d,z,ne,ob,mA,n,r,q⟩:=(show ObjOk P w H h a (.ins C dx fs) from hok a _ e)
 exact⟨mA,⟨ob,n,ne⟩,r,q,z,d⟩
end
structure Cls(K:PySem.W.Frag)(C:Addr):Prop where
 pg:PySem.W.plainGet K C Str.empty=true
 hd:PySem.W.hasDictIn K C=true
 po:PySem.W.plainOver K C=true
 sa:PySem.W.findIn K (.ref C) "__setattr__" = some (some (.builtin "object.__setattr__"))
theorem Cls.get{K:PySem.W.Frag}{C:Addr}(c:Cls K C)(f:Str):PySem.W.plainGet K C f=true:=c.pg
structure Con(K:PySem.W.Frag)(C:Addr)(f:Str)(v:V)(u:Value):Prop where
 at_:PySem.W.findIn K (.ref C) f=some (some u)
 rel:RelV v u
 get:PySem.W.specialIn K u "__get__" = some none
 cp:PySem.W.copiedNames.contains f=false
structure Meth(K:PySem.W.Frag)(C:Addr)(m:Str)(f:Addr):Prop where
 at_:PySem.W.findIn K (.ref C) m=some (some (.ref f))
 fn:PySem.W.isFn K (.ref f)=true
 kp:PySem.W.keepIn K (.ref f)=true
section
variable {X:Cx} {pins:List (Addr×Obj)} {σ:St} {H:Hp} {s:Shared} {a C dx:Addr} {fs:List (Str×V)} {f:Str} {v:V} {A:Around} {E:Value->Shared->Prop}
end
section
variable {X:Cx} {o e value:Expr} {f:Str} {pos pos' tpos:Pos} {ta tv:TE}
end
section
variable {X:Cx} {pins:List (Addr×Obj)} {σ:St} {H:Hp} {s:Shared} {A:Around} {E:Value->Shared->Prop} {Q:Value->Shared->Prop} {c:Value} {b:Bool}
inductive TyOf(K:PySem.W.Frag)(H:Hp):V->Value->Prop where
|non:TyOf K H .non (.type "NoneType")
|bl (x:Bool):TyOf K H (.bl x) (.type "bool")
|int (i:Int):TyOf K H (.int i) (.type "int")
|str (x:Str):TyOf K H (.str x) (.type "str")
|flt (x:UInt64):TyOf K H (.flt x) (.type "float")
|lst {a:Addr} {xs:List V} (e:H a=some (.lst xs)):TyOf K H (.ref a) (.type "list")
|frz {a:Addr} {o:Obj} {xs:List V} (e:H a=some (.frz o (.lst xs))):TyOf K H (.ref a) (.type "list")
|tup {a:Addr} {xs:List V} (e:H a=some (.tup xs)):TyOf K H (.ref a) (.type "tuple")
|dK {a:Addr} {kvs:List (Key×V)} (e:H a=some (.dK kvs)):TyOf K H (.ref a) (.type "dict")
|dT {a:Addr} {kvs:List (List Key×V)} (e:H a=some (.dT kvs)):TyOf K H (.ref a) (.type "dict")
|ins {a C dx:Addr} {fs:List (Str×V)} (e:H a=some (.ins C dx fs)) (cl:Cls K C) (ha:PySem.W.findIn K (.ref C) "__class__" = some (some (.builtin "object.__class__")))
   (hn:PySem.W.specialIn K (.builtin "object.__class__") "__get__" = some (some (.builtin "getset_descriptor.__get__"))) (htk:PySem.W.takesIn K (.builtin "object.__class__")=some true)
   (hm:PySem.W.mroIn K C (.type "object")=some true):TyOf K H (.ref a) (.ref C)
theorem qd2{x:V}{u t:Value}(I:Inv X pins σ H s)(rx:RelV x u)(ty:TyOf X.K H x t)(e:PySem.W.kitOne X.K t c=some b)(h:∀tk,Q (.bool b) { s with toks:=tk }) :
  wpAny (model X.prog X.w) A (call (.builtin "isinstance") [u,c]) Q E s:=by
 cases ty with
|non=>cases (show u=Value.none from rx);exact PySem.W.kia_one PySem.W.kitx_none I.kIn True.intro e (λz=>nomatch z) h
|bl y=>cases (show u=Value.bool y from rx);exact PySem.W.kia_one PySem.W.kitx_bool I.kIn True.intro e (λz=>nomatch z) h
|int i=>obtain⟨t,q⟩:=(show ∃t,u=Value.int i t from rx);cases q;exact PySem.W.kia_one PySem.W.kitx_int I.kIn True.intro e (λz=>nomatch z) h
|str y=>obtain⟨t,q⟩:=(show ∃t,u=Value.str y t from rx);cases q;exact PySem.W.kia_one PySem.W.kitx_str I.kIn True.intro e (λz=>nomatch z) h
|flt y=>obtain⟨t,q⟩:=(show ∃t,u=Value.float y t from rx);cases q;exact PySem.W.kia_one PySem.W.kitx_float I.kIn True.intro e (λz=>nomatch z) h
|@lst a xs ea =>
  cases (show u=Value.ref a from rx)
  obtain⟨_,_,n,_,h1⟩:=(show ObjOk X.prog X.w H s.heap a (.lst xs) from I.hok a _ ea)
  exact PySem.W.kia_one PySem.W.kitx_list I.kIn ⟨_,h1,rfl⟩ e (λz=>nomatch z) h
|@frz a ob xs ea =>
  cases (show u=Value.ref a from rx)
  obtain⟨_,_,_,n,_,h1⟩:=(show ObjOk X.prog X.w H s.heap a (.frz ob (.lst xs)) from I.hok a _ ea)
  exact PySem.W.kia_one PySem.W.kitx_list I.kIn ⟨_,h1,rfl⟩ e (λz=>nomatch z) h
|@tup a xs ea =>
  cases (show u=Value.ref a from rx)
  obtain⟨_,_,_,p⟩:=(show ObjOk X.prog X.w H s.heap a (.tup xs) from I.hok a _ ea)
  obtain⟨o,h1,h2,_⟩:=p
  exact PySem.W.kia_one PySem.W.kitx_tuple I.kIn ⟨o,h1,h2⟩ e (λz=>nomatch z) h
|@dK a kvs ea =>
  cases (show u=Value.ref a from rx)
  obtain⟨_,_,vs,_,p⟩:=(show ObjOk X.prog X.w H s.heap a (.dK kvs) from I.hok a _ ea)
  obtain⟨o,es,ep,h1,h2,_⟩:=p
  exact PySem.W.kia_one PySem.W.kitx_dict I.kIn ⟨o,h1,h2.1⟩ e (λz=>nomatch z) h
|@dT a kvs ea =>
  cases (show u=Value.ref a from rx)
  obtain⟨_,_,xs,_,o,es,ep,h1,h2,_⟩:=(show ObjOk X.prog X.w H s.heap a (.dT kvs) from I.hok a _ ea)
  exact PySem.W.kia_one PySem.W.kitx_dict I.kIn ⟨o,h1,h2.1⟩ e (λz=>nomatch z) h
|@ins a C dx fs ea cl ha hn htk hm =>
  cases (show u=Value.ref a from rx)
  obtain⟨mA,O,_⟩:=qwz I.hok ea
  obtain⟨od,J,_⟩:=O.look
  exact PySem.W.kia_one (PySem.W.kitx_own (cl.get _) cl.hd ha hn htk hm) I.kIn J e (λz=>nomatch z) h
end
end L2
namespace L2
open PySem PySem.Spec PyProof.Rows
structure Room(k:Nat)(A:Around):Prop where
 hd:A.handled=none
 dp:A.depth+3*k+5<recursionLimit
 un:A.units+16*k+200<cLine
theorem Room.mono{j k:Nat}{A:Around}(r:Room k A)(h:j<=k):Room j A:=⟨r.hd,by have:=r.dp;lia,by have:=r.un;lia⟩
theorem Room.deeper{k:Nat}{A:Around}(r:Room (k+1) A)(env:Env):Room k (A.deeper env) :=
 ⟨r.hd,by have:=r.dp;show A.depth+1+3*k+5<_;lia,by have:=r.un;show A.units+3+16*k+200<_;lia⟩
theorem Room.depth{k:Nat}{A:Around}(r:Room k A):A.depth<recursionLimit:=by have:=r.dp;lia
theorem Room.units{k:Nat}{A:Around}(r:Room k A):A.units+64<cLine:=by have:=r.un;lia
def tNil:TA:=λ_ H Q=>Q [] H
def qup(ta:TE)(tr:TA):TA:=λσ H Q=>ta σ H λx H1=>tr σ H1 λxs H2=>Q (x::xs) H2
section
variable {X:Cx} {e:Expr} {es:List Expr} {te:TE} {t:TA} {pos:Pos}
theorem q03:PA X [] tNil:=λ_ _ _ _ H Q I h=>Calls.spliced_nil ⟨[],H,I,.nil,h⟩
theorem qxs(ha:PE X e te)(hr:PA X es t)(hs:starEach (e::es) X.env=(false,eval e X.env)::starEach es X.env:=by rfl):PA X (e::es) (qup te t):=by
 intro pos pins s σ H Q I h
 rw[hs]
 show wpAny _ _ (spliced ((false,eval e X.env)::backTo pos (starEach es X.env))) _ _ s
 refine Calls.spliced_cons (thn (ha pins s σ H _ I h) λu s1 ⟨x,H1,I1,r1,q1⟩=>?_)
 exact thn (hr pos pins s1 σ H1 _ I1 q1) λus s2 ⟨xs,H2,I2,r2,q2⟩=>⟨x::xs,H2,I2,.cons r1 r2,q2⟩
def tTup(t:TA):TE:=λσ H Q=>t σ H λxs H1=>xs.length<=sizeLine/\∀p,H1 p=none->Q (.ref p) (upd H1 p (.tup xs))
def tLst(t:TA):TE:=λσ H Q=>t σ H λxs H1=>xs.length<=sizeLine/\∀p,H1 p=none->Q (.ref p) (upd H1 p (.lst xs))
theorem q1b{x1}(h:PA X es t):PE X (.Tuple es x1 pos) (tTup t):=by
 intro pins s σ H Q I hq
 refine wpAny_Tuple_spliced (thn (h pos pins s σ H _ I hq) λus s1 ⟨xs,H1,I1,r,z,q⟩=>⟨by rw[←r.length];exact z,?_⟩)
 have hf:H1 s1.heap.objs.size=none:=I1.hok.fresh (Nat.le_refl _)
 refine⟨.ref s1.heap.objs.size,upd H1 s1.heap.objs.size (.tup xs),I1.laid (t':=s1.toks) (λb u e=>Heap.get?_push_of_some _ e) (Nat.le_refl _) ?_,rfl,q _ hf⟩
 exact⟨z,us,r,⟨_,Heap.get?_push_size _ rfl,rfl,_,rfl⟩⟩
theorem q08(h:PA X es t):PE X (.List es pos) (tLst t):=by
 intro pins s σ H Q I hq
 refine wpAny_List_spliced (thn (h pos pins s σ H _ I hq) λus s1 ⟨xs,H1,I1,r,z,q⟩=>⟨by rw[←r.length];exact z,?_⟩)
 have hf:H1 s1.heap.objs.size=none:=I1.hok.fresh (Nat.le_refl _)
 refine⟨.ref s1.heap.objs.size,upd H1 s1.heap.objs.size (.lst xs),I1.laid (t':=s1.toks) (λb u e=>Heap.get?_push_of_some _ e) (Nat.le_refl _) ?_,rfl,q _ hf⟩
 exact⟨z,us,0,r,Heap.get?_push_size _ rfl⟩
end
abbrev Sp:=List V->Hp->VK->XK->Prop
abbrev CXT:=List Env->Hp->Shared->XK->Value->Shared->Prop
structure Env0(P:Program)(w:World)(K:PySem.W.Frag)(mg:Str->Option Value)(base:Heap)(A:Around)(outer:List Env)(s:Shared)(H:Hp):Prop where
 frames:A.frames=some outer
 mod:Mod K mg base
 bs:∀b o,base.get? b=some o->s.heap.get? b=some o/\H b=none
 bsz:base.objs.size<=s.heap.objs.size
 funs:s.heap.FunFrames base outer
 frf:∀b∈frs outer,H b=none
 hok:HOk P w H s.heap
 bare:AllBare s.gens
def CE(outer:List Env)(P:Program)(w:World)(H:Hp)(s:Shared)(Q:VK)(u:Value)(s':Shared):Prop :=
 ∃v H',s'.os=s.os/\AllBare s'.gens/\Un (frs outer) [] H H' s.heap s'.heap/\HOk P w H' s'.heap/\RelV v u/\Q v H'
def CR(CX:CXT)(outer:List Env)(P:Program)(w:World)(H:Hp)(s:Shared)(Q:VK)(E:XK)(r:Result)(s':Shared):Prop :=
 match r with
|.ok (.ret u)=>CE outer P w H s Q u s'
|.ok _=>False
|.error e=>CX outer H s E e s'
structure FnOk(P:Program)(w:World)(K:PySem.W.Frag)(mg:Str->Option Value)(base:Heap)(CX:CXT)(k:Nat)(f:Addr)(fd:FuncData)(ps:List Str)(sp:Sp):Prop where
 len:∀vs H Q E,sp vs H Q E->vs.length=ps.length
 run:∀(A:Around) (outer:List Env) (s:Shared) (H:Hp) (args:Args) (us:List Value) (vs:List V) (Q:VK) (E:XK),Room k A->Env0 P w K mg base A outer s H->BindsTo s fd args (ps.zip us)->Vals vs us->sp vs H Q E ->
  codeAny (model P w) A (.call (.ref f) args) (CR CX outer P w H s Q E) s
section
variable {X:Cx} {pins:List (Addr×Obj)} {σ:St} {H:Hp} {s s':Shared}
theorem Inv.env0(I:Inv X pins σ H s):Env0 X.prog X.w X.K X.mg X.base X.A X.stack s H :=
 ⟨I.ok.frames,I.ok.mod,I.bs,Nat.le_trans I.ok.bsz I.sz,I.stack,I.stkFree,I.hok,I.bare⟩
theorem Inv.after{Q:VK}{u:Value}(I:Inv X pins σ H s)(h:CE X.stack X.prog X.w H s Q u s'):EP X pins σ Q u s':=by
 obtain⟨v,H',os,bare,un,hok,r,q⟩:=h
 obtain⟨hh,g,d,t,os'⟩:=s'
 obtain rfl:os'=s.os:=os
 exact⟨v,H',I.call (h':=hh) (g':=g) (d':=d) (t':=t) (ch:=[]) un hok bare (λb z=>absurd z (by simp)),r,q⟩
end
def quo(sp:Sp)(dvs:List V)(E:XK)(t:TA):TE:=λσ H Q=>t σ H λvs H1=>sp (vs++dvs) H1 Q E
def Binds(K:PySem.W.Frag)(fd:FuncData)(ps:List Str)(ds:List Value):Prop :=
 ∀(s:Shared) (us:List Value),K.In s.heap->(us++ds).length=ps.length->BindsTo s fd ⟨us,[]⟩ (ps.zip (us++ds))
theorem Binds.all{K:PySem.W.Frag}{fd:FuncData}{ps:List Str}(h:∀us:List Value,us.length=ps.length->bindArgs fd ⟨us,[]⟩=pure (ps.zip us)):Binds K fd ps []:=λs us _ hl=>by
 rw[List.append_nil] at hl ⊢
 exact .of_eq (h us hl)
def qpk(CX:CXT)(X:Cx)(E:XK):Prop:=∀(pins:List (Addr×Obj)) (σ:St) (H:Hp) (s:Shared) (e:Value) (s':Shared),Inv X pins σ H s->CX X.stack H s E e s'->X.xe e s'
section
variable {X:Cx} {CX:CXT} {k:Nat} {f C:Addr} {fd:FuncData} {ps:List Str} {sp:Sp} {dvs:List V} {ds:List Value} {E:XK} {x m:Str} {p pos apos:Pos} {e o:Expr} {es:List Expr} {ta:TE} {t:TA}
theorem q2g{pins:List (Addr×Obj)}{σ:St}{H:Hp}{s:Shared}{Q:VK}{us:List Value}{vs:List V}(F:FnOk X.prog X.w X.K X.mg X.base CX k f fd ps sp)(hr:Room k X.A)(hb:Binds X.K fd ps ds)(hd:Vals dvs ds)(hx:qpk CX X E)
  (I:Inv X pins σ H s) (r:Vals vs us) (h:sp (vs++dvs) H Q E):wpAny (model X.prog X.w) X.A (call (.ref f) us) (EP X pins σ Q) X.xe s:=by
 have r2:Vals (vs++dvs) (us++ds):=r.append hd
 have hl:(us++ds).length=ps.length:=by rw[←r2.length];exact F.len _ _ _ _ h
 refine wpAny_call (codeAny_mono (F.run X.A X.stack s H ⟨us,[]⟩ (us++ds) (vs++dvs) Q E hr I.env0 (hb s us I.kIn hl) r2 h) λr s' hq=>?_)
 cases r with
|error e=>exact hx pins σ H s e s' I hq
|ok fl =>
  cases fl with
 |ret u=>exact I.after hq
 |next=>exact False.elim hq
 |brk=>exact False.elim hq
 |cont=>exact False.elim hq
theorem qxv(F:FnOk X.prog X.w X.K X.mg X.base CX k f fd ps sp)(hr:Room k X.A)(hg:Gl X x)(hm:X.mg x=some (.ref f))(hk:PySem.W.keepIn X.K (.ref f)=true)(hb:Binds X.K fd ps ds)(hd:Vals dvs ds)(hx:qpk CX X E)
  (ha:PA X (e::es) t) (hdb:(x==("__debug__" : Str))=false:=by decide) (he:starEach (e::es) X.env=(false,eval e X.env)::starEach es X.env:=by rfl) (hpl:(backTo pos (starEach es X.env)).any (·.1)=false:=by rfl) :
  PE X (.Call (.Name x p) (e::es) [] pos) (quo sp dvs E t):=by
 intro pins s σ H Q I h
 refine wpAny_Call_Name_kw (qgh I hg hm ?_ hdb)
 refine PySem.W.callWith_K (h₀:=X.base) I.ok.mod.kin hk (thn (ha pos pins s σ H _ I h) λus s1 ⟨vs,H1,I1,r,q⟩=>⟨I1.kIn,?_⟩) he hpl
 exact q2g F hr hb hd hx I1 r q
structure Mk(K:PySem.W.Frag)(C f:Addr):Prop where
 makes:PySem.W.makesIn K C=true
 init:PySem.W.findIn K (.ref C) "__init__" = some (some (.ref f))
 fn:PySem.W.isFn K (.ref f)=true
 kp:PySem.W.keepIn K (.ref C)=true
end
section
variable {X:Cx} {CX:CXT} {k:Nat} {f C:Addr} {fd:FuncData} {ps ks:List Str} {sp:Sp} {E:XK} {x m:Str} {p pos apos kpos:Pos} {e o:Expr} {es:List Expr} {kws:List Keyword} {te ta:TE} {t tk:TA} {nm:Option Str}
structure KBinds(K:PySem.W.Frag)(fd:FuncData)(ps ks:List Str)(g:List Value->List Value->List Value)(gV:List V->List V->List V):Prop where
 to:∀(s:Shared) (us ws:List Value),K.In s.heap->(g us ws).length=ps.length->BindsTo s fd ⟨us,ks.zip ws⟩ (ps.zip (g us ws))
 rel:∀ {vs:List V} {us:List Value} {zs:List V} {ws:List Value},Vals vs us->Vals zs ws->Vals (gV vs zs) (g us ws)
variable {g:List Value->List Value->List Value} {gV:List V->List V->List V}
end
structure FnScope(N P:List Str)(sc:Scope):Prop where
 kind:sc.kind=.function
 co:sc.isCoroutine=false
 gen:sc.isGenerator=false
 nd:N.Nodup
 pre:N.take P.length=P
 par:∀x∈P,sc.names.lookup x=some .local\/sc.names.lookup x=some .cell
 nofree:∀y∈sc.names,y.2≠.free
theorem qjf{kindOf:Str->Option NameKind}{x:Str}:∀ {binds:List (Str×Value)} {m:Str->Option Value},(∀v,(x,v)∉binds)->bindL kindOf binds m x=m x
|[],_,_=>rfl
|(n,v)::r,m,h=>by
  unfold bindL
  rw[qjf λw hw=>h w (List.mem_cons_of_mem _ hw)]
  split
  ·have:x≠n:=by rintro rfl;exact h v List.mem_cons_self
   simp[this]
  ·rfl
theorem qjd{kindOf:Str->Option NameKind}{x:Str}:∀ {binds:List (Str×Value)} {m:Str->Option Value},(∀v,(x,v)∉binds)->bindC kindOf binds m x=m x
|[],_,_=>rfl
|(n,v)::r,m,h=>by
  unfold bindC
  rw[qjd λw hw=>h w (List.mem_cons_of_mem _ hw)]
  split
  ·rfl
  ·have:x≠n:=by rintro rfl;exact h v List.mem_cons_self
   simp[this]
theorem qje{kindOf:Str->Option NameKind}{x:Str}{v:Value}:∀ {P:List Str} {vs:List Value} {i:Nat} {m:Str->Option Value},P.Nodup->P[i]?=some x->vs[i]?=some v->kindOf x=some .local ->
  bindL kindOf (P.zip vs) m x=some v
|[],_,_,_,_,h,_,_=>by simp at h
|_::_,[],_,_,_,_,h,_=>by simp at h
|p::P,w::vs,0,m,nd,h1,h2,hk=>by
  simp at h1 h2;subst h1;subst h2
  show bindL kindOf ((p,w)::P.zip vs) m p=_
  unfold bindL
  rw[qjf λv hv=>(List.nodup_cons.mp nd).1 (List.of_mem_zip hv).1,if_pos hk]
  simp
|p::P,w::vs,i+1,m,nd,h1,h2,hk=>by
  show bindL kindOf ((p,w)::P.zip vs) m x=_
  unfold bindL
  exact qje (i:=i) (List.nodup_cons.mp nd).2 (by simpa using h1) (by simpa using h2) hk
theorem qjc{kindOf:Str->Option NameKind}{x:Str}{v:Value}:∀ {P:List Str} {vs:List Value} {i:Nat} {m:Str->Option Value},P.Nodup->P[i]?=some x->vs[i]?=some v->kindOf x≠some .local ->
  bindC kindOf (P.zip vs) m x=some v
|[],_,_,_,_,h,_,_=>by simp at h
|_::_,[],_,_,_,_,h,_=>by simp at h
|p::P,w::vs,0,m,nd,h1,h2,hk=>by
  simp at h1 h2;subst h1;subst h2
  show bindC kindOf ((p,w)::P.zip vs) m p=_
  unfold bindC
  rw[qjd λv hv=>(List.nodup_cons.mp nd).1 (List.of_mem_zip hv).1,if_neg hk]
  simp
|p::P,w::vs,i+1,m,nd,h1,h2,hk=>by
  show bindC kindOf ((p,w)::P.zip vs) m x=_
  unfold bindC
  exact qjc (i:=i) (List.nodup_cons.mp nd).2 (by simpa using h1) (by simpa using h2) hk
def start(N:List Str)(vs:List V):St:=vs.map some++List.replicate (N.length-vs.length) none
def cxOf(CX:CXT)(P:Program)(w:World)(K:PySem.W.Frag)(mg:Str->Option Value)(base:Heap)(N:List Str)(qual:Str)(scope:Scope)(f:Addr)(cd:Value)(A:Around)(outer:List Env)(s:Shared)(H:Hp)(E:XK):Cx where
 prog:=P
 w:=w
 K:=K
 mg:=mg
 base:=base
 A:=A.deeper (envOfC qual scope s.heap.objs.size f cd)
 N:=N
 s₀:=s
 H₀:=H
 env:=envOfC qual scope s.heap.objs.size f cd
 outer:=outer
 stack:=envOfC qual scope s.heap.objs.size f cd::outer
 ex:=[]
 calm:=true
 fn:=λ_=>true
 pn:=[]
 xe:=λe s'=>wpAny (model P w) (A.deeper (envOfC qual scope s.heap.objs.size f cd)) (leaving (envOfC qual scope s.heap.objs.size f cd) e) (λ_ s''=>CX outer H s E e s'') (λe' s''=>CX outer H s E e' s'') s'
theorem qms{sc:Scope}{n:Nat}{x:Str}(h:sc.names.lookup x=some .cell):∃c,(cellsFrom n sc.names []).lookup x=some c:=by
 have q:=PySem.W.cellsFrom_some sc.names n [] (.inl h)
 exact Option.isSome_iff_exists.mp q
theorem qqd{CX:CXT}{P:Program}{w:World}{K:PySem.W.Frag}{mg:Str->Option Value}{base:Heap}{N ps:List Str}{qual:Str}{scope:Scope}{f:Addr}{cd:Value}{A:Around}{outer:List Env}{s s1:Shared}{H:Hp}{E:XK}{us:List Value}{vs:List V}
  (S:FnScope N ps scope) (hd:A.handled=none) (e0:Env0 P w K mg base A outer s H) (hl:vs.length=ps.length) (r:Vals vs us)
  (x:InCallC s s.heap.objs.size (bindL (envOfC qual scope s.heap.objs.size f cd).kindOf (ps.zip us) λ_=>none) (cellsFrom (s.heap.objs.size+1) scope.names []) (bindC (envOfC qual scope s.heap.objs.size f cd).kindOf (ps.zip us) λ_=>none) s1) :
  Inv (cxOf CX P w K mg base N qual scope f cd A outer s H E) [] (start N vs) H s1:=by
 have hpl:ps.length<=N.length:=by have:=congrArg List.length S.pre;rw[List.length_take] at this;lia
 obtain⟨h1,tk,rfl,hk⟩:=x.done
 have noA:∀b:Addr,b∉(cxOf CX P w K mg base N qual scope f cd A outer s H E).ex:=λb z=>absurd (show b∈([]:List Addr) from z) (by simp)
 refine⟨⟨e0.mod,S.kind,rfl,rfl,Nat.le_refl _,λy z c h1 h2=>?_,λy hy=>?_,λy c _ h=>?_,λ_=>hd,Around.frames_deeper e0.frames,.inr ⟨rfl,rfl⟩,λb z=>absurd z (noA b),e0.bs,e0.bsz,λb _ _=>noA b,λb z=>absurd z (noA b),e0.funs,e0.frf⟩,
  rfl,e0.bare,Un.kept hk,⟨_,x.toInCall.ns,λi y v h1 h2 h3=>?_⟩,λy c h=>⟨_,x.cell y c h⟩,e0.hok.fresh (Nat.le_refl _),λy c h=>?_,λp hp=>absurd (show p∈([]:List (Addr×Obj)) from hp) (by simp),e0.hok.kept hk,?_⟩
 ·exact name_of_addr x.apart (PySem.mem_of_lookup h1) (PySem.mem_of_lookup h2)
 ·have hy:scope.names.lookup y=some .cell\/scope.names.lookup y=some .free:=hy
  rcases hy with hy|hy
  ·exact qms hy
  ·exact absurd rfl (S.nofree _ (PySem.mem_of_lookup hy))
 ·exact Nat.le_of_lt (x.above y c (PySem.mem_of_lookup h))
 ·have hi:i<vs.length:=by
   unfold start at h2
   by_cases hi:i<vs.length
   ·exact hi
   ·rw[List.getElem?_append_right (by simpa using hi)] at h2
    rw[List.getElem?_replicate] at h2
    split at h2<;>cases h2
  have ha:vs[i]?=some v:=by
   unfold start at h2
   rw[List.getElem?_append_left (by simpa using hi),List.getElem?_map] at h2
   cases e:vs[i]? with
  |none=>rw[e] at h2;cases h2
  |some a=>rw[e] at h2;cases h2;rfl
  obtain⟨u,hu,rv⟩:=r.get ha
  have hp:ps[i]?=some y:=by
   rw[←S.pre,List.getElem?_take_of_lt (by lia)];exact h1
  have ndP:ps.Nodup:=by rw[←S.pre];exact S.nd.sublist (List.take_sublist _ _)
  refine⟨u,rv,?_⟩
  rcases S.par y (List.mem_of_getElem? hp) with k|k
  ·exact .inl ⟨k,qje ndP hp hu k⟩
  ·obtain⟨c,e⟩:=qms (n:=s.heap.objs.size+1) k
   refine .inr ⟨.inl k,c,e,?_⟩
   have q:=x.cell y c e
   rw[qjc ndP hp hu (by show scope.names.lookup y≠_;rw[k];decide)] at q
   exact q
 ·exact e0.hok.fresh (Nat.le_of_lt (x.above y c (PySem.mem_of_lookup h)))
 ·unfold start
  show _=N.length
  rw[List.length_append,List.length_map,List.length_replicate]
  lia
theorem qz9{CX:CXT}{P:Program}{w:World}{K:PySem.W.Frag}{mg:Str->Option Value}{base:Heap}{k:Nat}{f:Addr}{name qual:Str}{params:Arguments}{body:List Stmt}{scope:Scope}{dV kV doc pm cdv ct oc:Value}{an od:Option Addr}
  {osl:Array (Option Value)} {N ps:List Str} {sp:Sp} (lk:K.lookup f=some ⟨oc,od,.func (PySem.W.fnOf name qual params body scope dV kV doc pm an cdv ct),osl⟩) (hcd:PySem.W.codeIn K cdv qual=true) (S:FnScope N ps scope)
  (len:∀vs H Q E,sp vs H Q E->vs.length=ps.length)
  (hbody:∀(A:Around) (outer:List Env) (s:Shared) (H:Hp) (vs:List V) (Q:VK) (E:XK),Room k (A.deeper (envOfC qual scope s.heap.objs.size f cdv))->sp vs H Q E ->
   ∃t,PSs (cxOf CX P w K mg base N qual scope f cdv A outer s H E) body t/\t { nx:=λ_ H'=>Q .non H',rt:=Q } (start N vs) H) :
  FnOk P w K mg base CX (k+1) f (PySem.W.fnOf name qual params body scope dV kV doc pm an cdv ct) ps sp:=by
 refine⟨len,λA outer s H args us vs Q E hr e0 hb r hsp=>?_⟩
 have hl:=len _ _ _ _ hsp
 have KX:K.In s.heap:=e0.mod.kin.keeps λb o e=>(e0.bs b o e).1
 have lim:s.heap.NoLimit:=e0.mod.nolimit.keeps λb o e=>(e0.bs b o e).1
 have hkind:∀y∈ps.zip us,scope.names.lookup y.1=some .local\/(scope.names.lookup y.1=some .cell/\((cellsFrom (s.heap.objs.size+1) scope.names []).lookup y.1).isSome=true):=λ⟨n,v⟩ hy=>by
  rcases S.par n (List.of_mem_zip hy).1 with q|q
  ·exact .inl q
  ·exact .inr ⟨q,PySem.W.cellsFrom_some _ _ _ (.inl q)⟩
 refine codeAny_call_function hr.depth (KX _ _ lk) rfl S.co S.gen rfl (PySem.W.codeRec_of KX hcd) (hb _ _ _ _ ?_)
 refine wpAny_newFunctionEnv_cells S.kind hkind λenv he s1 x=>?_
 subst he
 refine⟨lim.keeps x.toInCall.keep,codeAny_func ?_⟩
 obtain⟨t,ht,hq⟩:=hbody A outer s H vs Q E (hr.deeper _) hsp
 have I:Inv (cxOf CX P w K mg base N qual scope f cdv A outer s H E) [] (start N vs) H s1:=qqd S hr.hd e0 hl r x
 refine wpAny_mono (ht [] s1 (start N vs) H _ I hq) (λfl s' hs=>?_) λe s' hs=>hs
 have fin:∀ {σ':St} {H':Hp} {v:V} {u:Value},Inv (cxOf CX P w K mg base N qual scope f cdv A outer s H E) [] σ' H' s'->RelV v u->Q v H'->CE outer P w H s Q u s' :=
  λ{σ' H' v u} J rv q=>⟨v,H',J.os,J.bare,J.base,J.hok,rv,q⟩
 cases fl with
|ret u =>
  obtain⟨v,σ',H',J,rv,q⟩:=hs
  exact fin J rv q
|next =>
  obtain⟨σ',H',J,q⟩:=hs
  exact fin (v:=V.non) (u:=Value.none) J rfl q
|brk =>
  obtain⟨_,_,_,q⟩:=hs
  exact False.elim q
|cont =>
  obtain⟨_,_,_,q⟩:=hs
  exact False.elim q
end L2
namespace L2
open PySem PySem.Spec PyProof.Rows
section
variable {X:Cx} {x:Str} {p pos:Pos} {e:Expr} {es:List Expr} {t:TA} {id T:String} {r:List V->Hp->VK->Prop}
def tCB(r:List V->Hp->VK->Prop)(t:TA):TE:=λσ H Q=>t σ H λvs H1=>r vs H1 Q
theorem qtp(hc:CallR X (.builtin id) r)(hg:Gl X x)(hm:X.mg x=none)(hv:bootBuiltins x=some (.builtin id))(ha:PA X (e::es) t)(hn:x≠"__name__" := by decide)(hdb:(x==("__debug__" : Str))=false:=by decide)
  (he:starEach (e::es) X.env=(false,eval e X.env)::starEach es X.env:=by rfl) (hpl:(backTo pos (starEach es X.env)).any (·.1)=false:=by rfl):PE X (.Call (.Name x p) (e::es) [] pos) (tCB r t):=by
 intro pins s σ H Q I h
 refine wpAny_Call_Name_kw (qjs I hg hm hv ?_ hn hdb)
 exact PyProof.Rows.callWith_builtin1 (thn (ha pos pins s σ H _ I h) λus s1 ⟨vs,H1,I1,r1,q1⟩=>hc pins s1 σ H1 vs us Q I1 r1 q1) he hpl
theorem qq8(hc:CallR X (.type T) r)(hg:Gl X x)(hm:X.mg x=none)(hv:bootBuiltins x=some (.type T))(ha:PA X (e::es) t)(hn:x≠"__name__" := by decide)(hdb:(x==("__debug__" : Str))=false:=by decide)
  (he:starEach (e::es) X.env=(false,eval e X.env)::starEach es X.env:=by rfl) (hpl:(backTo pos (starEach es X.env)).any (·.1)=false:=by rfl):PE X (.Call (.Name x p) (e::es) [] pos) (tCB r t):=by
 intro pins s σ H Q I h
 refine wpAny_Call_Name_kw (qjs I hg hm hv ?_ hn hdb)
 exact PyProof.Rows.callWith_type1 (thn (ha pos pins s σ H _ I h) λus s1 ⟨vs,H1,I1,r1,q1⟩=>hc pins s1 σ H1 vs us Q I1 r1 q1) he hpl
end
end L2
namespace HT
open PySem PyProof.Rows
section
open PySem.SeqAt
open PySem.AutoSeq1 (wpAny_loadPart')
open PySem.MeetsSeq PySem.MeetsSeq2 PySem.MeetsSeq3
end
section
variable {prog:Program} {w:World} {A:Around} {E:Value->Shared->Prop} {s:Shared}
theorem cat_tup{t b:Addr}{vs ws:List Value}{Q:Value->Shared->Prop}(ht:IsTup s.heap t vs.toArray)(hb:IsTup s.heap b ws.toArray)(hv:vs≠[])
  (h1:ws=[]->Q (.ref t) s) (h2:ws≠[]->Q (.ref s.heap.objs.size) { s with heap:=s.heap.push { cls:=.type "tuple",data:=.seq (vs++ws).toArray } })
  (hsz:vs.length+ws.length<=sizeLine):wpAny (model prog w) A (binaryOp .Add (.ref t) (.ref b)) Q E s:=by
 obtain⟨⟨cls,dd,data,sl⟩,ho,hc,n,hd⟩:=id ht
 obtain⟨⟨cls2,dd2,data2,sl2⟩,ho2,hc2,n2,hd2⟩:=id hb
 simp only at hc hd hc2 hd2
 subst hc hd hc2 hd2
 have e:vs.toArray++ws.toArray=(vs++ws).toArray:=by simp
 by_cases hw:ws=[]
 ·exact concat_meets ⟨_,ho,rfl⟩ ⟨_,ho2,rfl⟩ noFill_tuple_add seq_tuple_add PySem.F.slot_tuple_add PySem.F.entry_tuple_add (PySem.F.args_tuple_add_2 _ _)
   (tuple_addW1 t b vs.toArray ws.toArray n n2 dd dd2 sl sl2 (by simpa using hv) (by simp[hw])) ⟨ho,ho2,h1 hw⟩
 ·refine concat_meets ⟨_,ho,rfl⟩ ⟨_,ho2,rfl⟩ noFill_tuple_add seq_tuple_add PySem.F.slot_tuple_add PySem.F.entry_tuple_add (PySem.F.args_tuple_add_2 _ _)
   (tuple_addW2 t b vs.toArray ws.toArray n n2 dd dd2 sl sl2 (by simpa using hv) (by simpa using hw) (by rw[List.size_toArray,List.size_toArray];exact hsz)) ⟨ho,ho2,?_⟩
  rw[e]
  exact h2 hw
def sIx(n d:Nat):Option Int->Nat
|none=>d
|some v=>if v<0 then (v+(n:Int)).toNat else min v.toNat n
theorem sIx_none(n d:Nat):sIx n d none=d:=rfl
theorem sIx_nat(n d k:Nat):sIx n d (some (k:Int))=min k n:=by
 show (if (k:Int)<0 then ((k:Int)+(n:Int)).toNat else min (k:Int).toNat n)=min k n
 rw[if_neg (by lia),Int.toNat_natCast]
theorem sIx_le(n d:Nat)(hd:d<=n)(o:Option Int):sIx n d o<=n:=by
 cases o with
|none=>exact hd
|some v =>
  show (if v<0 then (v+(n:Int)).toNat else min v.toNat n)<=n
  by_cases hv:v<0
  ·rw[if_pos hv];lia
  ·rw[if_neg hv];exact Nat.min_le_right _ _
theorem qpt(v:Int)(n d:Nat):(if v<0 then max (v+(n:Int)) 0 else min v (n:Int))=((sIx n d (some v):Nat):Int):=by
 show (if v<0 then max (v+(n:Int)) 0 else min v (n:Int))=(((if v<0 then (v+(n:Int)).toNat else min v.toNat n):Nat):Int)
 by_cases hv:v<0
 ·simp only[if_pos hv];lia
 ·simp only[if_neg hv];lia
theorem qnz(lo hi:Option Int)(n:Nat):Builtin.Slice.sliceAdjust lo hi 1 (n:Int)=(((sIx n 0 lo:Nat):Int),((sIx n n hi:Nat):Int)):=by
 have h1:¬ ((1:Int)<0):=by lia
 unfold Builtin.Slice.sliceAdjust
 simp only[h1,if_false]
 refine Prod.ext ?_ ?_
 ·cases lo with
 |none=>rfl
 |some v=>exact qpt v n 0
 ·cases hi with
 |none=>rfl
 |some v=>exact qpt v n n
theorem qom(i j:Nat):Builtin.Slice.slicePlaces (i:Int) (j:Int) 1=j-i:=by
 unfold Builtin.Slice.slicePlaces
 have h1:(1:Int)>0:=by lia
 simp only[h1,if_true,Int.ediv_one]
 split<;>lia
theorem qht{v:Value}{o:Option Int}{Q:Option Int->Shared->Prop}(p:IsPart v o)(h:Q o s):wpAny (model prog w) A (Builtin.Slice.slicePartIndex v) Q E s:=by
 cases p with
|none=>exact slicePart_none h
|int i t=>exact slicePart_int h
theorem qd0{sl:Addr}{vl vu:Value}{lo hi:Option Int}{n:Nat}{Q:Int×Int×Nat->Shared->Prop}(hs:s.heap.IsSliceOf sl vl vu .none)(pl:IsPart vl lo)(pu:IsPart vu hi)
  (h:Q (((sIx n 0 lo:Nat):Int),1,sIx n n hi-sIx n 0 lo) s):wpAny (model prog w) A (Builtin.Slice.sliceApplied (.ref sl) (pure (n:Int))) Q E s:=by
 obtain⟨os,hos,hcs,hds⟩:=id hs
 unfold Builtin.Slice.sliceApplied Builtin.Slice.sliceFields
 refine wpAny_bind (wpAny_bind (wpAny_field hos hds (x:=vl) rfl (wpAny_bind (wpAny_field hos hds (x:=vu) rfl (wpAny_bind (wpAny_field hos hds (x:=.none) rfl (wpAny_pure ?_)))))))
 refine wpAny_bind (slicePart_none ?_)
 show wpAny _ _ (if ((1:Int)==0)=true then _ else _) _ _ s
 rw[if_neg (by decide)]
 refine wpAny_bind (qht pl (wpAny_bind (qht pu (wpAny_bind (wpAny_pure ?_)))))
 show wpAny _ _ (match Builtin.Slice.sliceAdjust lo hi 1 (n:Int) with|(lo,hi)=>pure (lo,(1:Int),Builtin.Slice.slicePlaces lo hi 1)) _ _ s
 rw[qnz lo hi n]
 show wpAny _ _ (pure (((sIx n 0 lo:Nat):Int),(1:Int),Builtin.Slice.slicePlaces ((sIx n 0 lo:Nat):Int) ((sIx n n hi:Nat):Int) 1)) _ _ s
 rw[qom]
 exact wpAny_pure h
theorem qtv(xs:Array Value)(i k:Nat):((List.range k).filterMap λ(m:Nat)=>xs[((i:Int)+(m:Int)*1).toNat]?).toArray=((xs.toList.drop i).take k).toArray:=by
 have e:(λ(m:Nat)=>xs[((i:Int)+(m:Int)*1).toNat]?)=λm=>xs[i+m]?:=by
  funext m
  have:((i:Int)+(m:Int)*1).toNat=i+m:=by lia
  rw[this]
 rw[e]
 have:=pick_run xs i k
 rw[List.filterMap_map] at this
 have e2:((λx=>xs[x]?) ∘ λx=>i+x)=λm=>xs[i+m]?:=rfl
 rw[e2] at this
 rw[this]
theorem getItem_tuple_cut{t sl:Addr}{items:Array Value}{vl vu:Value}{lo hi:Option Int}{Q:Value->Shared->Prop}(ht:IsTup s.heap t items)(hs:s.heap.IsSliceOf sl vl vu .none)(pl:IsPart vl lo)(pu:IsPart vu hi)
  (hw:¬ (sIx items.size 0 lo=0/\sIx items.size items.size hi=items.size))
  (h:Q (.ref s.heap.objs.size) { s with heap:=s.heap.push { cls:=.type "tuple",data:=.seq ((items.toList.drop (sIx items.size 0 lo)).take (sIx items.size items.size hi-sIx items.size 0 lo)).toArray } })
  (hsz:items.size<=sizeLine):wpAny (model prog w) A (getItem (.ref t) (.ref sl)) Q E s:=by
 have htake:sizeOk (.seq ((items.toList.drop (sIx items.size 0 lo)).take (sIx items.size items.size hi-sIx items.size 0 lo)).toArray):=by
  show ((items.toList.drop (sIx items.size 0 lo)).take (sIx items.size items.size hi-sIx items.size 0 lo)).toArray.size<=sizeLine
  rw[List.size_toArray,List.length_take,List.length_drop,Array.length_toList]
  lia
 have hj:sIx items.size items.size hi<=items.size:=sIx_le _ _ (Nat.le_refl _) hi
 obtain⟨os,hos,hcs,hds⟩:=id hs
 have hTs:s.TypeIs (.ref sl) "slice" := ⟨os,hos,hcs⟩
 unfold getItem
 try with_reducible refine wpAny_holding ?_
 first|refine wpAny_bind (wpAny_pure ?_)|skip
 refine wpAny_bind (wpAny_sequenceKey ht.typeIs (by decide) ?_)
 refine wpAny_bind (wpAny_callSpecial?_slot (name:=Str.ofString "__getitem__") ht.typeIs PyProof.Rows.slot_tuple_getitem
  (wpAny_call_entry PyProof.Rows.slot_tuple_getitem ht.typeIs entry_tuple_getitem ?_ (args_tuple_getitem _ _)))
 show wpAny _ _ (Builtin.Tuple.tupleItemsOf (.ref t) >>= _) _ _ s
 refine wpAny_bind (tupleItemsOf_ ht ?_)
 refine wpAny_bind (wpAny_typeOf hTs ?_)
 rw[if_pos (by decide)]
 refine wpAny_bind (qd0 hs pl pu ?_)
 have hno:¬ ((((sIx items.size 0 lo:Nat):Int)==0&&(1:Int)==1&&(sIx items.size items.size hi-sIx items.size 0 lo)==items.size)=true):=by
  intro q
  rw[Bool.and_eq_true,Bool.and_eq_true] at q
  have q1:((sIx items.size 0 lo:Nat):Int)=0:=eq_of_beq q.1.1
  have q2:sIx items.size items.size hi-sIx items.size 0 lo=items.size:=eq_of_beq q.2
  exact hw ⟨by lia,by lia⟩
 show wpAny _ _ (if (((sIx items.size 0 lo:Nat):Int)==0&&(1:Int)==1&&(sIx items.size items.size hi-sIx items.size 0 lo)==items.size)=true then _ else _) _ _ s
 rw[if_neg hno,qtv]
 first
 |exact wpAny_bind (m:=Builtin.Tuple.tupleExact _) (wpAny_newObj_type (wpAny_pure ⟨_,rfl,wpAny_pure h⟩) htake)
 |exact wpAny_bind (m:=Builtin.Tuple.tupleExact _) (wpAny_newObj_type (wpAny_bind (wpAny_pure (wpAny_pure ⟨_,rfl,wpAny_pure h⟩))) htake)
 |exact wpAny_bind (wpAny_bind (m:=Builtin.Tuple.tupleExact _) (wpAny_newObj_type (wpAny_pure (wpAny_pure ⟨_,rfl,wpAny_pure h⟩)) htake))
 |exact wpAny_bind (wpAny_bind (m:=Builtin.Tuple.tupleExact _) (wpAny_newObj_type (wpAny_pure ⟨_,rfl,wpAny_pure h⟩) htake))
end
end HT
namespace L2
open PySem PySem.Spec PyProof.Rows
abbrev TO:=St->Hp->(Option Int->Hp->Prop)->Prop
def PO(X:Cx)(e:Option Expr)(t:TO):Prop :=
 ∀(pins:List (Addr×Obj)) (s:Shared) (σ:St) (H:Hp) (Q:Option Int->Hp->Prop),Inv X pins σ H s->t σ H Q ->
  wpAny (model X.prog X.w) X.A (evalPart e X.env) (λu s'=>∃o H',Inv X pins σ H' s'/\IsPart u o/\Q o H') X.xe s
def qrr:TO:=λ_ H Q=>Q none H
def q2p(t:TE):TO:=λσ H Q=>t σ H λx H1=>∃i,x=.int i/\Q (some i) H1
section
variable {X:Cx} {e:Expr} {te:TE} {lo hi:Option Expr} {tl th:TO} {pos p2:Pos}
theorem qx2:PO X none qrr:=by
 intro pins s σ H Q I h
 rw[evalPart_none]
 exact wpAny_pure ⟨none,H,I,.none,h⟩
theorem qx3(h:PE X e te):PO X (some e) (q2p te):=by
 intro pins s σ H Q I hw
 rw[evalPart_some]
 refine thn (h pins s σ H _ I hw) λu s1 ⟨x,H1,I1,r1,q1⟩=>?_
 obtain⟨i,rfl,q⟩:=q1
 obtain⟨t,rfl⟩:=r1
 exact⟨some i,H1,I1,.int i t,q⟩
def SlR(X:Cx)(r:V->Option Int->Option Int->Hp->VK->Prop):Prop :=
 ∀(pins:List (Addr×Obj)) (s:Shared) (σ:St) (H:Hp) (x:V) (v vl vu:Value) (lo hi:Option Int) (sl:Addr) (Q:VK),Inv X pins σ H s->RelV x v->s.heap.IsSliceOf sl vl vu .none->IsPart vl lo->IsPart vu hi->r x lo hi H Q ->
  ∃T id,typeLookup (.type T) "__getitem__" = pure (some (.builtin id))/\s.TypeIs v T/\wpAny (model X.prog X.w) X.A (getItem v (.ref sl)) (EP X pins σ Q) X.xe s
theorem SlR.or{r r':V->Option Int->Option Int->Hp->VK->Prop}(h:SlR X r)(h':SlR X r'):SlR X (λx lo hi H Q=>r x lo hi H Q\/r' x lo hi H Q):=by
 intro pins s σ H x v vl vu lo hi sl Q I rx hs pl pu q
 rcases q with q|q
 ·exact h pins s σ H x v vl vu lo hi sl Q I rx hs pl pu q
 ·exact h' pins s σ H x v vl vu lo hi sl Q I rx hs pl pu q
def tSl(r:V->Option Int->Option Int->Hp->VK->Prop)(te:TE)(tl th:TO):TE:=λσ H Q=>te σ H λx H1=>tl σ H1 λl H2=>th σ H2 λu H3=>r x l u H3 Q
theorem qtt{r:V->Option Int->Option Int->Hp->VK->Prop}(hr:SlR X r)(he:PE X e te)(hl:PO X lo tl)(hu:PO X hi th):PE X (.Subscript e (.Slice lo hi none p2) pos) (tSl r te tl th):=by
 intro pins s σ H Q I h
 refine Subscript_ (thn (he pins s σ H _ I h) λv s1 ⟨x,H1,I1,r1,q1⟩=>?_)
 refine wpAny_Slice (thn (hl pins s1 σ H1 _ I1 q1) λvl s2 ⟨l,H2,I2,pl,q2⟩=>thn (hu pins s2 σ H2 _ I2 q2) λvu s3 ⟨u,H3,I3,pu,q3⟩=>?_)
 rw[evalPart_none]
 refine wpAny_pure ?_
 have I4:Inv X pins σ H3 { s3 with heap:=s3.heap.push { cls:=.type "slice",data:=.fields #[vl,vu,.none] } }:=I3.kept (t':=s3.toks) λb ob q=>Heap.get?_push_of_some _ q
 obtain⟨T,id,hT,ht,hg⟩:=hr pins { s3 with heap:=s3.heap.push { cls:=.type "slice",data:=.fields #[vl,vu,.none] } } σ H3 x v vl vu l u s3.heap.objs.size Q I4 r1 (Heap.IsSliceOf.new ..) pl pu q3
 show wpAny (model X.prog X.w) X.A (subscriptTail e (.Slice lo hi none p2) v (.ref s3.heap.objs.size)) (EP X pins σ Q) X.xe { s3 with heap:=s3.heap.push { cls:=.type "slice",data:=.fields #[vl,vu,.none] } }
 exact tail_any (ops:=[.ref s3.heap.objs.size,v]) ht hT hg (by with_unfolding_all rfl)
def cutV(xs:List V)(lo hi:Option Int):List V:=(xs.drop (HT.sIx xs.length 0 lo)).take (HT.sIx xs.length xs.length hi-HT.sIx xs.length 0 lo)
theorem qgc(xs:List V)(lo hi:Option Int):(cutV xs lo hi).length<=xs.length:=by
 unfold cutV
 rw[List.length_take,List.length_drop]
 lia
def rSlT(K:PySem.W.Frag):V->Option Int->Option Int->Hp->VK->Prop:=λx lo hi H Q=>∃a xs,x=.ref a/\SqT K H a xs /\
 ¬ (HT.sIx xs.length 0 lo=0/\HT.sIx xs.length xs.length hi=xs.length)/\∀p,H p=none->Q (.ref p) (upd H p (.tup (cutV xs lo hi)))
theorem q2i:SlR X (rSlT X.K):=by
 intro pins s σ H x v vl vu lo hi sl Q I rx hs pl pu h
 obtain⟨a,xs,rfl,hx,hw,q⟩:=h
 cases rx
 obtain⟨its,r,ht,hz⟩:=I.tuple hx
 have hlen:its.toArray.size=xs.length:=by rw[List.size_toArray];exact r.length.symm
 refine⟨"tuple",_,PyProof.Rows.slot_tuple_getitem.lookup,ht.typeIs,?_⟩
 refine HT.getItem_tuple_cut ht hs pl pu (by rw[hlen];exact hw) ?_ (by rw[hlen];exact hz)
 rw[hlen]
 refine⟨.ref s.heap.objs.size,_,I.laid (t':=s.toks) (o:=.tup (cutV xs lo hi)) (λb ob q=>Heap.get?_push_of_some _ q) (Nat.le_refl _) ?_,rfl,q _ (I.hok.fresh (Nat.le_refl _))⟩
 exact⟨Nat.le_trans (qgc xs lo hi) hz,_,(r.drop (HT.sIx xs.length 0 lo)).take (HT.sIx xs.length xs.length hi-HT.sIx xs.length 0 lo),IsTup.new _ _⟩
def q31(K:PySem.W.Frag):R2:=λx y H Q=>∃a b xs ys,x=.ref a/\y=.ref b/\SqT K H a xs/\SqT K H b ys/\xs≠[]/\xs.length+ys.length<=sizeLine /\
 (ys=[]->Q (.ref a) H)/\(ys≠[]->∀p,H p=none->Q (.ref p) (upd H p (.tup (xs++ys))))
theorem Vals.nil_iff{xs:List V}{us:List Value}(r:Vals xs us):us=[]↔xs=[]:=by
 cases r with
|nil=>simp
|cons _ _=>simp
theorem qxm:OpR X (binaryOp .Add) (q31 X.K):=by
 intro pins s σ H x y v u Q I rx ry h
 obtain⟨a,b,xs,ys,rfl,rfl,ha,hb,hx,hz,q1,q2⟩:=h
 cases rx
 cases ry
 obtain⟨its,r1,p1,_⟩:=I.tuple ha
 obtain⟨its2,r2,p2,_⟩:=I.tuple hb
 refine HT.cat_tup p1 p2 (λz=>hx (r1.nil_iff.mp z)) (λz=>⟨.ref a,H,I,rfl,q1 (r2.nil_iff.mp z)⟩) (λz=>?_) (by rw[←r1.length,←r2.length];exact hz)
 refine⟨.ref s.heap.objs.size,_,I.laid (t':=s.toks) (o:=.tup (xs++ys)) (λb ob q=>Heap.get?_push_of_some _ q) (Nat.le_refl _) ?_,rfl,q2 (λw=>z (r2.nil_iff.mpr w)) _ (I.hok.fresh (Nat.le_refl _))⟩
 exact⟨by rw[List.length_append];exact hz,_,r1.append r2,IsTup.new _ _⟩
end
end L2
namespace L2
open PySem PySem.Spec PyProof.Rows
def ixN(n:Nat)(i:Int):Option Nat:=if 0<=i then (if i<n then some i.toNat else none) else if -(n:Int)<=i then some (i+n).toNat else none
def atI{α:Type}(xs:List α)(i:Int):Option α:=(ixN xs.length i).bind λj=>xs[j]?
theorem qqe{n:Nat}{i:Int}{j:Nat}(h:ixN n i=some j):seqIndex? i n=some j/\j<n/\-(n:Int)<=i/\i<n:=by
 unfold ixN at h
 by_cases h0:0<=i
 ·rw[if_pos h0] at h
  by_cases h1:i<n
  ·rw[if_pos h1] at h
   have e:i.toNat=j:=Option.some.inj h
   exact⟨by rw[seqIndex_of h0 h1,e],by lia,by lia,h1⟩
  ·rw[if_neg h1] at h;cases h
 ·rw[if_neg h0] at h
  by_cases h1:-(n:Int)<=i
  ·rw[if_pos h1] at h
   have e:(i+n).toNat=j:=Option.some.inj h
   exact⟨by rw[seqIndex_neg (by lia) h1,e],by lia,h1,by lia⟩
  ·rw[if_neg h1] at h;cases h
theorem qky{α:Type}{xs:List α}{i:Int}{v:α}(h:atI xs i=some v):∃j,seqIndex? i xs.length=some j/\xs[j]?=some v/\j<xs.length/\-(xs.length:Int)<=i/\i<xs.length:=by
 unfold atI at h
 cases e:ixN xs.length i with
|none=>rw[e] at h;cases h
|some j =>
  rw[e] at h
  obtain⟨h1,h2,h3,h4⟩:=qqe e
  exact⟨j,h1,h,h2,h3,h4⟩
theorem qwf{α:Type}{xs:List α}{j:Nat}{v:α}(h:xs[j]?=some v):atI xs (j:Int)=some v:=by
 have hj:j<xs.length:=(List.getElem?_eq_some_iff.mp h).1
 have e:ixN xs.length (j:Int)=some j:=by
  unfold ixN
  rw[if_pos (by lia),if_pos (by lia)];simp
 unfold atI;rw[e];exact h
def qh2(b:Expr):Prop:=∀o i,subscripted b false o i=operate [o,i] (getItem o i)
def IxR(X:Cx)(r:R2):Prop :=
 ∀(value slice:Expr) (pins:List (Addr×Obj)) (s:Shared) (σ:St) (H:Hp) (x y:V) (v u:Value) (Q:VK),Inv X pins σ H s->RelV x v->RelV y u->r x y H Q ->
  subscripted slice false v u=operate [v,u] (getItem v u)->wpAny (model X.prog X.w) X.A (subscriptTail value slice v u) (EP X pins σ Q) X.xe s
def MtR(X:Cx)(id:String)(r:V->List V->Hp->VK->Prop):Prop :=
 ∀(pins:List (Addr×Obj)) (s:Shared) (σ:St) (H:Hp) (x:V) (xs:List V) (v:Value) (us:List Value) (Q:VK),Inv X pins σ H s->RelV x v->Vals xs us->r x xs H Q ->
  wpAny (model X.prog X.w) X.A (call (.builtin id) (v::us)) (EP X pins σ Q) X.xe s
section
variable {X:Cx} {a b:Expr} {ta tb:TE} {pos:Pos}
theorem IxR.or{r r':R2}(h:IxR X r)(h':IxR X r'):IxR X (λx y H Q=>r x y H Q\/r' x y H Q):=by
 intro value slice pins s σ H x y v u Q I rx ry q hs
 rcases q with q|q
 ·exact h value slice pins s σ H x y v u Q I rx ry q hs
 ·exact h' value slice pins s σ H x y v u Q I rx ry q hs
theorem MtR.or{id:String}{r r':V->List V->Hp->VK->Prop}(h:MtR X id r)(h':MtR X id r'):MtR X id (λx xs H Q=>r x xs H Q\/r' x xs H Q):=by
 intro pins s σ H x xs v us Q I rx rs q
 rcases q with q|q
 ·exact h pins s σ H x xs v us Q I rx rs q
 ·exact h' pins s σ H x xs v us Q I rx rs q
theorem q3n{r:R2}(hr:IxR X r)(ha:PE X a ta)(hb:PE X b tb)(hs:qh2 b):PE X (.Subscript a b pos) (tOp r ta tb):=by
 intro pins s σ H Q I h
 exact Subscript_ (binT ha hb I h λv u s2 x y H2 I2 rx ry q=>hr a b pins s2 σ H2 x y v u Q I2 rx ry q (hs _ _))
def rIxL(K:PySem.W.Frag):R2:=λx y H Q=>∃p xs i v,x=.ref p/\y=.int i/\SqL K H p xs/\atI xs i=some v/\Q v H
def rIxT(K:PySem.W.Frag):R2:=λx y H Q=>∃p xs i v,x=.ref p/\y=.int i/\SqT K H p xs/\atI xs i=some v/\Q v H
def rIxS:R2:=λx y H Q=>∃z i c,x=.str z/\y=.int i/\z.length<=sizeLine/\atI z.cps.toList i=some c/\Q (.str ⟨#[c]⟩) H
theorem qw1:IxR X (rIxL X.K):=by
 intro value slice pins s σ H x y v u Q I rx ry h hs
 obtain⟨p,xs,i,z,rfl,rfl,hq,he,q⟩:=h
 cases rx
 obtain⟨t,rfl⟩:=ry
 obtain⟨its,r,pl,hz⟩:=I.list hq
 obtain⟨j,h1,h2,h3,h4,h5⟩:=qky he
 obtain⟨w,ew,rw'⟩:=r.get h2
 have hl:=r.length
 have hn:=qho
 have fin:EP X pins σ Q w s:=⟨z,H,I,rw',q⟩
 by_cases h0:0<=i
 ·have hj:i.toNat=j:=by
   rw[seqIndex_of h0 h5] at h1
   exact Option.some.inj h1
  exact item_listR pl.isList h0 (by lia) (by rw[hj];simpa using ew) fin hs
 ·have hj:(i+(its.toArray.size:Int)).toNat=j:=by
   rw[seqIndex_neg (by lia) h4] at h1
   rw[List.size_toArray,←hl]
   exact Option.some.inj h1
  exact subscriptTail_builtinR (x:=w) pl.isList.typeIs slot_list_getitem.lookup
   (wpAny_getItem_list_neg (Q:=λr s'=>r=w/\EP X pins σ Q r s') pl.isList (by lia) (by rw[List.size_toArray]<;>lia) (by lia) (by rw[hj];simpa using ew) ⟨rfl,fin⟩) hs
theorem ix_tup:IxR X (rIxT X.K):=by
 intro value slice pins s σ H x y v u Q I rx ry h hs
 obtain⟨p,xs,i,z,rfl,rfl,hq,he,q⟩:=h
 cases rx
 obtain⟨t,rfl⟩:=ry
 obtain⟨its,r,pl,hz⟩:=I.tuple hq
 obtain⟨j,h1,h2,h3,h4,h5⟩:=qky he
 obtain⟨w,ew,rw'⟩:=r.get h2
 have hl:=r.length
 have hn:=qho
 have fin:EP X pins σ Q w s:=⟨z,H,I,rw',q⟩
 exact subscriptTail_builtinR (x:=w) pl.typeIs slot_tuple_getitem.lookup
  (getItem_tuple (j:=j) (Q:=λr s'=>r=w/\EP X pins σ Q r s') pl (by lia) (by lia) (by rw[List.size_toArray,←hl];exact h1) (by simpa using ew) ⟨rfl,fin⟩) hs
theorem ix_str:IxR X rIxS:=by
 intro value slice pins s σ H x y v u Q I rx ry h hs
 obtain⟨z,i,c,rfl,rfl,hz,he,q⟩:=h
 obtain⟨t,rfl⟩:=rx
 obtain⟨t',rfl⟩:=ry
 obtain⟨j,h1,h2,h3,h4,h5⟩:=qky he
 have hl:z.cps.toList.length=z.length:=by simp[Str.length]
 rw[hl] at h1 h4 h5
 have hn:=qho
 exact tail_any (typeIs_str s z t) slot_str_getitem.lookup (getItem_str (c:=c) (by
  have e1:decide (i < -(2 ^ 63:Int))=false:=decide_eq_false (by lia)
  have e2:decide (i≥2 ^ 63)=false:=decide_eq_false (by lia)
  rw[e1,e2,Bool.or_false]) (by rw[h1];simpa using h2) ⟨.str ⟨#[c]⟩,H,I.tok _,⟨_,rfl⟩,q⟩) hs
theorem qn9(its:List Value)(n j:Nat)(u:Value):Obj.mapSeq (·.setIfInBounds j u) { cls:=.type "list",data:=.seq its.toArray n }={ cls:=.type "list",data:=.seq (its.set j u).toArray n }:=by
 simp[Obj.mapSeq]
theorem Inv.lst{pins:List (Addr×Obj)}{σ:St}{H:Hp}{s:Shared}{p:Addr}{xs:List V}(I:Inv X pins σ H s)(h:H p=some (.lst xs)) :
  ∃(its:List Value) (n:Nat),Vals xs its/\s.heap.get? p=some { cls:=.type "list",data:=.seq its.toArray n }/\xs.length<=sizeLine:=by
 obtain⟨z,its,n,r,e⟩:=I.hok p _ h
 exact⟨its,n,r,e,z⟩
theorem Inv.lstUpd{pins:List (Addr×Obj)}{σ:St}{H:Hp}{s:Shared}{p:Addr}{xs ys:List V}{its its':List Value}{n n':Nat}{f:Obj->Obj}(I:Inv X pins σ H s)(h:H p=some (.lst xs))
  (ho:s.heap.get? p=some { cls:=.type "list",data:=.seq its.toArray n }) (hf:f { cls:=.type "list",data:=.seq its.toArray n }={ cls:=.type "list",data:=.seq its'.toArray n' }) (r:Vals ys its') (hz:ys.length<=sizeLine) (t:Nat) :
  Inv X pins σ (upd H p (.lst ys)) { s with heap:=s.heap.update p f,toks:=t }:=by
 have e:(s.heap.update p f).get? p=some { cls:=.type "list",data:=.seq its'.toArray n' }:=by
  rw[Heap.get?_update_self f ho (by rw[hf]<;>rfl),hf]
 refine I.write (x:=p) (e:=p) (by rw[h];trivial) (.inl rfl) (λb u hb q=>(Heap.get?_update_other _ _ (Ne.symm hb)).trans q) ⟨_,e⟩ ?_
 exact⟨hz,its',n',r,e⟩
def q33:V->V->V->Hp->(Hp->Prop)->Prop:=λo i v H Q=>∃p xs k j,o=.ref p/\i=.int k/\H p=some (.lst xs)/\ixN xs.length k=some j/\Q (upd H p (.lst (xs.set j v)))
theorem set_list:PSet X q33:=by
 intro pins s σ H o i v ov iv u Q I ro ri rv h
 obtain⟨p,xs,k,j,rfl,rfl,hp,hj,q⟩:=h
 cases ro
 obtain⟨t,rfl⟩:=ri
 obtain⟨its,n,r,ho,hz⟩:=I.lst hp
 obtain⟨h1,h2,h3,h4⟩:=qqe hj
 have hl:=r.length
 have hn:=qho
 have I':Inv X pins σ (upd H p (.lst (xs.set j v))) { s with heap:=s.heap.update p (Obj.mapSeq (·.setIfInBounds j u)) } :=
  I.lstUpd hp ho (qn9 its n j u) (r.set rv j) (by rw[List.length_set];exact hz) s.toks
 by_cases h0:0<=k
 ·have hk:k.toNat=j:=by
   rw[seqIndex_of h0 h4] at h1
   exact Option.some.inj h1
  exact PySem.W.ki_setAt ho h0 (by lia) (by rw[List.size_toArray,←hl];exact h4) (by rw[hk];exact⟨_,I',q⟩)
 ·have hk:(k+(its.toArray.size:Int)).toNat=j:=by
   rw[seqIndex_neg (by lia) h3] at h1
   rw[List.size_toArray,←hl]
   exact Option.some.inj h1
  exact PySem.W.ki_setBack ho (by lia) (by rw[List.size_toArray,←hl];exact h3) (by lia) (by rw[hk];exact⟨_,I',q⟩)
theorem qkc(lo hi:Option Int)(n:Nat):(sliceBounds lo hi none n).1=((HT.sIx n 0 lo:Nat):Int)/\(sliceBounds lo hi none n).2.1=((HT.sIx n n hi:Nat):Int)/\(sliceBounds lo hi none n).2.2=1:=by
 refine⟨?_,?_,rfl⟩
 ·cases lo with
 |none=>simp[sliceBounds,HT.sIx]
 |some i =>
   simp only[sliceBounds,HT.sIx,Option.getD_none,show (1:Int)>0 by decide,if_true]
   by_cases h:i<0
   ·simp only[h,if_true]<;>lia
   ·simp only[h,if_false]<;>lia
 ·cases hi with
 |none=>simp[sliceBounds,HT.sIx]
 |some i =>
   simp only[sliceBounds,HT.sIx,Option.getD_none,show (1:Int)>0 by decide,if_true]
   by_cases h:i<0
   ·simp only[h,if_true]<;>lia
   ·simp only[h,if_false]<;>lia
theorem qiu(its:List Value)(lo hi:Option Int):slicePick its.toArray lo hi none=((its.drop (HT.sIx its.length 0 lo)).take (HT.sIx its.length its.length hi-HT.sIx its.length 0 lo)).toArray:=by
 obtain⟨h1,h2,h3⟩:=qkc lo hi its.toArray.size
 unfold slicePick
 rw[h1,h2,h3]
 simp only[sliceRange_one,pick_run,List.size_toArray]<;>rfl
def rSlL(K:PySem.W.Frag):V->Option Int->Option Int->Hp->VK->Prop:=λx lo hi H Q=>∃a xs,x=.ref a/\SqL K H a xs/\∀p,H p=none->Q (.ref p) (upd H p (.lst (cutV xs lo hi)))
theorem qy2:SlR X (rSlL X.K):=by
 intro pins s σ H x v vl vu lo hi sl Q I rx hs pl pu h
 obtain⟨a,xs,rfl,hx,q⟩:=h
 cases rx
 obtain⟨its,r,ht,hz⟩:=I.list hx
 have hlen:=r.length
 refine⟨"list",_,slot_list_getitem.lookup,ht.isList.typeIs,?_⟩
 refine wpAny_getItem_list_slice ht.isList hs pl pu .none (by simp) ?_ (by rw[List.size_toArray]<;>lia)
 rw[qiu,←hlen]
 refine⟨.ref s.heap.objs.size,_,I.laid (t':=s.toks) (o:=.lst (cutV xs lo hi)) (λb ob q=>Heap.get?_push_of_some _ q) (Nat.le_refl _) ?_,rfl,q _ (I.hok.fresh (Nat.le_refl _))⟩
 exact⟨Nat.le_trans (qgc xs lo hi) hz,_,0,(r.drop (HT.sIx xs.length 0 lo)).take (HT.sIx xs.length xs.length hi-HT.sIx xs.length 0 lo),Heap.get?_push_size _ rfl⟩
def qfq:V->Bool
|.non=>true
|.bl _=>true
|.int _=>true
|.str _=>true
|_=>false
def eqV:V->V->Bool
|.non,.non=>true
|.bl a,.bl b=>a==b
|.bl a,.int b=>(if a then 1 else 0)==b
|.int a,.bl b=>a==(if b then 1 else 0)
|.int a,.int b=>a==b
|.str a,.str b=>a==b
|_,_=>false
theorem qvb{A:Around}{s:Shared}{y x:V}{u v:Value}(ry:RelV y u)(rx:RelV x v)(fy:qfq y=true)(fx:qfq x=true):SeqAt.EqAt A s u v (eqV y x):=by
 cases y with
|non =>
  cases ry
  cases x with
 |non=>cases rx;exact SeqAt.EqAt.same _
 |bl b=>cases rx;exact SeqAt.EqAt.none_bool b
 |int b=>obtain⟨t,rfl⟩:=rx;exact SeqAt.EqAt.none_int b t
 |str b=>obtain⟨t,rfl⟩:=rx;exact SeqAt.EqAt.none_str b t
 |_=>exact absurd (show false=true from fx) Bool.false_ne_true
|bl a =>
  cases ry
  cases x with
 |non=>cases rx;exact SeqAt.EqAt.bool_none a
 |bl b=>cases rx;exact SeqAt.EqAt.bool_bool a b
 |int b=>obtain⟨t,rfl⟩:=rx;exact SeqAt.EqAt.bool_int a b t
 |str b=>obtain⟨t,rfl⟩:=rx;exact SeqAt.EqAt.bool_str a b t
 |_=>exact absurd (show false=true from fx) Bool.false_ne_true
|int a =>
  obtain⟨t',rfl⟩:=ry
  cases x with
 |non=>cases rx;exact SeqAt.EqAt.int_none a t'
 |bl b=>cases rx;exact SeqAt.EqAt.int_bool a t' b
 |int b=>obtain⟨t,rfl⟩:=rx;exact SeqAt.EqAt.int_int a t' b t
 |str b=>obtain⟨t,rfl⟩:=rx;exact SeqAt.EqAt.int_str a t' b t
 |_=>exact absurd (show false=true from fx) Bool.false_ne_true
|str a =>
  obtain⟨t',rfl⟩:=ry
  cases x with
 |non=>cases rx;exact SeqAt.EqAt.str_none a t'
 |bl b=>cases rx;exact SeqAt.EqAt.str_bool a t' b
 |int b=>obtain⟨t,rfl⟩:=rx;exact SeqAt.EqAt.str_int a t' b t
 |str b=>obtain⟨t,rfl⟩:=rx;exact SeqAt.EqAt.str_str a t' b t
 |_=>exact absurd (show false=true from fx) Bool.false_ne_true
|_=>exact absurd (show false=true from fy) Bool.false_ne_true
def eqU(x:V)(u:Value):Bool:=match u with
|.none=>eqV .non x
|.bool b=>eqV (.bl b) x
|.int i _=>eqV (.int i) x
|.str z _=>eqV (.str z) x
|_=>false
theorem qvd{x y:V}{u:Value}(r:RelV y u)(f:qfq y=true):eqU x u=eqV y x:=by
 cases y with
|non=>cases r;rfl
|bl b=>cases r;rfl
|int i=>obtain⟨t,rfl⟩:=r;rfl
|str z=>obtain⟨t,rfl⟩:=r;rfl
|_=>exact absurd (show false=true from f) Bool.false_ne_true
theorem qf0{x:V}:∀ {xs:List V} {us:List Value},Vals xs us->xs.all qfq=true->us.any (eqU x)=xs.any λy=>eqV y x
|_,_,.nil,_=>rfl
|y::xs,u::us,.cons r t,f=>by
  rw[List.all_cons,Bool.and_eq_true] at f
  rw[List.any_cons,List.any_cons,qvd r f.1,qf0 t f.2]
theorem qeu{A:Around}{s:Shared}{x:V}{v:Value}(rx:RelV x v)(fx:qfq x=true):∀ {xs:List V} {us:List Value},Vals xs us->xs.all qfq=true->∀u∈us,SeqAt.EqAt A s u v (eqU x u)
|_,_,.nil,_=>λu hu=>by cases hu
|y::xs,u::us,.cons r t,f=>λu' hu=>by
  rw[List.all_cons,Bool.and_eq_true] at f
  rcases List.mem_cons.mp hu with rfl|hu
  ·rw[qvd r f.1];exact qvb r rx f.1 fx
  ·exact qeu rx fx t f.2 u' hu
def inV(x:V)(xs:List V):Bool:=xs.any λy=>eqV y x
def rIn(K:PySem.W.Frag)(neg:Bool):R2:=λx y H Q=>∃p xs,y=.ref p/\(SqL K H p xs\/SqT K H p xs)/\qfq x=true/\xs.all qfq=true/\Q (.bl (if neg then !inV x xs else inV x xs)) H
theorem qq3:OpR X (compareOp .In) (rIn X.K false):=by
 intro pins s σ H x y v u Q I rx ry h
 obtain⟨p,xs,rfl,hq,fx,fs,q⟩:=h
 cases ry
 rcases hq with hq|hq
 ·obtain⟨its,r,pl,hz⟩:=I.list hq
  refine SeqAt.in_listAt (eqU x) pl.isList (λw hw=>qeu rx fx r fs w (by simpa using hw)) ⟨.bl _,H,I,rfl,?_⟩
  rw[show its.toArray.any (eqU x)=its.any (eqU x) by simp,qf0 r fs]
  exact q
 ·obtain⟨its,r,pl,hz⟩:=I.tuple hq
  refine SeqAt.in_tupleAt (eqU x) pl (λw hw=>qeu rx fx r fs w (by simpa using hw)) ⟨.bl _,H,I,rfl,?_⟩
  rw[show its.toArray.any (eqU x)=its.any (eqU x) by simp,qf0 r fs]
  exact q
theorem qj4:OpR X (compareOp .NotIn) (rIn X.K true):=by
 intro pins s σ H x y v u Q I rx ry h
 obtain⟨p,xs,rfl,hq,fx,fs,q⟩:=h
 cases ry
 rcases hq with hq|hq
 ·obtain⟨its,r,pl,hz⟩:=I.list hq
  refine SeqAt.notIn_listAt (eqU x) pl.isList (λw hw=>qeu rx fx r fs w (by simpa using hw)) ⟨.bl _,H,I,rfl,?_⟩
  rw[show its.toArray.any (eqU x)=its.any (eqU x) by simp,qf0 r fs]
  exact q
 ·obtain⟨its,r,pl,hz⟩:=I.tuple hq
  refine SeqAt.notIn_tupleAt (eqU x) pl (λw hw=>qeu rx fx r fs w (by simpa using hw)) ⟨.bl _,H,I,rfl,?_⟩
  rw[show its.toArray.any (eqU x)=its.any (eqU x) by simp,qf0 r fs]
  exact q
theorem qjg:CallR X (.builtin "len") (λxs H Q=>∃p ys,xs=[.ref p]/\(SqL X.K H p ys\/SqT X.K H p ys)/\Q (.int ys.length) H):=by
 intro pins s σ H xs us Q I r h
 obtain⟨p,ys,rfl,hq,q⟩:=h
 obtain⟨u,rfl,rx⟩:=vals1 r
 cases rx
 have hn:=qho
 rcases hq with hq|hq
 ·obtain⟨its,r',pl,hz⟩:=I.list hq
  have hlen:=r'.length
  exact Calls.call_len_list pl.isList (by simp only[List.size_toArray]<;>lia) ⟨.int ys.length,H,I.tok _,⟨s.toks+1,by rw[List.size_toArray,hlen]⟩,q⟩
 ·obtain⟨its,r',pl,hz⟩:=I.tuple hq
  have hlen:=r'.length
  exact len_tuple pl (by simp only[List.size_toArray]<;>lia) ⟨.int ys.length,H,I.tok _,⟨s.toks+1,by rw[List.size_toArray,hlen]⟩,q⟩
theorem call_len_str:CallR X (.builtin "len") (λxs H Q=>∃z,xs=[.str z]/\z.length<=sizeLine/\Q (.int z.length) H):=by
 intro pins s σ H xs us Q I r h
 obtain⟨z,rfl,hz,q⟩:=h
 obtain⟨u,rfl,t,rfl⟩:=vals1 r
 have hn:=qho
 exact len_str (by lia) ⟨.int z.length,H,I.tok _,⟨_,rfl⟩,q⟩
theorem CallR.or{f:Value}{r r':List V->Hp->VK->Prop}(h:CallR X f r)(h':CallR X f r'):CallR X f (λxs H Q=>r xs H Q\/r' xs H Q):=by
 intro pins s σ H xs us Q I rs q
 rcases q with q|q
 ·exact h pins s σ H xs us Q I rs q
 ·exact h' pins s σ H xs us Q I rs q
theorem qji:CallR X (.type "list") (λxs H Q=>∃p ys,xs=[.ref p]/\(SqL X.K H p ys\/SqT X.K H p ys)/\∀l,H l=none->Q (.ref l) (upd H l (.lst ys))):=by
 intro pins s σ H xs us Q I r h
 obtain⟨p,ys,rfl,hq,q⟩:=h
 obtain⟨u,rfl,rx⟩:=vals1 r
 cases rx
 have fin:∀(its:List Value),Vals ys its->ys.length<=sizeLine->∀(h':Heap) (c':Nat),(∀b o',s.heap.get? b=some o'->h'.get? b=some o') ->
   h'.get? s.heap.objs.size=some { cls:=.type "list",dict:=none,data:=.seq its.toArray c',slots:=#[] }->EP X pins σ Q (.ref s.heap.objs.size) { s with heap:=h' }:=λits r' hz h' c' kp e =>
  ⟨.ref s.heap.objs.size,_,I.laid (t':=s.toks) kp (Nat.le_refl _) (show ObjOk X.prog X.w _ h' _ (.lst ys) from ⟨hz,its,c',r',e⟩),rfl,q _ (I.hok.fresh (Nat.le_refl _))⟩
 rcases hq with hq|hq
 ·obtain⟨its,r',pl,hz⟩:=I.list hq
  have hlen:=r'.length
  obtain⟨o,ho,hc,n,hd⟩:=pl.isList
  exact call_list_seq p (.inl rfl) ho hc hd (λh' c' kp e=>fin its r' hz h' c' kp e) (by simp only[List.size_toArray]<;>lia)
 ·obtain⟨its,r',pl,hz⟩:=I.tuple hq
  have hlen:=r'.length
  obtain⟨o,ho,hc,n,hd⟩:=pl
  exact call_list_seq p (.inr rfl) ho hc hd (λh' c' kp e=>fin its r' hz h' c' kp e) (by simp only[List.size_toArray]<;>lia)
def tyV(K:PySem.W.Frag)(T:String)(x:V)(H:Hp):Prop:=match x with
|.str _=>T="str"
|.int _=>T="int"
|.ref p=>(T="list" /\ ∃xs,SqL K H p xs)\/(T="tuple" /\ ∃o,K.lookup p=some o/\o.cls=.type "tuple" /\ o.dict=none) \/
   (T="dict" /\ ((∃kvs,H p=some (.dK kvs))\/∃kvs,H p=some (.dT kvs)))\/(T="set" /\ ∃S n,H p=some (.set S n))
|_=>False
theorem q2s{pins:List (Addr×Obj)}{σ:St}{H:Hp}{s:Shared}{T:String}{x:V}{v:Value}(I:Inv X pins σ H s)(r:RelV x v)(ty:tyV X.K T x H) :
  s.TypeIs v T/\∀a,v=.ref a->∃ob,s.heap.get? a=some ob/\ob.dict=none:=by
 cases x with
|str z =>
  obtain⟨t,rfl⟩:=r
  cases (show T="str" from ty)
  exact⟨typeIs_str s z t,λ_ e=>nomatch e⟩
|int i =>
  obtain⟨t,rfl⟩:=r
  cases (show T="int" from ty)
  exact⟨typeIs_int s i t,λ_ e=>nomatch e⟩
|ref p =>
  cases r
  rcases ty with ⟨rfl,xs,hq⟩|⟨rfl,o,hk,hc,hd⟩|⟨rfl,hk⟩|⟨rfl,S,n,hk⟩
  ·obtain⟨its,_,pl,_⟩:=I.list hq
   refine⟨pl.isList.typeIs,λa e=>?_⟩
   cases e
   obtain⟨o,n,e,c,hd,_⟩:=pl
   exact⟨o,e,hd⟩
  ·refine⟨⟨o,I.kIn p o hk,hc⟩,λa e=>?_⟩
   cases e
   exact⟨o,I.kIn _ o hk,hd⟩
  ·have z:∃o,s.heap.get? p=some o/\o.ExactDict:=by
    rcases hk with ⟨kvs,hk⟩|⟨kvs,hk⟩
    ·obtain⟨_,_,_,_,o,_,_,e,ex,_⟩:=I.hok p _ hk
     exact⟨o,e,ex⟩
    ·obtain⟨_,_,_,_,o,_,_,e,ex,_⟩:=I.hok p _ hk
     exact⟨o,e,ex⟩
   obtain⟨o,e,ex⟩:=z
   refine⟨⟨o,e,ex.1⟩,λa e2=>?_⟩
   cases e2
   exact⟨o,e,ex.2.1⟩
  ·obtain⟨o,_,_,_,e,ex,_⟩:=I.hok p _ hk
   refine⟨⟨o,e,ex.1⟩,λa e2=>?_⟩
   cases e2
   exact⟨o,e,ex.2.1⟩
|_=>exact False.elim ty
def tBM(K:PySem.W.Frag)(T:String)(r:V->List V->Hp->VK->Prop)(to:TE)(t:TA):TE:=λσ H Q=>to σ H λx H1=>tyV K T x H1/\t σ H1 λxs H2=>r x xs H2 Q
variable {o e:Expr} {es:List Expr} {to:TE} {t:TA} {name:Str} {apos cpos:Pos} {T id:String} {r:V->List V->Hp->VK->Prop}
theorem q3m(pa:PlainAttrs T)(slot:Slot T name id)(hty:typeOf (.builtin id)=pure (.type "method_descriptor"))(hm:MtR X id r)(ho:PE X o to)(ha:PA X (e::es) t)
  (hbase:attributeBase o name X.env (eval o X.env)=eval o X.env:=by rfl)
  (hfew:((backTo cpos (starEach (e::es) X.env)).all (λx=>!x.1)&&(backToKw cpos (keywordEach [] X.env)).all (λx=>x.1.isSome)
   && decide ((e::es).length+([]:List Keyword).length+(if ([]:List Keyword).isEmpty then 0 else 1)<30))=true:=by rfl)
  (hline:(apos.endLine==cpos.line)=true:=by rfl) (hs:starEach (e::es) X.env=(false,eval e X.env)::starEach es X.env:=by rfl) (hplain:(backTo cpos (starEach es X.env)).any (·.1)=false:=by rfl) :
  PE X (.Call (.Attribute o name apos) (e::es) [] cpos) (tBM X.K T r to t):=by
 intro pins s σ H Q I h
 refine wpAny_Call_method_late hbase hfew hline rfl (thn (ho pins s σ H _ I h) λv s1 ⟨x,H1,I1,r1,ty,q1⟩=>?_)
 obtain⟨h1,h2⟩:=q2s I1 r1 ty
 refine⟨T,id,pa,slot,hty,h1,h2,?_⟩
 have hA:=ha cpos pins s1 σ H1 _ I1 q1
 rw[hs] at hA ⊢
 refine Calls.callWith_builtin (by show (false||(backTo cpos (starEach es X.env)).any (·.1))=false;rw[hplain]<;>rfl) (Calls.evalArgs_plain ?_)
 exact thn hA λus s2 ⟨vs,H2,I2,r2,q2⟩=>hm pins s2 σ H2 x vs v us Q I2 r1 r2 q2
end
end L2
namespace L2
open PySem PySem.Spec PyProof.Rows
def MtM(X:Cx)(id:String)(r:V->List V->Hp->VK->Prop):Prop :=
 ∀(pins:List (Addr×Obj)) (s:Shared) (σ:St) (H:Hp) (x:V) (xs:List V) (v:Value) (us:List Value) (Q:VK),Inv X pins σ H s->RelV x v->Vals xs us->r x xs H Q ->
  wpAny (model X.prog X.w) X.A (call (.builtin id) (v::us)) (EP X pins σ Q) X.xe s
theorem Vals.one:∀ {x:V} {us:List Value},Vals [x] us->∃u,us=[u]/\RelV x u
|_,_,.cons r .nil=>⟨_,rfl,r⟩
theorem Vals.eraseIdx:∀ {xs:List V} {us:List Value} (i:Nat),Vals xs us->Vals (xs.eraseIdx i) (us.eraseIdx i)
|_,_,_,.nil=>.nil
|_,_,0,.cons _ t=>t
|_,_,i+1,.cons r t=>.cons r (Vals.eraseIdx i t)
theorem Vals.rep{xs:List V}{us:List Value}(h:Vals xs us):∀k:Nat,Vals (List.replicate k xs).flatten (List.replicate k us).flatten
|0=>.nil
|k+1=>by
  rw[List.replicate_succ,List.replicate_succ,List.flatten_cons,List.flatten_cons]
  exact Vals.append h (Vals.rep h k)
theorem qjv{α:Type}:∀(l:List α) (i:Nat),(l.eraseIdx i).length<=l.length
|[],_=>Nat.le_refl _
|_::_,0=>Nat.le_succ _
|_::r,i+1=>Nat.succ_le_succ (qjv r i)
theorem foldl_rep(its:List Value):∀(k:Nat) (acc:List Value),
  List.foldl (λx1 x2=>x1++x2) acc.toArray (List.replicate k its.toArray)=(acc++(List.replicate k its).flatten).toArray
|0,acc=>by simp
|k+1,acc=>by
  have e:acc.toArray++its.toArray=(acc++its).toArray:=by simp
  have e2:(acc++its)++(List.replicate k its).flatten=acc++(List.replicate (k+1) its).flatten:=by
   rw[List.replicate_succ,List.flatten_cons,List.append_assoc]
  rw[←e2,←foldl_rep its k (acc++its),←e,List.replicate_succ,List.foldl_cons]
section
variable {X:Cx} {pins:List (Addr×Obj)} {σ:St} {H:Hp} {s:Shared} {l b:Addr} {xs ys zs:List V}
theorem Inv.lset{its its':List Value}{n:Nat}{f:Array Value->Array Value}{t':Nat}(I:Inv X pins σ H s)(hH:H l=some (.lst xs))
  (e:s.heap.get? l=some { cls:=.type "list",data:=.seq its.toArray n }) (hf:f its.toArray=its'.toArray) (hv:Vals ys its') (hz:ys.length<=sizeLine) :
  Inv X pins σ (upd H l (.lst ys)) { s with heap:=s.heap.update l (Obj.mapSeq f),toks:=t' }:=by
 have q:=PySem.IsL.update e f
 rw[hf] at q
 refine I.write (x:=l) (e:=l) (by rw[hH];exact trivial) (.inl rfl) (λb' u hb hu=>(Heap.get?_update_other s.heap (Obj.mapSeq f) (Ne.symm hb)).trans hu) ⟨_,q⟩ ?_
 exact⟨hz,its',_,hv,q⟩
theorem Inv.lnew{its:List Value}{t':Nat}(I:Inv X pins σ H s)(hv:Vals ys its)(hz:ys.length<=sizeLine) :
  Inv X pins σ (upd H s.heap.objs.size (.lst ys)) { s with heap:=s.heap.push { cls:=.type "list",data:=.seq its.toArray },toks:=t' } :=
 I.laid (λ_ _ q=>Heap.get?_push_of_some _ q) (Nat.le_refl _) ⟨hz,its,0,hv,Heap.get?_push_size _ rfl⟩
theorem Inv.fresh(I:Inv X pins σ H s):H s.heap.objs.size=none:=I.hok.fresh (Nat.le_refl _)
theorem Inv.lstM(I:Inv X pins σ H s)(hH:H l=some (.lst xs)):xs.length<=sizeLine/\∃(its:List Value) (n:Nat),Vals xs its/\xs.length=its.length/\s.heap.get? l=some { cls:=.type "list",data:=.seq its.toArray n }:=by
 obtain⟨z,its,n,r,e⟩:=I.hok l _ hH
 exact⟨z,its,n,r,r.length,e⟩
theorem qtk{n:Nat}(h:n<=sizeLine):Builtin.List.listTooLong n=false:=by
 unfold Builtin.List.listTooLong
 exact decide_eq_false (by lia)
end
section
variable {X:Cx}
def qyt:V->List V->Hp->VK->Prop:=λx vs H Q=>∃l xs y,x=.ref l/\vs=[y]/\H l=some (.lst xs)/\xs.length<sizeLine/\Q .non (upd H l (.lst (xs++[y])))
theorem qjz:MtM X "list.append" qyt:=by
 intro pins s σ H x vs v us Q I rx rv h
 obtain⟨l,xs,y,rfl,rfl,hH,hz,q⟩:=h
 cases rx
 obtain⟨u,rfl,ru⟩:=rv.one
 obtain⟨z,its,n,r,hl,e⟩:=I.lstM hH
 refine call_meets F.slot_list_append ⟨_,e,rfl⟩ F.entry_list_append (F.args_list_append_2 _ _) (PySem.list_append l its.toArray n u (by rw[List.size_toArray];lia)) ⟨e,?_⟩
 refine⟨.non,_,I.lset (its':=its++[u]) hH e (by simp) (r.append (.cons ru .nil)) ?_,rfl,q⟩
 rw[List.length_append,List.length_singleton]
 lia
def q18:V->List V->Hp->VK->Prop:=λx vs H Q=>∃l xs i k y,x=.ref l/\vs=[.int i]/\H l=some (.lst xs)/\-(2 ^ 63)<=i/\i<2 ^ 63/\seqIndex? i xs.length=some k/\xs[k]?=some y/\Q y (upd H l (.lst (xs.eraseIdx k)))
theorem qtg:MtM X "list.pop" q18:=by
 intro pins s σ H x vs v us Q I rx rv h
 obtain⟨l,xs,i,k,y,rfl,rfl,hH,h1,h2,hk,hy,q⟩:=h
 cases rx
 obtain⟨u,rfl,ru⟩:=rv.one
 obtain⟨t,rfl⟩:=ru
 obtain⟨z,its,n,r,hl,e⟩:=I.lstM hH
 obtain⟨w,hw,rw'⟩:=r.get hy
 refine call_meets F.slot_list_pop ⟨_,e,rfl⟩ F.entry_list_pop (F.args_list_pop_2 _ _)
  (MeetsSeq.list_pop_at l its.toArray n i t k w (fitsIndex_both h1 h2) (by rw[List.size_toArray,←hl];exact hk) (by rw[←Array.getElem?_toList];exact hw) (by rw[List.size_toArray];lia)) ⟨e,?_⟩
 refine⟨y,_,I.lset (its':=its.eraseIdx k) hH e ?_ (r.eraseIdx k) ?_,rw',q⟩
 ·show its.toArray.eraseIdxIfInBounds k=(its.eraseIdx k).toArray
  rw[List.eraseIdxIfInBounds_toArray]
 ·have:=qjv xs k
  lia
def rCat:R2:=λx y H Q=>∃l b xs zs,x=.ref l/\y=.ref b/\H l=some (.lst xs)/\H b=some (.lst zs)/\xs.length+zs.length<=sizeLine/\∀p,H p=none->Q (.ref p) (upd H p (.lst (xs++zs)))
theorem q0v:OpR X (binaryOp .Add) rCat:=by
 intro pins s σ H x y v u Q I rx ry h
 obtain⟨l,b,xs,zs,rfl,rfl,hH,hB,hz,q⟩:=h
 cases rx
 cases ry
 obtain⟨z,its,n,r,hl,e⟩:=I.lstM hH
 obtain⟨z2,its2,n2,r2,hl2,e2⟩:=I.lstM hB
 refine PySem.P.add_list e e2 ?_ (by rw[List.size_toArray,List.size_toArray];lia)
 have ea:its.toArray++its2.toArray=(its++its2).toArray:=by simp
 rw[ea]
 exact⟨.ref _,_,I.lnew (t':=s.toks) (r.append r2) (by rw[List.length_append];lia),rfl,q _ I.fresh⟩
def rRep:R2:=λx y H Q=>∃l k xs,x=.ref l/\y=.int k/\H l=some (.lst xs)/\-(2 ^ 63)<=k/\k<2 ^ 63/\xs.length*k.toNat<=sizeLine /\
 ∀p,H p=none->Q (.ref p) (upd H p (.lst (List.replicate k.toNat xs).flatten))
theorem len_rep{α:Type}(xs:List α)(k:Nat):(List.replicate k xs).flatten.length=k*xs.length:=by
 induction k with
|zero=>simp
|succ k ih=>rw[List.replicate_succ,List.flatten_cons,List.length_append,ih,Nat.succ_mul,Nat.add_comm]
theorem q01:OpR X (binaryOp .Mult) rRep:=by
 intro pins s σ H x y v u Q I rx ry h
 obtain⟨l,k,xs,rfl,rfl,hH,h1,h2,hz,q⟩:=h
 cases rx
 obtain⟨t,rfl⟩:=ry
 obtain⟨z,its,n,r,hl,e⟩:=I.lstM hH
 have hlen:its.toArray.size*k.toNat<=sizeLine:=by rw[List.size_toArray,←hl];exact hz
 have hcap:¬ its.toArray.size*k.toNat>(2 ^ 63-1) / 8:=by
  have:(sizeLine:Nat)<=(2 ^ 63-1) / 8:=by decide
  lia
 have hfit:¬ (!Builtin.List.listFitsIndex k)=true:=by
  rw[fitsIndex_both h1 h2]
  exact Bool.false_ne_true
 have hlong:¬ Builtin.List.listTooLong (its.toArray.size*k.toNat)=true:=by
  rw[qtk hlen]
  exact Bool.false_ne_true
 have hnew:List.foldl (λx1 x2=>x1++x2) #[] (List.replicate (if its.toArray.isEmpty=true then 0 else k.toNat) its.toArray)=(List.replicate k.toNat its).flatten.toArray:=by
  have f0:∀m:Nat,List.foldl (λx1 x2=>x1++x2) #[] (List.replicate m its.toArray)=(List.replicate m its).flatten.toArray:=λm=>by
   have:=foldl_rep its m []
   rw[List.nil_append] at this
   exact this
  rw[f0]
  cases its with
 |nil=>simp
 |cons a r'=>rw[if_neg (by simp)]
 refine wpAny_binaryOp_repeat_ref (T:="list") (U:="int") (by decide) ⟨_,e,rfl⟩ (λs'=>typeIs_int s' k t) noFill_list_mul F.fills_int_mul F.slot_int_rmul repeat_list F.slot_int_index.lookup
  (call_meets F.slot_int_rmul (typeIs_int s k t) F.entry_int_rmul (F.args_int_rmul_2 _ _) (int___rmul___int_list k t l its.toArray n)
   ⟨e,rfl,⟨_,e,rfl⟩,call_meets F.slot_list_mul ⟨_,e,rfl⟩ F.entry_list_mul (F.args_list_mul_2 _ _) (AutoListH.list___mul___list_int_3 l its.toArray n k t hfit hcap hlong) ⟨e,?_⟩⟩)
 rw[hnew]
 exact⟨.ref _,_,I.lnew (t':=s.toks) (r.rep k.toNat) (by rw[len_rep,Nat.mul_comm];exact hz),rfl,q _ I.fresh⟩
end
section
variable {prog:Program} {w:World} {A:Around} {E:Value->Shared->Prop} {s:Shared}
end
section
variable {X:Cx}
end
end L2
namespace L2
open PySem PySem.Spec PyProof.Rows
section
variable {κ:Type} [DecidableEq κ]
def valV(kvs:List (κ×V))(k:κ):Option V:=(kvs.find? λkv=>decide (kv.1=k)).map (·.2)
def putK(kvs:List (κ×V))(k:κ)(v:V):List (κ×V) :=
 if (kvs.any λkv=>decide (kv.1=k))=true then kvs.map (λkv=>if kv.1=k then (kv.1,v) else kv) else kvs++[(k,v)]
theorem qe1{p:κ×V}{r:List (κ×V)}{k:κ}(e:p.1=k):valV (p::r) k=some p.2:=by simp[valV,List.find?_cons,e]
theorem qe0{p:κ×V}{r:List (κ×V)}{k:κ}(e:¬ p.1=k):valV (p::r) k=valV r k:=by simp[valV,List.find?_cons,e]
theorem qnp(k:κ):∀kvs:List (κ×V),(kvs.any λkv=>decide (kv.1=k))=(valV kvs k).isSome
|[]=>rfl
|p::r=>by
  rw[List.any_cons]
  by_cases e:p.1=k
  ·simp only[qe1 e,decide_eq_true e,Bool.true_or,Option.isSome_some]
  ·rw[qe0 e,decide_eq_false e,Bool.false_or];exact qnp k r
theorem qej(kvs:List (κ×V))(k:κ)(v:V):(putK kvs k v).length<=kvs.length+1:=by
 unfold putK
 split
 ·rw[List.length_map];lia
 ·rw[List.length_append,List.length_cons,List.length_nil];lia
theorem RelO.isSome_eq{o:Option V}{u:Option Value}(r:RelO o u):o.isSome=u.isSome:=by
 cases o with
|none=>cases u with
 |none=>rfl
 |some _=>exact(show False from r).elim
|some _=>cases u with
 |none=>exact(show False from r).elim
 |some _=>rfl
theorem KV.val{kvs:List (κ×V)}{vs:List (κ×Value)}(r:KV kvs vs)(k:κ):RelO (valV kvs k) (valueAt vs k):=by
 unfold KV at r
 induction r with
|nil=>exact True.intro
|@cons p q ps qs h t ih =>
  obtain⟨h1,h2⟩:=h
  by_cases e:p.1=k
  ·have e':q.1=k:=h1.symm.trans e
   have b:valueAt (q::qs) k=some q.2:=by simp[valueAt,List.find?_cons,e']
   rw[qe1 e,b];exact h2
  ·have e':¬ q.1=k:=λz=>e (h1.trans z)
   have b:valueAt (q::qs) k=valueAt qs k:=by simp[valueAt,List.find?_cons,e']
   rw[qe0 e,b];exact ih
theorem KV.any{kvs:List (κ×V)}{vs:List (κ×Value)}(r:KV kvs vs)(k:κ):(kvs.any λkv=>decide (kv.1=k))=vs.any λkv=>decide (kv.1=k):=by
 unfold KV at r
 induction r with
|nil=>rfl
|cons h t ih=>rw[List.any_cons,List.any_cons,ih,h.1]
theorem KV.repl{kvs:List (κ×V)}{vs:List (κ×Value)}(r:KV kvs vs)(k:κ){y:V}{u:Value}(ry:RelV y u) :
  KV (kvs.map λkv=>if kv.1=k then (kv.1,y) else kv) (vs.map λkv=>if kv.1=k then (kv.1,u) else kv):=by
 unfold KV at r ⊢
 induction r with
|nil=>exact .nil
|@cons p q ps qs h t ih =>
  rw[List.map_cons,List.map_cons]
  refine .cons ?_ ih
  obtain⟨h1,h2⟩:=h
  by_cases e:p.1=k
  ·rw[if_pos e,if_pos (h1.symm.trans e)];exact⟨h1,ry⟩
  ·rw[if_neg e,if_neg (λz=>e (h1.trans z))];exact⟨h1,h2⟩
theorem KV.put{kvs:List (κ×V)}{vs:List (κ×Value)}(r:KV kvs vs)(k:κ){y:V}{u:Value}(ry:RelV y u):KV (putK kvs k y) (stored vs k u):=by
 unfold putK stored
 rw[r.any k]
 by_cases e:(vs.any λkv=>decide (kv.1=k))=true
 ·rw[if_pos e,if_pos e];exact r.repl k ry
 ·rw[if_neg e,if_neg e];exact Paired.snoc r ⟨rfl,ry⟩
theorem KV.length{kvs:List (κ×V)}{vs:List (κ×Value)}(r:KV kvs vs):kvs.length=vs.length:=Paired.length r
end
theorem qs7{P:Program}{w:World}{k:Key}{u:Value}(r:RelV (kV k) u):(qbs P w).is k u=true:=by
 cases k with
|inl i=>obtain⟨t,e⟩:=(show ∃t,u=Value.int i t from r);subst e;exact qlw P w i t
|inr x=>obtain⟨t,e⟩:=(show ∃t,u=Value.str x t from r);subst e;exact qlx P w x t
theorem qjr{P:Program}{w:World}:∀ {ks:List Key} {us:List Value},Vals (ks.map kV) us->ItemsAre (qbs P w) ks us
|[],_,r=>by rw[List.map_nil] at r;cases r;exact .nil
|k::ks,_,r=>by
  rw[List.map_cons] at r
  cases r with
 |cons h t=>exact .cons (qs7 h) (qjr t)
abbrev KT(H:Hp):List (List Key×V)->List (List Key×Addr×Value)->Prop:=Paired λp q=>p.1=q.1/\H q.2.1=some (.tup (p.1.map kV))/\RelV p.2 q.2.2
theorem KT.val{H:Hp}{kvs:List (List Key×V)}{xs:List (List Key×Addr×Value)}(r:KT H kvs xs)(k:List Key):RelO (valV kvs k) ((atKey xs k).map (·.2)):=by
 induction r with
|nil=>exact True.intro
|@cons p q ps qs h t ih =>
  obtain⟨h1,_,h2⟩:=h
  by_cases e:p.1=k
  ·have e':q.1=k:=h1.symm.trans e
   have b:atKey (q::qs) k=some q.2:=by simp[atKey,List.find?_cons,e']
   rw[qe1 e,b];exact h2
  ·have e':¬ q.1=k:=λz=>e (h1.trans z)
   have b:atKey (q::qs) k=atKey qs k:=by simp[atKey,List.find?_cons,e']
   rw[qe0 e,b];exact ih
theorem KT.repl{H:Hp}{kvs:List (List Key×V)}{xs:List (List Key×Addr×Value)}(r:KT H kvs xs)(k:List Key){y:V}{u:Value}(ry:RelV y u) :
  KT H (kvs.map λkv=>if kv.1=k then (kv.1,y) else kv) (xs.map (putAt k u)):=by
 induction r with
|nil=>exact .nil
|@cons p q ps qs h t ih =>
  rw[List.map_cons,List.map_cons]
  refine .cons ?_ ih
  obtain⟨h1,h2,h3⟩:=h
  unfold putAt
  by_cases e:p.1=k
  ·rw[if_pos e,if_pos (h1.symm.trans e)];exact⟨h1,h2,ry⟩
  ·rw[if_neg e,if_neg (λz=>e (h1.trans z))];exact⟨h1,h2,h3⟩
theorem KT.put{H:Hp}{kvs:List (List Key×V)}{xs:List (List Key×Addr×Value)}(r:KT H kvs xs)(k:List Key){b:Addr}{y:V}{u:Value}(hb:H b=some (.tup (k.map kV)))(ry:RelV y u) :
  KT H (putK kvs k y) (storedH xs k b u):=by
 have e:(kvs.any λkv=>decide (kv.1=k))=(atKey xs k).isSome:=by
  rw[qnp,(r.val k).isSome_eq,Option.isSome_map]
 unfold putK storedH
 rw[e]
 by_cases q:(atKey xs k).isSome=true
 ·rw[if_pos q,if_pos q];exact r.repl k ry
 ·rw[if_neg q,if_neg q];exact Paired.snoc r ⟨rfl,hb,ry⟩
theorem KT.keeps{H H':Hp}{kvs:List (List Key×V)}{xs:List (List Key×Addr×Value)}(r:KT H kvs xs)(ht:∀b ys,H b=some (.tup ys)->H' b=some (.tup ys)):KT H' kvs xs :=
 Paired.mapP r λ_ _ z=>⟨z.1,ht _ _ z.2.1,z.2.2⟩
section
variable {P:Program} {w:World} {H:Hp} {h:Heap} {a:Addr}
theorem q19{u:HO}(ok:HOk P w H h)(e:Rd H a u):ObjOk P w H h a u:=e.ok ok
theorem qp1{kvs:List (Key×V)}(ok:HOk P w H h)(e:Rd H a (.dK kvs)):kvs.length<=sizeLine/\(a==sysModules)=false/\∃vs,KV kvs vs/\h.DictOf (qbs P w) a vs :=
 show ObjOk P w H h a (.dK kvs) from q19 ok e
theorem q29{kvs:List (Key×V)}(ok:HOk P w H h)(e:H a=some (.dK kvs)):kvs.length<=sizeLine/\(a==sysModules)=false/\∃vs,KV kvs vs/\h.DictOf (qbs P w) a vs:=qp1 ok (.inl e)
theorem qhm{ks:List Key}(ok:HOk P w H h)(e:H a=some (.tup (ks.map kV))):(tupleKind (qbs P w)).is h ks a:=by
 obtain⟨_,its,r,o,h1,h2,n,h3⟩:=(show ObjOk P w H h a (.tup (ks.map kV)) from ok a _ e)
 exact⟨o,its.toArray,n,h1,h2,h3,by simpa using qjr r⟩
theorem qn3{kvs:List (List Key×V)}(ok:HOk P w H h)(e:Rd H a (.dT kvs)):kvs.length<=sizeLine/\(a==sysModules)=false /\
  ∃xs,KT H kvs xs/\h.DictOfH (tupleKind (qbs P w)) a xs:=by
 obtain⟨z,y,xs,r,o,es,ep,h1,h2,h3,h4,h5⟩:=(show ObjOk P w H h a (.dT kvs) from q19 ok e)
 refine⟨z,y,xs,r,o,es,ep,h1,h2,h3,h4,λx hx=>?_,h5⟩
 have all:∀ {l:List (List Key×V)} {m:List (List Key×Addr×Value)},KT H l m->∀x∈m,(tupleKind (qbs P w)).is h x.1 x.2.1:=by
  intro l m q
  induction q with
 |nil=>intro x hx;exact nomatch hx
 |@cons p q ps qs hq t ih =>
   intro x hx
   rcases List.mem_cons.mp hx with e|hx
   ·subst e
    exact qhm ok (by rw[←hq.1];exact hq.2.1)
   ·exact ih x hx
 exact all r x hx
theorem qwr{kvs:List (List Key×V)}(ok:HOk P w H h)(e:H a=some (.dT kvs)):kvs.length<=sizeLine/\(a==sysModules)=false /\
  ∃xs,KT H kvs xs/\h.DictOfH (tupleKind (qbs P w)) a xs:=qn3 ok (.inl e)
end
def DGet(H:Hp)(a:Addr)(y:V)(r:Option V):Prop :=
 (∃kvs k,Rd H a (.dK kvs)/\y=kV k/\r=valV kvs k)\/∃kvs k b,Rd H a (.dT kvs)/\y=.ref b/\H b=some (.tup (k.map kV))/\r=valV kvs k
def DPut(H:Hp)(a:Addr)(y v:V)(H':Hp):Prop :=
 (∃kvs k,H a=some (.dK kvs)/\y=kV k/\kvs.length<sizeLine/\H'=upd H a (.dK (putK kvs k v))) \/
 ∃kvs k b,H a=some (.dT kvs)/\y=.ref b/\H b=some (.tup (k.map kV))/\kvs.length<sizeLine/\H'=upd H a (.dT (putK kvs k v))
theorem DGet.k{H:Hp}{a:Addr}{kvs:List (Key×V)}{k:Key}(e:H a=some (.dK kvs)):DGet H a (kV k) (valV kvs k):=.inl ⟨kvs,k,.inl e,rfl,rfl⟩
theorem DPut.t{H:Hp}{a b:Addr}{kvs:List (List Key×V)}{k:List Key}{v:V}(e:H a=some (.dT kvs))(eb:H b=some (.tup (k.map kV)))(hl:kvs.length<sizeLine) :
  DPut H a (.ref b) v (upd H a (.dT (putK kvs k v))):=.inr ⟨kvs,k,b,e,rfl,eb,hl,rfl⟩
section
variable {X:Cx} {pins:List (Addr×Obj)} {σ:St} {H:Hp} {s:Shared} {a:Addr} {y v:V} {u r:Value} {o:Option V} {A:Around} {E:Value->Shared->Prop}
theorem Inv.big(I:Inv X pins σ H s):sysModules<s.heap.objs.size:=by
 have h:mainGlobals<s.heap.objs.size:=(I.mod.glob.keeps I.bk).lt
 exact Nat.lt_trans (by decide) h
theorem qpx{Q:Value->Shared->Prop}(hu:A.units+1<cLine)(I:Inv X pins σ H s)(g:DGet H a y (some v))(ry:RelV y u)(h:∀w' s',Inv X pins σ H s'->RelV v w'->Q w' s') :
  wpAny (model X.prog X.w) A (getItem (.ref a) u) Q E s:=by
 rcases g with ⟨kvs,k,e,ey,l⟩|⟨kvs,k,b,e,ey,eb,l⟩
 ·subst ey
  obtain⟨z,hd,vs,rel,dd⟩:=qp1 I.hok e
  obtain⟨w',hw,rw'⟩:=RelO.some_of (v:=v) (o:=valueAt vs k) (by rw[l];exact rel.val k)
  exact wpAny_getItem_of (qs7 ry) dd.mapOf hw (h w' _ (I.tok _) rw')
 ·subst ey
  cases (show u=Value.ref b from ry)
  obtain⟨z,hd,xs,rel,dd⟩:=qn3 I.hok e
  obtain⟨w',hw,rw'⟩:=RelO.some_of (v:=v) (o:=(atKey xs k).map (·.2)) (by rw[l];exact rel.val k)
  obtain⟨p,hp,hp2⟩:=Option.map_eq_some_iff.mp hw
  refine wpAny_getItem_heap (tupleKind_room_in1 hu) (qhm I.hok eb) dd hp ?_
  rw[hp2]
  exact h w' _ (I.tok _) rw'
theorem qwl{Q:Value->Shared->Prop}(hu:A.units+1<cLine)(I:Inv X pins σ H s)(g:DGet H a y o)(ry:RelV y u)(h:∀s',Inv X pins σ H s'->Q (.bool (!o.isSome)) s') :
  wpAny (model X.prog X.w) A (compareOp .NotIn u (.ref a)) Q E s:=by
 rcases g with ⟨kvs,k,e,ey,l⟩|⟨kvs,k,b,e,ey,eb,l⟩
 ·subst ey
  obtain⟨z,hd,vs,rel,dd⟩:=qp1 I.hok e
  refine wpAny_notIn_of (qs7 ry) hd dd.mapOf ?_
  rw[←(rel.val k).isSome_eq,←l]
  exact h _ (I.tok _)
 ·subst ey
  cases (show u=Value.ref b from ry)
  obtain⟨z,hd,xs,rel,dd⟩:=qn3 I.hok e
  refine wpAny_notIn_heap (tupleKind_room_in1 hu) (qhm I.hok eb) hd dd ?_
  have q:=(rel.val k).isSome_eq
  rw[Option.isSome_map] at q
  rw[←q,←l]
  exact h _ (I.tok _)
theorem qh6{h':Heap}{t':Nat}{ob:HO}(I:Inv X pins σ H s)(mu:Mut (H a))(hs:Heap.SameBut a s.heap h')(he:∃q,h'.get? a=some q)(new:ObjOk X.prog X.w (upd H a ob) h' a ob) :
  Inv X pins σ (upd H a ob) { s with heap:=h',toks:=t' } :=
 I.write (x:=a) (e:=a) mu (.inl rfl) (λb q hb z=>(hs.2 b hb).trans z) he new
theorem qz6{P:Program}{w:World}{H':Hp}{h':Heap}{kvs:List (Key×V)}{vs:List (Key×Value)}(z:kvs.length<=sizeLine)(hd:(a==sysModules)=false)(rel:KV kvs vs)(dd:h'.DictOf (qbs P w) a vs) :
  ObjOk P w H' h' a (.dK kvs):=⟨z,hd,vs,rel,dd⟩
theorem qpy{H':Hp}{Q:Unit->Shared->Prop}(hu:A.units+1<cLine)(I:Inv X pins σ H s)(g:DPut H a y v H')(ry:RelV y u)(rv:RelV v r)(h:∀s',Inv X pins σ H' s'->Q () s') :
  wpAny (model X.prog X.w) A (setItem (.ref a) u r) Q E s:=by
 rcases g with ⟨kvs,k,e,ey,l,eH⟩|⟨kvs,k,b,e,ey,eb,l,eH⟩
 ·subst ey eH
  obtain⟨z,hd,vs,rel,dd⟩:=q29 I.hok e
  have hz:vs.length<=sizeLine:=by rw[←rel.length];exact z
  have hl:(putK kvs k v).length<=sizeLine:=by have:=qej kvs k v;lia
  refine wpAny_setItem_pairs (hsz:=hz) (qs7 ry) dd λh' dd' hs=>h _ ?_
  have he:∃q,h'.get? a=some q:=let ⟨q,_,_,hq,_⟩:=dd';⟨q,hq⟩
  exact qh6 I (by rw[e];exact True.intro) hs he (qz6 hl hd (rel.put k rv) dd')
 ·subst ey eH
  cases (show u=Value.ref b from ry)
  obtain⟨z,hd,xs,rel,dd⟩:=qwr I.hok e
  have hz:xs.length<=sizeLine:=by rw[←Paired.length rel];exact z
  have hl:(putK kvs k v).length<=sizeLine:=by have:=qej kvs k v;lia
  refine wpAny_setItem_heap (hsz:=hz) (tupleKind_room_in1 hu) (qhm I.hok eb) dd λh' dd' hs=>h _ ?_
  obtain⟨q,es,ep,hq,h2,h3,h4,_,h5⟩:=dd'
  refine qh6 I (by rw[e];exact True.intro) hs ⟨q,hq⟩ ⟨hl,hd,_,(rel.put k eb rv).keeps λc ys ec=>?_,q,es,ep,hq,h2,h3,h4,h5⟩
  rw[qau (qxg ec e (λz=>nomatch z))]
  exact ec
end
section
variable {X:Cx} {pins:List (Addr×Obj)} {σ:St} {H:Hp} {s:Shared} {a:Addr} {kvs:List (Key×V)} {k:Key} {u:Value} {A:Around} {E:Value->Shared->Prop}
end
def NoSl(i:Expr):Prop:=∀ov iv,subscripted i false ov iv=operate [ov,iv] (getItem ov iv)
theorem qy5{prog:Program}{w:World}{A:Around}{E:Value->Shared->Prop}{s:Shared}{env:Env}{value slice:Expr}{pos:Pos}{T id:String}{Q:Value->Shared->Prop}
  (hl:typeLookup (.type T) "__getitem__" = pure (some (.builtin id))) (hs:NoSl slice)
  (h:wpAny (model prog w) A (eval value env) (λo s₁=>wpAny (model prog w) A (eval slice env) (λi s₂=>s₂.TypeIs o T/\wpAny (model prog w) A (getItem o i) Q E s₂) E s₁) E s) :
  wpAny (model prog w) A (eval (.Subscript value slice pos) env) Q E s:=by
 refine Subscript_ (wpAny_mono h (λo s₁ h₁=>wpAny_mono h₁ (λi s₂ h₂=>?_) λ_ _ x=>x) λ_ _ x=>x)
 obtain⟨hT,h₂⟩:=h₂
 unfold subscriptTail
 refine wpAny_bind ?_
 rw[getitemInPython_of_ne hT.not_modules]
 refine wpAny_bind (wpAny_specialOf hT hl ?_)
 have fin:wpAny (model prog w) A (subscripted slice false o i) (λr s₃=>wpAny (model prog w) A (letTemporaryGo value o r >>= λ_=>pure r) Q E s₃) E s₂:=by
  rw[hs o i]
  exact wpAny_operating (wpAny_mono h₂ (λr s₃ h₃=>wpAny_bind (wpAny_letTemporaryGo (wpAny_pure h₃))) λ_ _ x=>x)
 first
 |exact wpAny_pure (wpAny_bind fin)
 |exact wpAny_bind (wpAny_pure (wpAny_bind fin))
 |exact wpAny_bind fin
theorem qk4{X:Cx}{pins:List (Addr×Obj)}{σ:St}{H:Hp}{s:Shared}{a:Addr}{y:V}{o:Option V}(I:Inv X pins σ H s)(g:DGet H a y o):s.TypeIs (.ref a) "dict" := by
 rcases g with ⟨kvs,k,e,_,_⟩|⟨kvs,k,b,e,_,_,_⟩
 ·obtain⟨_,_,vs,_,dd⟩:=qp1 I.hok e
  exact dd.typeIs
 ·obtain⟨_,_,xs,_,dd⟩:=qn3 I.hok e
  exact dd.typeIs
def q2m(td ty:TE):TE:=λσ H Q=>td σ H λx H1=>ty σ H1 λy H2=>∃a v,x=.ref a/\DGet H2 a y (some v)/\Q v H2
def qrq(ty td:TE):TE:=λσ H Q=>ty σ H λy H1=>td σ H1 λx H2=>∃a o,x=.ref a/\DGet H2 a y o/\Q (.bl (!o.isSome)) H2
def q2h(td ty tv:TE):TS:=λD σ H=>tv σ H λv H1=>td σ H1 λx H2=>ty σ H2 λy H3=>∃a H4,x=.ref a/\DPut H3 a y v H4/\D.nx σ H4
section
variable {X:Cx} {o i e value:Expr} {pos pos' tpos:Pos} {td ty tv:TE}
theorem qxx(hu:X.A.units+1<cLine)(ho:PE X o td)(hi:PE X i ty)(hs:NoSl i):PE X (.Subscript o i pos) (q2m td ty):=by
 intro pins s σ H Q I h
 refine qy5 PySem.F.slot_dict_getitem.lookup hs (thn (ho pins s σ H _ I h) λu s1 ⟨x,H1,I1,rx,q1⟩=>thn (hi pins s1 σ H1 _ I1 q1) λiv s2 ⟨y,H2,I2,ry,a,v,ex,g,q2⟩=>?_)
 subst ex
 obtain rfl:u=Value.ref a:=rx
 exact⟨qk4 I2 g,qpx hu I2 g ry λw' s3 I3 rw'=>⟨v,H2,I3,rw',q2⟩⟩
theorem qq7(hu:X.A.units+1<cLine)(hi:PE X i ty)(ho:PE X o td):PC X .NotIn i o (qrq ty td):=by
 intro pins s σ H Q I h
 refine thn (hi pins s σ H _ I h) λiv s1 ⟨y,H1,I1,ry,q1⟩=>thn (ho pins s1 σ H1 _ I1 q1) λu s2 ⟨x,H2,I2,rx,a,ov,ex,g,q2⟩=>?_
 subst ex
 obtain rfl:u=Value.ref a:=rx
 exact qwl hu I2 g ry λs3 I3=>⟨.bl (!ov.isSome),H2,I3,rfl,q2⟩
theorem qx5(hu:X.A.units+1<cLine)(ho:PE X o td)(hi:PE X i ty)(hv:PE X value tv)(hs:swapsWith value (some (.Subscript o i pos')) pos.line X.env=pure false) :
  PS X (.Assign [.Subscript o i pos'] value pos) (q2h td ty tv):=by
 intro pins s σ H D I h
 refine wpAny_Assign_Subscript (thn (hv pins s σ H _ I h) λr s1 ⟨v,H1,I1,rv,q1⟩=>thn (ho pins s1 σ H1 _ I1 q1) λu s2 ⟨x,H2,I2,rx,q2⟩=>thn (hi pins s2 σ H2 _ I2 q2) λiv s3 ⟨y,H3,I3,ry,a,H4,ex,g,q3⟩=>?_) hs
 subst ex
 obtain rfl:u=Value.ref a:=rx
 exact qpy hu I3 g ry rv λs4 I4=>⟨σ,H4,I4,q3⟩
end
theorem qmy{P:Program}{w:World}{H:Hp}(h:Heap)(hb:sysModules<h.objs.size):ObjOk P w H (h.push { cls:=.type "dict",data:=.dict #[] }) h.objs.size (.dT []) :=
 ⟨Nat.zero_le _,beq_eq_false_iff_ne.mpr (Ne.symm (Nat.ne_of_lt hb)),[],.nil,_,#[],0,Heap.get?_push_size _ rfl,⟨rfl,rfl,rfl⟩,rfl,rfl,List.nodup_nil⟩
def qvx:TE:=λ_ H Q=>∀p,H p=none->Q (.ref p) (upd H p (.dT []))
section
variable {X:Cx} {pos:Pos}
theorem qtr:PE X (.Dict [] [] pos) qvx:=λpins s σ H Q I h =>
 wpAny_Dict_empty ⟨.ref s.heap.objs.size,_,I.laid (a:=s.heap.objs.size) (o:=.dT []) (t':=s.toks) (λ_ _ q=>Heap.get?_push_of_some _ q) (Nat.le_refl _) (qmy s.heap I.big),rfl,h _ (I.hok.fresh (Nat.le_refl _))⟩
end
def qvz:List (TE×TE)->St->Hp->(List (V×V)->Hp->Prop)->Prop
|[],_,H,Q=>Q [] H
|(tk,tv)::r,σ,H,Q=>tk σ H λx H1=>tv σ H1 λy H2=>qvz r σ H2 λps H3=>Q ((x,y)::ps) H3
abbrev VV:List (V×V)->List (Value×Value)->Prop:=Paired λp q=>RelV p.1 q.1/\RelV p.2 q.2
def PPs(X:Cx)(pos:Pos)(keys:List (Option Expr))(values:List Expr)(trs:List (TE×TE)):Prop :=
 ∀(pins:List (Addr×Obj)) (s:Shared) (σ:St) (H:Hp) (Q:List (V×V)->Hp->Prop),Inv X pins σ H s->qvz trs σ H Q ->
  wpAny (model X.prog X.w) X.A (evalPairs (pairTrees keys values X.env pos)) (λvs s'=>∃ps H',Inv X pins σ H' s'/\VV ps vs/\Q ps H') X.xe s
theorem qx4{X:Cx}{pos:Pos}:PPs X pos [] [] []:=λpins s σ H Q I h=>pairTrees_nil_walk ⟨[],H,I,.nil,h⟩
theorem qtw{X:Cx}{pos:Pos}{k v:Expr}{ks:List (Option Expr)}{vs:List Expr}{tk tv:TE}{trs:List (TE×TE)}(hk:PE X k tk)(hv:PE X v tv)(hr:PPs X pos ks vs trs) :
  PPs X pos (some k::ks) (v::vs) ((tk,tv)::trs):=λpins s σ H Q I h =>
 pairTrees_cons_walk (thn (hk pins s σ H _ I h) λu s1 ⟨x,H1,I1,rx,q1⟩=>thn (hv pins s1 σ H1 _ I1 q1) λw2 s2 ⟨y,H2,I2,ry,q2⟩ =>
  thn (hr pins s2 σ H2 _ I2 q2) λws s3 ⟨ps,H3,I3,rel,q3⟩=>⟨(x,y)::ps,H3,I3,.cons ⟨rx,ry⟩ rel,q3⟩)
structure M1(X:Cx)(o:Expr)(m:Str)(apos:Pos)(e:Expr)(cpos:Pos):Prop where
 base:attributeBase o m X.env (eval o X.env)=eval o X.env
 few:((backTo cpos (starEach [e] X.env)).all (λx=>!x.1)&&(backToKw cpos (keywordEach [] X.env)).all (λx=>x.1.isSome)
  && decide (([e]:List Expr).length+([]:List Keyword).length+(if ([]:List Keyword).isEmpty then 0 else 1)<30))=true
 line:(apos.endLine==cpos.line)=true
 trees:backTo cpos (starEach [e] X.env)=[(false,eval e X.env)]
structure M2(X:Cx)(o:Expr)(m:Str)(apos:Pos)(e f:Expr)(cpos:Pos):Prop where
 base:attributeBase o m X.env (eval o X.env)=eval o X.env
 few:((backTo cpos (starEach [e,f] X.env)).all (λx=>!x.1)&&(backToKw cpos (keywordEach [] X.env)).all (λx=>x.1.isSome)
  && decide (([e,f]:List Expr).length+([]:List Keyword).length+(if ([]:List Keyword).isEmpty then 0 else 1)<30))=true
 line:(apos.endLine==cpos.line)=true
 trees:backTo cpos (starEach [e,f] X.env)=[(false,eval e X.env),(false,eval f X.env)]
def IsD(H:Hp)(a:Addr):Prop:=(∃kvs,Rd H a (.dK kvs))\/∃kvs,Rd H a (.dT kvs)
theorem q0d{X:Cx}{pins:List (Addr×Obj)}{σ:St}{H:Hp}{s:Shared}{a:Addr}(I:Inv X pins σ H s)(d:IsD H a) :
  s.TypeIs (.ref a) "dict" /\ (∀b,Value.ref a=.ref b->∃ob,s.heap.get? b=some ob/\ob.dict=none)/\(a==sysModules)=false:=by
 rcases d with ⟨kvs,e⟩|⟨kvs,e⟩
 ·obtain⟨_,hd,vs,_,dd⟩:=qp1 I.hok e
  refine⟨dd.typeIs,λb q=>?_,hd⟩
  cases q
  obtain⟨ob,_,_,h1,h2,_⟩:=dd
  exact⟨ob,h1,h2.2.1⟩
 ·obtain⟨_,hd,xs,_,dd⟩:=qn3 I.hok e
  refine⟨dd.typeIs,λb q=>?_,hd⟩
  cases q
  obtain⟨ob,_,_,h1,h2,_⟩:=dd
  exact⟨ob,h1,h2.2.1⟩
section
variable {X:Cx} {pins:List (Addr×Obj)} {σ:St} {H:Hp} {s:Shared} {a:Addr} {y d:V} {u r:Value} {o:Option V} {A:Around} {E:Value->Shared->Prop}
end
section
variable {X:Cx} {o e f:Expr} {apos cpos:Pos} {td ty tx:TE}
end
section
variable {X:Cx} {pins:List (Addr×Obj)} {σ:St} {H:Hp} {s:Shared} {a:Addr} {kvs:List (Key×V)} {A:Around} {E:Value->Shared->Prop}
end
section
variable {X:Cx} {pins:List (Addr×Obj)} {σ:St} {H:Hp} {s:Shared} {a:Addr} {y:V} {u:Value} {A:Around} {E:Value->Shared->Prop}
end
end L2
namespace Att
open PySem PySem.W PySem.Calls PyProof.Rows
theorem qgg{P:Params}{h:Heap}:∀(ns:List Int) (vs:List Value),WellAll P h vs (ns.map WData.int)->IntsAre vs ns:=by
 intro ns
 induction ns with
|nil =>
  intro vs w
  rw[List.map_nil] at w
  cases w
  exact .nil
|cons n ns ih =>
  intro vs w
  rw[List.map_cons] at w
  cases w with
 |cons a b =>
   cases a
   exact .cons _ _ (ih _ b)
theorem qrn{l:OpenLaw}{n:Nat}(hn:l.most=some n){P:Params}{h:Heap}{args:List WData}{vals:List Value}
  (hpre:l.row.toRowW.claim.pre args=true) (hwl:WellAll P h vals args) :
  ∃a vs ns,vals=[Value.ref a]/\args=[WData.list (ns.map WData.int)]/\h.get? a=some { cls:=.type "list",data:=.seq vs.toArray }/\IntsAre vs ns/\ns.length<=n:=by
 have hsh:WShape.hasAll [] args [.list .int]=true:=(pre_splitW hpre).1
 have hc:l.pre.holds [] { args:=args }=true:=(pre_splitW hpre).2
 obtain⟨d,r,rfl,h1,h2⟩:=hasAllW_cons hsh
 obtain rfl:=hasAllW_nil h2
 obtain⟨xs,rfl,h3⟩:=hasW_list h1
 obtain⟨ns,rfl⟩:=items_int h3
 have hlen:ns.length<=n:=by
  unfold OpenLaw.pre at hc
  have h4:(WTm.not (.lt (.lit (.int (n:Int))) (.len (.arg 0)))).holds [] { args:=[.list (ns.map .int)] }=true:=by
   have h4:=(holds_andW hc).1
   rw[hn] at h4
   exact h4
  have h5:=condW_of h4 (w_not (w_lt w_lit (w_len_list (w_arg rfl))))
  rw[List.length_map] at h5
  refine Nat.le_of_not_lt λq=>?_
  have q':(n:Int)<((ns.length:Nat):Int):=by lia
  first
  |(rw[decide_eq_true q'] at h5;exact absurd h5 (by decide))
  |(simp at h5;lia)
 cases hwl with
|cons w1 w2 =>
  cases w2
  cases w1 with
 |list ho hall=>exact⟨_,_,ns,rfl,rfl,ho,qgg ns _ hall,hlen⟩
theorem qra(l:OpenLaw)(args:List WData):l.row.toRowW.claim.post args (.bool true) args=true :=
 postW_of (r:=l.row.toRowW) (X:=(true==true))
  (show WShape.has [] (.bool true) .bool=true by first|rfl|decide|simp[WShape.has,WShape.arms,WShape.armsAll])
  (show (WTm.eq .res (.lit (.bool true))).value [] { args:=args,res:=some (.bool true),after:=args }=some (.bool (true==true)) from w_eq_bool (w_res rfl) w_lit) rfl
theorem attach_call{l:OpenLaw}{n:Nat}{q:Program}{loose:List Str}{XP:(Str->Option Value)->Heap->Prop}{YP:World->Heap->Prop}{d:DefRec}
  (hn:l.most=some n) (hdf:d.params.defaults=[])
  (call:∀(w:World) (s₀ s₁:Shared) (mg mb:Str->Option Value) (fa:Addr) (o:Obj) (pm cd doc:Value) (a:Addr) (vs:List Value) (ns:List Int),
   Ground q loose [] XP w s₀ mg mb s₁.heap->YP w s₁.heap ->
   s₁.heap.get? fa=some o->o.data=.func (docDef d.name d.params d.body d.scope pm cd doc)->s₁.heap.CodeRec cd d.name->mg d.name=some (.ref fa) ->
   s₁.heap.get? a=some { cls:=.type "list",data:=.seq vs.toArray }->IntsAre vs ns->ns.length<=n->s₁.gens=#[] ->
   codeAny (model l.prog w) callerA (.call (.ref fa) ⟨[.ref a],[]⟩) (λr s'=>r=.ok (.ret (.bool true))/\OldK s₁.heap s'.heap/\s'.os=s₁.os/\AllBare s'.gens) s₁) :
  WalkO q loose XP YP l.row.toRowW d [] (λf vs=>PySem.call f vs):=by
 intro w s₀ s₁ mg mb G Y fa o pm cd doc dV kV ho hd hcd hD hmg hg args vals as hpre hlay hrd hwl hlo
 obtain rfl:dV=.none:=Dflts.none hD hdf
 obtain rfl:kV=.none:=Dflts.noKw hD
 obtain⟨a,vs,ns,rfl,rfl,hobj,hints,hlen⟩:=qrn hn hpre hwl
 refine enter_call (codeAny_mono (call w s₀ s₁ mg mb fa o pm cd doc a vs ns G Y ho (fd_plain hd) hcd hmg hobj hints hlen hg) λr s' hq=>?_)
 obtain⟨rfl,h2,h3,h4⟩:=hq
 exact⟨.inl ⟨.bool true,.bool true,[],rfl,λ_=>rfl,.bool true,qra l _,λ_=>⟨List.Pairwise.nil,λ_ hm=>(nomatch hm)⟩⟩,h2,h3,h4⟩
section
variable {prog:Program} {w:World} {A:Around} {E:Value->Shared->Prop} {s:Shared} {K:Frag}
end
end Att
namespace L2
open PySem PySem.Spec PyProof.Rows
theorem qkp:∀ {vs:List Value} {ns:List Int},IntsAre vs ns->Vals (ns.map V.int) vs
|_,_,.nil=>.nil
|_,_,.cons n t h=>.cons ⟨t,rfl⟩ (qkp h)
def Only(H:Hp):Prop:=∀b,H b=none\/∃o xs,H b=some (.frz o (.lst xs))
theorem qtc{P:Program}{w:World}{K:PySem.W.Frag}{mg mb:Str->Option Value}{CX:CXT}{k:Nat}{fa a:Addr}{fd:FuncData}{x:Str}{sp:Sp}{s₁:Shared}{vs:List Value}{ns:List Int}
  (KX:K.In s₁.heap) (hns:s₁.heap.Ns mainGlobals mg) (hb:s₁.heap.Ns builtinsNs mb) (hbb:∀x:Str,x≠"__name__" -> mb x=bootBuiltins x) (hlim:s₁.heap.NoLimit) (hg:s₁.gens=#[])
  (ha:s₁.heap.get? a=some { cls:=.type "list",data:=.seq vs.toArray }) (hi:IntsAre vs ns) (hl:ns.length<=sizeLine) (hr:Room k callerA)
  (F:∀base:Heap,K.In base->base.Ns mainGlobals mg->FnOk P w K mg base CX k fa fd [x] sp) (hbind:∀(s:Shared) (u:Value),BindsTo s fd ⟨[u],[]⟩ [(x,u)])
  (hsp:∀H:Hp,Only H->SqL K H a (ns.map V.int)->sp [.ref a] H (λv _=>v=.bl true) λ_ _ _=>False)
  (hCX:∀H e s',CX [] H s₁ (λ_ _ _=>False) e s'->False) :
  codeAny (model P w) callerA (.call (.ref fa) ⟨[.ref a],[]⟩) (λr s'=>r=.ok (.ret (.bool true))/\OldK s₁.heap s'.heap/\s'.os=s₁.os/\AllBare s'.gens) s₁:=by
 have rv:=qkp hi
 have lenV:=hi.length
 have core:∀H:Hp,Only H->SqL K H a (ns.map V.int)->HOk P w H s₁.heap->(∀b,H b≠none->b=a)->(H a≠none->K.lookup a=none) ->
   codeAny (model P w) callerA (.call (.ref fa) ⟨[.ref a],[]⟩) (λr s'=>r=.ok (.ret (.bool true))/\OldK s₁.heap s'.heap/\s'.os=s₁.os/\AllBare s'.gens) s₁:=by
  intro H hO hS hok hA hK
  have base_of:∀ {b:Addr} {o:Obj},s₁.heap.get? b=some o->H b=none->(hidT s₁.heap H).get? b=some o:=λe n=>qs4 e n
  have noA:∀ {b:Addr} {o:Obj} {es:Array DictEntry} {ep:Nat},s₁.heap.get? b=some o->o.data=.dict es ep->H b=none:=λ{b o es ep} e d=>by
   cases q:H b with
  |none=>rfl
  |some u =>
    have e':b=a:=hA b (by rw[q];simp)
    subst e'
    rw[ha] at e;cases e
    have d':Data.seq vs.toArray _=Data.dict es ep:=d
    cases d'
  have nsK:∀ {b:Addr} {m:Str->Option Value},s₁.heap.Ns b m->(hidT s₁.heap H).Ns b m:=λ{b m} ⟨o,es,ep,e,d,r⟩=>⟨o,es,ep,base_of e (noA e d),d,r⟩
  have hKb:K.In (hidT s₁.heap H):=λb o e=>base_of (KX b o e) (by
   cases q:H b with
  |none=>rfl
  |some u =>
    have e':b=a:=hA b (by rw[q];simp)
    subst e'
    rw[hK (by rw[q];simp)] at e;cases e)
  have hM:Mod K mg (hidT s₁.heap H):=⟨hKb,nsK hns,⟨mb,nsK hb,hbb⟩,let ⟨mc,h1,h2⟩:=hlim;⟨mc,nsK h1,h2⟩⟩
  have e0:Env0 P w K mg (hidT s₁.heap H) callerA [] s₁ H:=⟨rfl,hM,λb o e=>qxk e,Nat.le_of_eq (qqc _ _),trivial,λb hb=>absurd (show b∈([]:List Addr) from hb) (by simp),hok,.of_eq hg⟩
  refine codeAny_mono ((F _ hKb (nsK hns)).run callerA [] s₁ H ⟨[.ref a],[]⟩ [.ref a] [.ref a] _ _ hr e0 (hbind s₁ (.ref a)) (.cons rfl .nil) (hsp H hO hS)) λr s' h=>?_
  cases r with
 |error e=>exact(hCX H e s' h).elim
 |ok fl =>
   cases fl with
  |next=>exact False.elim h
  |brk=>exact False.elim h
  |cont=>exact False.elim h
  |ret u =>
    obtain⟨v,H',os,bare,un,hok',r',q⟩:=h
    have q':v=.bl true:=q
    subst q'
    obtain rfl:u=Value.bool true:=r'
    refine⟨rfl,OldK.of_keep λb o e=>?_,os,bare⟩
    cases q:H b with
   |none=>exact un.keep b o e q (by intro z;exact absurd (show b∈([]:List Addr) from z) (by simp)) (by simp)
   |some u =>
     rcases hO b with z|⟨ob,xs,z⟩
     ·rw[q] at z;cases z
     ·have z2:=un.frzs b ob _ z
      obtain⟨e1,_⟩:=hok b _ z
      obtain⟨e2,_⟩:=hok' b _ z2
      rw[e] at e1;cases e1
      exact e2
 cases hk:K.lookup a with
|some o =>
  have e:=KX a o hk
  rw[ha] at e
  cases e
  refine core (λ_=>none) (λ_=>.inl rfl) (.inr ⟨_,vs.toArray,_,hk,rfl,rfl,rfl,by rw[List.size_toArray,lenV];exact hl,by simpa using rv⟩) (λb u z=>by have z':(none:Option HO)=some u:=z;cases z') (λb z=>absurd rfl z) λz=>absurd rfl z
|none =>
  refine core (λb=>if b=a then some (.frz { cls:=.type "list",data:=.seq vs.toArray } (.lst (ns.map V.int))) else none) (λb=>?_) (.inl (.inr ⟨{ cls:=.type "list",data:=.seq vs.toArray },if_pos rfl⟩)) (λb u z=>?_) (λb z=>?_) λ_=>hk
  ·by_cases hb:b=a
   ·exact .inr ⟨_,_,if_pos hb⟩
   ·exact .inl (if_neg hb)
  ·by_cases hb:b=a
   ·have z':=(if_pos hb).symm.trans z
    cases z'
    subst hb
    exact⟨ha,by rw[List.length_map];exact hl,vs,_,rv,ha⟩
   ·have z':=(if_neg hb).symm.trans z
    cases z'
  ·by_cases hb:b=a
   ·exact hb
   ·exact absurd (if_neg hb) z
end L2
namespace L2
open PySem PySem.Spec PyProof.Rows
theorem q4c{l:PySem.W.OpenLaw}{n k:Nat}{q:Program}{loose:List Str}{XP:(Str->Option Value)->Heap->Prop}{YP:World->Heap->Prop}{d:DefRec}{K:Params->PySem.W.Frag}{CX:World->CXT}{sp:World->Sp}{x:Str}
  (hn:l.most=some n) (hn2:n<=sizeLine) (hdf:d.params.defaults=[]) (hr:Room k callerA)
  (hY:∀(w:World) (h:Heap),YP w h->(K w.params).In h)
  (F:∀(w:World) (mg:Str->Option Value) (fa:Addr) (h:Heap),(K w.params).In h->h.Ns mainGlobals mg->mg d.name=some (.ref fa) ->
   ∃fd:FuncData,(∀(s:Shared) (u:Value),BindsTo s fd ⟨[u],[]⟩ [(x,u)]) /\
    ∀base:Heap,(K w.params).In base->base.Ns mainGlobals mg->FnOk l.prog w (K w.params) mg base (CX w) k fa fd [x] (sp w))
  (hsp:∀(w:World) (H:Hp) (a:Addr) (ns:List Int),ns.length<=n->Only H->SqL (K w.params) H a (ns.map V.int)->sp w [.ref a] H (λv _=>v=.bl true) λ_ _ _=>False)
  (hCX:∀(w:World) (H:Hp) (s:Shared) (e:Value) (s':Shared),CX w [] H s (λ_ _ _=>False) e s'->False) :
  PySem.W.WalkO q loose XP YP l.row.toRowW d [] (λf vs=>PySem.call f vs):=by
 refine Att.attach_call hn hdf λw s₀ s₁ mg mb fa o pm cd doc a vs ns G Y ho hd hcd hmg hobj hints hlen hg=>?_
 have KX:=hY w _ Y
 obtain⟨fd,hb,hF⟩:=F w mg fa _ KX G.T.g hmg
 exact qtc KX G.T.g G.T.b G.T.builtins G.T.nolimit hg hobj hints (Nat.le_trans hlen hn2) hr hF hb (λH hO hS=>hsp w H a ns hlen hO hS) λH e s'=>hCX w H s₁ e s'
end L2
namespace L2
open PySem PySem.Spec PyProof.Rows
def qao(s:Stmt):Arguments:=match s with
|.FunctionDef _ a _ _ _ _ _ _ _ _=>a
|_=>{ posonlyargs:=[],args:=[],vararg:=none,kwonlyargs:=[],kw_defaults:=[],kwarg:=none,defaults:=[] }
def qal(s:Stmt):List Stmt:=match s with
|.FunctionDef _ _ b _ _ _ _ _ _ _=>b
|_=>[]
def qab(s:Stmt):Scope:=match s with
|.FunctionDef _ _ _ _ _ _ sc _ _ _=>sc
|_=>{ kind:=.function,names:=[],isGenerator:=false,isCoroutine:=false }
abbrev CX0:CXT:=λ_ _ _ _ _ _=>False
abbrev E0:XK:=λ_ _ _=>False
theorem q3k{X:Cx}:qpk CX0 X E0:=λ_ _ _ _ _ _ _ h=>h.elim
structure Fun(K:PySem.W.Frag)(x qual:Str)(st:Stmt)(f:Addr)(fd:FuncData):Prop where
 ex:∃(oc:Value) (od:Option Addr) (kV doc pm:Value) (an:Option Addr) (cdv ct:Value) (osl:Array (Option Value)),
  fd=PySem.W.fnOf x qual (qao st) (qal st) (qab st) .none kV doc pm an cdv ct/\K.lookup f=some ⟨oc,od,.func fd,osl⟩/\PySem.W.codeIn K cdv qual=true
 kp:PySem.W.keepIn K (.ref f)=true
section
variable {P:Program} {w:World} {K:PySem.W.Frag} {mg:Str->Option Value} {base:Heap}
theorem Fun.ok{x qual:Str}{st:Stmt}{f:Addr}{fd:FuncData}{N ps:List Str}{k:Nat}{sp:Sp}(F:Fun K x qual st f fd)(S:FnScope N ps (qab st))(len:∀vs H Q E,sp vs H Q E->vs.length=ps.length)
  (hbody:∀(cdv:Value) (A:Around) (outer:List Env) (s:Shared) (H:Hp) (vs:List V) (Q:VK) (E:XK),Room k (A.deeper (envOfC qual (qab st) s.heap.objs.size f cdv))->sp vs H Q E ->
   ∃t,PSs (cxOf CX0 P w K mg base N qual (qab st) f cdv A outer s H E).nox (qal st) t/\t { nx:=λ_ H'=>Q .non H',rt:=Q } (start N vs) H):FnOk P w K mg base CX0 (k+1) f fd ps sp:=by
 obtain⟨oc,od,kV,doc,pm,an,cdv,ct,osl,rfl,lk,hcd⟩:=F.ex
 refine qz9 lk hcd S len λA outer s H vs Q E hr hsp=>?_
 obtain⟨t,h,q⟩:=hbody cdv A outer s H vs Q E hr hsp
 exact⟨t,h.nox,q⟩
theorem Fun.binds{x qual:Str}{st:Stmt}{f:Addr}{fd:FuncData}{ps:List Str}(F:Fun K x qual st f fd)
  (h:∀(kV doc pm:Value) (an:Option Addr) (cdv ct:Value) (us:List Value),us.length=ps.length->bindArgs (PySem.W.fnOf x qual (qao st) (qal st) (qab st) .none kV doc pm an cdv ct) ⟨us,[]⟩=pure (ps.zip us)):Binds K fd ps []:=by
 obtain⟨oc,od,kV,doc,pm,an,cdv,ct,osl,rfl,lk,hcd⟩:=F.ex
 exact .all (h kV doc pm an cdv ct)
theorem qbq{x qual:Str}{st:Stmt}{f:Addr}{oc:Value}{od an:Option Addr}{osl:Array (Option Value)}{kV doc pm cdv ct:Value}(l:K.lookup f=some ⟨oc,od,.func (PySem.W.fnOf x qual (qao st) (qal st) (qab st) .none kV doc pm an cdv ct),osl⟩)
  (c:PySem.W.codeIn K cdv qual=true) (k:PySem.W.keepIn K (.ref f)=true):Fun K x qual st f (PySem.W.fnOf x qual (qao st) (qal st) (qab st) .none kV doc pm an cdv ct):=⟨⟨oc,od,kV,doc,pm,an,cdv,ct,osl,rfl,l,c⟩,k⟩
end
section
variable {X:Cx}
end
theorem iteF{A B:Prop}(h:B):if false=true then A else B:=by
 rw[if_neg Bool.false_ne_true]
 exact h
theorem iteT{A B:Prop}(h:A):if true=true then A else B:=by
 rw[if_pos rfl]
 exact h
def Same(H H':Hp):Prop:=∀b o,H b=some o->H' b=some o
theorem Same.refl(H:Hp):Same H H:=λ_ _ h=>h
theorem Same.trans{H H1 H2:Hp}(a:Same H H1)(b:Same H1 H2):Same H H2:=λc o h=>b c o (a c o h)
theorem Same.free{H H':Hp}(e:Same H H'){l:Addr}(h:H' l=Option.none):H l=Option.none:=by
 cases q:H l with
|none=>rfl
|some o =>
  rw[e l o q] at h
  cases h
theorem Same.seq{K:PySem.W.Frag}{H H':Hp}{a:Addr}{xs:List V}(e:Same H H')(h:SqL K H a xs):SqL K H' a xs:=by
 rcases h with (h|⟨o,h⟩)|h
 ·exact .inl (.inl (e _ _ h))
 ·exact .inl (.inr ⟨o,e _ _ h⟩)
 ·exact .inr h
end L2
namespace L2
open PySem PySem.Spec PyProof.Rows
theorem qan:1000<=sizeLine:=by decide
theorem qak{H:Hp}{l:Addr}(h:H l=none)(o:HO):Same H (upd H l o):=λb u e=>by
 rw[qau (qa2 e h)]
 exact e
theorem Same.put{H H':Hp}{p:Addr}{o:HO}(e:Same H H')(h:H p=none):Same H (upd H' p o):=λb u q=>by
 rw[qau (qa2 q h)]
 exact e b u q
theorem qhd{α:Type}{xs:List α}{k:Int}(h0:0<=k)(h1:k<(xs.length:Int)):∃v,atI xs k=some v/\xs[k.toNat]?=some v:=by
 have hk:k.toNat<xs.length:=by lia
 have e:xs[k.toNat]?=some xs[k.toNat]:=List.getElem?_eq_getElem hk
 refine⟨xs[k.toNat],?_,e⟩
 have:=qwf e
 rw[Int.toNat_of_nonneg h0] at this
 exact this
theorem qzv{α β:Type}{f:α->β}{xs:List α}{k:Int}{v:α}(h:atI xs k=some v):atI (xs.map f) k=some (f v):=by
 unfold atI at h ⊢
 rw[List.length_map]
 cases e:ixN xs.length k with
|none =>
  rw[e] at h
  cases h
|some j =>
  rw[e] at h
  have h':xs[j]?=some v:=h
  show (xs.map f)[j]?=some (f v)
  rw[List.getElem?_map,h']
  rfl
def cutL{α:Type}(xs:List α)(lo hi:Option Int):List α:=(xs.drop (HT.sIx xs.length 0 lo)).take (HT.sIx xs.length xs.length hi-HT.sIx xs.length 0 lo)
theorem qs0{α:Type}(f:α->V)(xs:List α)(lo hi:Option Int):cutV (xs.map f) lo hi=(cutL xs lo hi).map f:=by
 unfold cutV cutL
 rw[List.length_map,List.map_take,List.map_drop]
theorem qes{α:Type}(xs:List α):cutL xs none (some (-1))=xs.dropLast:=by
 unfold cutL
 rw[HT.sIx_none]
 show (xs.drop 0).take ((if (-1:Int)<0 then ((-1:Int)+(xs.length:Int)).toNat else min (-1:Int).toNat xs.length)-0)=xs.dropLast
 rw[if_pos (by decide),List.drop_zero,List.dropLast_eq_take]
 congr 1
 lia
theorem qgb{α:Type}(xs:List α)(k:Nat):cutL xs none (some (k:Int))=xs.take k:=by
 unfold cutL
 rw[HT.sIx_none,HT.sIx_nat,List.drop_zero,Nat.sub_zero]
 by_cases h:k<=xs.length
 ·rw[Nat.min_eq_left h]
 ·rw[Nat.min_eq_right (by lia),List.take_length,List.take_of_length_le (by lia)]
theorem qga{α:Type}(xs:List α)(k:Nat):cutL xs (some (k:Int)) none=xs.drop k:=by
 unfold cutL
 rw[HT.sIx_none,HT.sIx_nat]
 by_cases h:k<=xs.length
 ·rw[Nat.min_eq_left h,List.take_of_length_le (by rw[List.length_drop];lia)]
 ·rw[Nat.min_eq_right (by lia),List.drop_length,List.drop_of_length_le (by lia),List.take_nil]
def Its(z:Str):It:=⟨λi _=>i<z.cps.size,λi H x H'=>H'=H/\∃c,z.cps[i]?=some c/\x=.str ⟨#[c]⟩,λi _=>z.cps.size<=i⟩
theorem qox{P:Program}{w:World}{K:PySem.W.Frag}{tg:Expr}(it:Addr)(z:Str)(t:Tok):Turn P w K tg (Its z) [it] it (λi h=>h.IsStrIter it "str_ascii_iterator" z t i) where
 mem:=by simp
 obj:=λi h st b hb=>by
  have e:b=it:=by simpa using hb
  subst e
  obtain⟨o,e,c,d⟩:=st
  exact⟨o,e,λv z=>by rw[d] at z;cases z⟩
 keep:=λi h h' st k=>by
  obtain⟨o,e,r⟩:=st
  exact⟨o,k it (by simp) o e,r⟩
 item:=by
  intro X hP hw hK hc i pins s σ H E I hf st hg
  subst hP hw hK
  obtain⟨f0,f1,f2,f3,f4,f5⟩:=hf it (by simp)
  have hx:z.cps[i]?=some z.cps[i]:=Array.getElem?_eq_getElem hg
  refine wpAny_pyNext_ascii_item st hx λh' st' sb=>?_
  have I1:Inv X pins σ H { s with heap:=h',toks:=s.toks+1 }:=I.turned (λb o hb e=>(sb.2 b hb).trans e) f0 f1 f3 f4 f5
  obtain⟨o,e,c,d⟩:=id st'
  exact⟨_,rfl,qqb (s:={ s with heap:=h',toks:=s.toks+1 }) e c d (by decide) ⟨.str ⟨#[z.cps[i]]⟩,H,I1,⟨_,rfl⟩,⟨rfl,_,hx,rfl⟩,st',λb hb=>(hf b hb).1⟩⟩
 done:=by
  intro X hP hw hK hc i pins s σ H E I hf st hg
  subst hP hw hK
  obtain⟨f0,f1,f2,f3,f4,f5⟩:=hf it (by simp)
  exact wpAny_pyNext_ascii_end (I.ok.hd hc) st (Array.getElem?_eq_none hg) λh' eb=>⟨rfl,I.turned (t':=s.toks) (λb o hb e=>eb b o hb e) f0 f1 f3 f4 f5⟩
 self:=λ_ _ _ _ _ st h=>wpAny_pyIter_striter_ascii st h
theorem qrw{P:Program}{w:World}{K:PySem.W.Frag}{tg:Expr}(it:Addr)(z:Str)(t:Tok):Turn P w K tg (Its z) [it] it (λi h=>h.IsStrIter it "str_iterator" z t i) where
 mem:=by simp
 obj:=λi h st b hb=>by
  have e:b=it:=by simpa using hb
  subst e
  obtain⟨o,e,c,d⟩:=st
  exact⟨o,e,λv z=>by rw[d] at z;cases z⟩
 keep:=λi h h' st k=>by
  obtain⟨o,e,r⟩:=st
  exact⟨o,k it (by simp) o e,r⟩
 item:=by
  intro X hP hw hK hc i pins s σ H E I hf st hg
  subst hP hw hK
  obtain⟨f0,f1,f2,f3,f4,f5⟩:=hf it (by simp)
  have hx:z.cps[i]?=some z.cps[i]:=Array.getElem?_eq_getElem hg
  refine wpAny_pyNext_wide_item st hx λh' st' sb=>?_
  have I1:Inv X pins σ H { s with heap:=h',toks:=s.toks+1 }:=I.turned (λb o hb e=>(sb.2 b hb).trans e) f0 f1 f3 f4 f5
  obtain⟨o,e,c,d⟩:=id st'
  exact⟨_,rfl,qqb (s:={ s with heap:=h',toks:=s.toks+1 }) e c d (by decide) ⟨.str ⟨#[z.cps[i]]⟩,H,I1,⟨_,rfl⟩,⟨rfl,_,hx,rfl⟩,st',λb hb=>(hf b hb).1⟩⟩
 done:=by
  intro X hP hw hK hc i pins s σ H E I hf st hg
  subst hP hw hK
  obtain⟨f0,f1,f2,f3,f4,f5⟩:=hf it (by simp)
  exact wpAny_pyNext_wide_end (I.ok.hd hc) st (Array.getElem?_eq_none hg) λh' eb=>⟨rfl,I.turned (t':=s.toks) (λb o hb e=>eb b o hb e) f0 f1 f3 f4 f5⟩
 self:=λ_ _ _ _ _ st h=>wpAny_pyIter_striter_wide st h
section
variable {X:Cx} {tg:Expr}
end
def qaq:Expr->Bool
|.Starred ..=>false
|_=>true
theorem qbg{e:Expr}{es:List Expr}{env:Env}(h:qaq e=true):starEach (e::es) env=(false,eval e env)::starEach es env:=by
 cases e<;>first|rfl|(exact absurd h Bool.false_ne_true)
theorem qem{env:Env}:∀ {es:List Expr},es.all qaq=true->starEach es env=es.map λe=>(false,eval e env)
|[],_=>rfl
|e::es,h=>by
  rw[List.all_cons,Bool.and_eq_true] at h
  rw[qbg h.1,qem h.2,List.map_cons]
theorem qdp{es:List Expr}{env:Env}{pos:Pos}(h:es.all qaq=true):(backTo pos (starEach es env)).any (·.1)=false:=by
 rw[qem h]
 unfold backTo
 rw[List.map_map,List.any_eq_false]
 intro p hp
 obtain⟨e,_,rfl⟩:=List.mem_map.mp hp
 exact Bool.false_ne_true
theorem qun{es:List Expr}{env:Env}{pos:Pos}(h:es.all qaq=true):(backTo pos (starEach es env)).all (λx=>!x.1)=true:=by
 rw[qem h]
 unfold backTo
 rw[List.map_map,List.all_eq_true]
 intro p hp
 obtain⟨e,_,rfl⟩:=List.mem_map.mp hp
 rfl
section
variable {X:Cx} {x:Str} {p pos:Pos} {e:Expr} {es:List Expr} {te:TE} {t:TA} {id T:String} {r:List V->Hp->VK->Prop}
theorem pac(ha:PE X e te)(hr:PA X es t)(hs:qaq e=true:=by rfl):PA X (e::es) (qup te t):=qxs ha hr (qbg hs)
theorem all2{e:Expr}{es:List Expr}(h:(e::es).all qaq=true):qaq e=true/\es.all qaq=true:=by
 rw[List.all_cons,Bool.and_eq_true] at h
 exact h
theorem pcb(hc:CallR X (.builtin id) r)(hg:Gl X x)(hm:X.mg x=none)(hv:bootBuiltins x=some (.builtin id))(ha:PA X (e::es) t)(hp:(e::es).all qaq=true:=by rfl)(hn:x≠"__name__" := by decide)(hdb:(x==("__debug__" : Str))=false:=by decide) :
  PE X (.Call (.Name x p) (e::es) [] pos) (tCB r t):=qtp hc hg hm hv ha hn hdb (qbg (all2 hp).1) (qdp (all2 hp).2)
theorem pct(hc:CallR X (.type T) r)(hg:Gl X x)(hm:X.mg x=none)(hv:bootBuiltins x=some (.type T))(ha:PA X (e::es) t)(hp:(e::es).all qaq=true:=by rfl)(hn:x≠"__name__" := by decide)(hdb:(x==("__debug__" : Str))=false:=by decide) :
  PE X (.Call (.Name x p) (e::es) [] pos) (tCB r t):=qq8 hc hg hm hv ha hn hdb (qbg (all2 hp).1) (qdp (all2 hp).2)
theorem pbm{o:Expr}{to:TE}{name:Str}{apos cpos:Pos}{r:V->List V->Hp->VK->Prop}(pa:PlainAttrs T)(slot:Slot T name id)(hty:typeOf (.builtin id)=pure (.type "method_descriptor"))(hm:MtR X id r)(ho:PE X o to)(ha:PA X (e::es) t)
  (hp:(e::es).all qaq=true:=by rfl) (hfew:decide ((e::es).length<30)=true:=by rfl) (hbase:attributeBase o name X.env (eval o X.env)=eval o X.env:=by rfl) (hline:(apos.endLine==cpos.line)=true:=by rfl) :
  PE X (.Call (.Attribute o name apos) (e::es) [] cpos) (tBM X.K T r to t):=by
 refine q3m pa slot hty hm ho ha hbase ?_ hline (qbg (all2 hp).1) (qdp (all2 hp).2)
 rw[qun hp]
 exact hfew
theorem q3r{tg a:Expr}{ta:TA}(hg:Gl X "range")(hm:X.mg "range" = none)(ha:PA X [a] ta)(hp:qaq a=true:=by rfl):PI X tg (.Call (.Name "range" p) [a] [] pos) (qwx ta):=qq9 hg hm ha (qbg hp)
end
inductive Cal(P:Program)(w:World)(K:PySem.W.Frag)(mg:Str->Option Value)(base:Heap)(k:Nat)(x:Str)(ps:List Str)(sp:Sp):Prop where
|mk {f:Addr} {fd:FuncData} (F:FnOk P w K mg base CX0 k f fd ps sp) (hm:mg x=some (.ref f)) (hk:PySem.W.keepIn K (.ref f)=true) (hb:Binds K fd ps [])
section
variable {X:Cx} {k:Nat} {ps:List Str} {sp:Sp} {x:Str} {p pos:Pos} {e:Expr} {es:List Expr} {t:TA}
theorem q05(C:Cal X.prog X.w X.K X.mg X.base k x ps sp)(hr:Room k X.A)(hg:Gl X x)(ha:PA X (e::es) t)(hp:(e::es).all qaq=true:=by rfl)(hdb:(x==("__debug__" : Str))=false:=by decide):PE X (.Call (.Name x p) (e::es) [] pos) (quo sp [] E0 t):=by
 cases C with
|mk F hm hk hb=>exact qxv F hr hg hm hk hb .nil q3k ha hdb (qbg (all2 hp).1) (qdp (all2 hp).2)
end
section
variable {X:Cx}
end
theorem qtb{K:PySem.W.Frag}{T:String}:PySem.W.kitOne K (.type T) (.type T)=some true:=by
 unfold PySem.W.kitOne
 rw[if_pos (by simp)]
theorem range_all(bs:List Bool):(List.range bs.length).all (λi=>bs.getD i true)=bs.all id:=by
 have e:(List.range bs.length).map (λi=>bs.getD i true)=bs:=by
  apply List.ext_getElem
  ·simp
  ·intro i h1 h2
   simp[List.getD_eq_getElem?_getD,h2]
 calc (List.range bs.length).all (λi=>bs.getD i true)=((List.range bs.length).map (λi=>bs.getD i true)).all id:=by rw[List.all_map];rfl
  _=bs.all id:=by rw[e]
section
variable {X:Cx}
theorem qk0{A:Around}{bs:List Bool}{its:List Value}(r:Vals (bs.map V.bl) its):TruthOf X.prog X.w A (λi v=>its.toArray[i]?=some v) (λi=>bs.getD i true):=by
 intro i v s Q E hv q
 have hv':its[i]?=some v:=by simpa using hv
 have hl:=r.length
 rw[List.length_map] at hl
 have hi:i<bs.length:=by
  rw[hl]
  exact(List.getElem?_eq_some_iff.mp hv').1
 have e:(bs.map V.bl)[i]?=some (.bl bs[i]):=by rw[List.getElem?_map,List.getElem?_eq_getElem hi];rfl
 obtain⟨u,hu,ru⟩:=r.get e
 rw[hv'] at hu
 cases hu
 cases (show v=Value.bool bs[i] from ru)
 refine wpAny_truthy_bool ?_
 have e2:bs.getD i true=bs[i]:=by simp[List.getD_eq_getElem?_getD,hi]
 have q':Q (bs.getD i true) s:=q
 rw[e2] at q'
 exact q'
theorem qpr(hc:X.calm=true):CallR X (.builtin "all") (λxs H Q=>∃(p:Addr) (bs:List Bool),xs=[.ref p]/\SqL X.K H p (bs.map V.bl)/\Q (.bl (bs.all id)) H):=by
 intro pins s σ H xs us Q I r h
 obtain⟨p,bs,rfl,hq,q⟩:=h
 obtain⟨u,rfl,rx⟩:=vals1 r
 cases rx
 obtain⟨its,rv,pl,hz⟩:=I.list hq
 have hlt:p<s.heap.objs.size:=by
  obtain⟨_,_,e,_⟩:=pl
  exact Heap.lt_size e
 have hl:=rv.length
 rw[List.length_map] at hl
 have hA:X.A.in1.handled=none:=I.ok.hd hc
 refine call_all_walk (wpAny_pyIter_list pl.isList ?_)
 refine⟨s.heap.objs.size,_,_,its.toArray.size,_,_,λi=>bs.getD i true,rfl,Walks.list hA s.heap.objs.size p (Nat.ne_of_lt hlt) its.toArray,⟨⟨_,Heap.get?_push_size _ rfl,rfl,rfl⟩,pl.isList.push _⟩,qk0 rv,λh' tk kp=>?_⟩
 refine⟨.bl (bs.all id),H,I.kept (t':=tk) (λb o e=>kp b o (λz=>?_) (Heap.get?_push_of_some _ e)),?_,q⟩
 ·have e1:b=s.heap.objs.size:=by simpa using z
  exact absurd (e1▸Heap.lt_size e) (Nat.lt_irrefl _)
 ·rw[List.size_toArray,←hl,range_all]
  rfl
theorem qmc:∀ {ys:List Str} {us:List Value},Vals (ys.map V.str) us->∃l:List (Str×Tok),us=strValues l/\l.map (·.1)=ys
|[],_,r=>by
  cases r
  exact⟨[],rfl,rfl⟩
|y::ys,_,r=>by
  rw[List.map_cons] at r
  cases r with
 |cons r1 r2 =>
   obtain⟨t,e⟩:=r1
   subst e
   obtain⟨l,e1,e2⟩:=qmc r2
   subst e1
   exact⟨(y,t)::l,rfl,by rw[List.map_cons,e2]⟩
abbrev glue(sep:Str)(ys:List Str):Str:=Txt.join sep ys
theorem qs3(sep:Str)(ys:List Str):(glue sep ys).length<=(ys.map (·.length)).sum+ys.length*sep.length:=by
 show (Builtin.Str.glued sep ys).length<=_
 rw[StrLaws.glued_eq_join]
 exact StrLaws.join_length_le sep ys
theorem qxf:MtM X "str.join" (λx vs H Q=>∃(sep:Str) (l:Addr) (ys:List Str),x=.str sep/\vs=[.ref l]/\SqL X.K H l (ys.map V.str)/\(ys.map (·.length)).sum+ys.length*sep.length<=16777216/\Q (.str (glue sep ys)) H):=by
 intro pins s σ H x vs v us Q I rx rv h
 obtain⟨sep,l,ys,rfl,rfl,hq,hz,q⟩:=h
 obtain⟨t,rfl⟩:=rx
 obtain⟨u,rfl,ru⟩:=rv.one
 cases ru
 obtain⟨its,r,pl,_⟩:=I.list hq
 obtain⟨ts,e1,e2⟩:=qmc r
 subst e1
 refine SC.join pl.isList e2 ?_ λt' k=>⟨.str (glue sep ys),H,I.tok k,⟨t',rfl⟩,q⟩
 unfold JoinOk
 rw[StrLaws.joinTotal]
 have:Builtin.Str.tooLong ((ys.map (·.length)).sum+ys.length*sep.length)=false:=by
  unfold Builtin.Str.tooLong
  rw[sizeLine_eq]
  exact decide_eq_false (by lia)
 rw[this]
 rfl
theorem part_of{v:Value}{o:Option Int}(p:IsPart v o):∃l:Option (Int×Tok),v=partValue l/\l.map (·.1)=o:=by
 cases p with
|none=>exact⟨none,rfl,rfl⟩
|int i t=>exact⟨some (i,t),rfl,rfl⟩
theorem sl_str:SlR X (λx lo hi H Q=>∃z,x=.str z/\z.length<=sizeLine/\Q (.str (Txt.slice z lo hi)) H):=by
 intro pins s σ H x v vl vu lo hi sl Q I rx hs pl pu h
 obtain⟨z,rfl,hz,q⟩:=h
 obtain⟨t,rfl⟩:=rx
 obtain⟨l,e1,e2⟩:=part_of pl
 obtain⟨u,e3,e4⟩:=part_of pu
 subst e1 e2 e3 e4
 refine⟨"str",_,F.slot_str_getitem.lookup,typeIs_str _ _ _,?_⟩
 refine wpAny_getItem_str_slice (l:=l) (u:=u) (st:=none) hs rfl ?_
 exact post_val_or_str ⟨Nat.le_trans (Txt.slice_le z _ _) hz,λt' k=>⟨.str (Txt.slice z (l.map (·.1)) (u.map (·.1))),H,I.tok k,⟨t',rfl⟩,q⟩⟩
end
end L2
namespace HT
open PySem PyProof.Rows
section
variable {prog:Program} {w:World} {A:Around} {E:Value->Shared->Prop} {s:Shared}
theorem getItem_tuple_whole{t sl:Addr}{items:Array Value}{vl vu:Value}{lo hi:Option Int}{Q:Value->Shared->Prop}(ht:IsTup s.heap t items)(hs:s.heap.IsSliceOf sl vl vu .none)(pl:IsPart vl lo)(pu:IsPart vu hi)
  (hw:sIx items.size 0 lo=0/\sIx items.size items.size hi=items.size) (h:Q (.ref t) s):wpAny (model prog w) A (getItem (.ref t) (.ref sl)) Q E s:=by
 obtain⟨os,hos,hcs,hds⟩:=id hs
 have hTs:s.TypeIs (.ref sl) "slice" := ⟨os,hos,hcs⟩
 unfold getItem
 try with_reducible refine wpAny_holding ?_
 first|refine wpAny_bind (wpAny_pure ?_)|skip
 refine wpAny_bind (wpAny_sequenceKey ht.typeIs (by decide) ?_)
 refine wpAny_bind (wpAny_callSpecial?_slot (name:=Str.ofString "__getitem__") ht.typeIs PyProof.Rows.slot_tuple_getitem
  (wpAny_call_entry PyProof.Rows.slot_tuple_getitem ht.typeIs entry_tuple_getitem ?_ (args_tuple_getitem _ _)))
 show wpAny _ _ (Builtin.Tuple.tupleItemsOf (.ref t) >>= _) _ _ s
 refine wpAny_bind (tupleItemsOf_ ht ?_)
 refine wpAny_bind (wpAny_typeOf hTs ?_)
 rw[if_pos (by decide)]
 refine wpAny_bind (qd0 hs pl pu ?_)
 have hyes:(((sIx items.size 0 lo:Nat):Int)==0&&(1:Int)==1&&(sIx items.size items.size hi-sIx items.size 0 lo)==items.size)=true:=by
  rw[hw.1,hw.2]
  simp
 show wpAny _ _ (if (((sIx items.size 0 lo:Nat):Int)==0&&(1:Int)==1&&(sIx items.size items.size hi-sIx items.size 0 lo)==items.size)=true then _ else _) _ _ s
 rw[if_pos hyes]
 refine wpAny_bind (m:=Builtin.Tuple.tupleIsExact _) ?_
 unfold Builtin.Tuple.tupleIsExact
 refine wpAny_bind (wpAny_typeOf ht.typeIs (wpAny_pure ?_))
 rw[if_pos (by decide)]
 exact wpAny_bind (wpAny_rule (wpAny_pure ⟨_,rfl,wpAny_pure h⟩))
end
end HT
namespace L2
open PySem PySem.Spec PyProof.Rows
section
variable {X:Cx}
end
theorem qc7{env:Env}{x:Str}{k:NameKind}:∀ {names:List (Str×NameKind)},
  (names.map λ(n,k)=>if (k==NameKind.free&&env.scope.kind==.function&&env.kindOf n==some .cell) then (n,NameKind.cell) else (n,k)).lookup x=some k->names.lookup x=some k\/(names.lookup x=some .free/\k=.cell)
|[],h=>by simp at h
|(n,k0)::r,h=>by
  have ih:=@qc7 env x k r
  rw[List.map_cons] at h
  have h:List.lookup x ((if (k0==NameKind.free&&env.scope.kind==.function&&env.kindOf n==some .cell)=true then (n,NameKind.cell) else (n,k0))::_)=some k:=h
  by_cases hc:(k0==NameKind.free&&env.scope.kind==.function&&env.kindOf n==some .cell)=true
  ·rw[if_pos hc,List.lookup_cons] at h
   rw[List.lookup_cons]
   cases hx:x==n with
  |true =>
    rw[hx] at h
    have e:NameKind.cell=k:=Option.some.inj h
    subst e
    have e0:k0=.free:=by
     rw[Bool.and_eq_true,Bool.and_eq_true] at hc
     exact eq_of_beq hc.1.1
    subst e0
    exact .inr ⟨rfl,rfl⟩
  |false =>
    rw[hx] at h
    exact ih h
  ·rw[if_neg hc,List.lookup_cons] at h
   rw[List.lookup_cons]
   cases hx:x==n with
  |true =>
    rw[hx] at h
    exact .inl h
  |false =>
    rw[hx] at h
    exact ih h
theorem qcf{csc:Scope}{env:Env}{x:Str}{k:NameKind}(h:(relabel csc env).names.lookup x=some k):csc.names.lookup x=some k\/(csc.names.lookup x=some .free/\k=.cell):=qc7 h
theorem qn1{csc:Scope}{env:Env}(h:∀y∈csc.names,y.2=.free->∃c,env.cells.lookup y.1=some c) :
  ∃cl,closureFor csc env=pure cl/\(∀x c,cl.lookup x=some c->env.cells.lookup x=some c)/\∀y∈csc.names,y.2=.free->∃c,cl.lookup y.1=some c:=by
 have key:∀(body:Str×NameKind->List (Str×Addr)->Sem (ForInStep (List (Str×Addr)))),
   (∀n k acc,body (n,k) acc=if (k==.free)=true then (cellOf env n >>= λc=>pure (ForInStep.yield ((n,c)::acc))) else pure (ForInStep.yield acc)) ->
   ∀(l:List (Str×NameKind)) (acc:List (Str×Addr)),(∀y∈l,y.2=.free->∃c,env.cells.lookup y.1=some c)->(∀x c,acc.lookup x=some c->env.cells.lookup x=some c) ->
   ∃cl,(forIn l acc body:Sem (List (Str×Addr)))=pure cl/\(∀x c,cl.lookup x=some c->env.cells.lookup x=some c)/\(∀y∈l,y.2=.free->∃c,cl.lookup y.1=some c)/\∀x c,acc.lookup x=some c->∃c',cl.lookup x=some c':=by
  intro body hb l
  induction l with
 |nil =>
   intro acc _ ha
   exact⟨acc,rfl,ha,λy hy=>(nomatch hy),λx c e=>⟨c,e⟩⟩
 |cons p r ih =>
   intro acc hl ha
   obtain⟨n,k⟩:=p
   have hr:∀y∈r,y.2=.free->∃c,env.cells.lookup y.1=some c:=λy hy=>hl y (List.mem_cons_of_mem _ hy)
   by_cases hk:k=.free
   ·subst hk
    obtain⟨c,hc⟩:=hl (n,.free) List.mem_cons_self rfl
    have ha':∀x d,((n,c)::acc).lookup x=some d->env.cells.lookup x=some d:=λx d e=>by
     rw[List.lookup_cons] at e
     cases hx:x==n with
    |true =>
      rw[hx] at e
      have e1:c=d:=Option.some.inj e
      subst e1
      rw[eq_of_beq hx]
      exact hc
    |false =>
      rw[hx] at e
      exact ha x d e
    obtain⟨cl,e1,e2,e3,e4⟩:=ih ((n,c)::acc) hr ha'
    refine⟨cl,?_,e2,λy hy hf=>?_,λx d e=>?_⟩
    ·rw[List.forIn_cons,hb,if_pos (by rfl)]
     have ec:cellOf env n=pure c:=by
      unfold cellOf
      rw[hc]
     rw[ec]
     exact e1
    ·rcases List.mem_cons.mp hy with e|hy
     ·subst e
      exact e4 n c (by rw[List.lookup_cons,beq_self_eq_true])
     ·exact e3 y hy hf
    ·cases hx:x==n with
    |true=>exact e4 x c (by rw[List.lookup_cons,hx])
    |false=>exact e4 x d (by rw[List.lookup_cons,hx];exact e)
   ·obtain⟨cl,e1,e2,e3,e4⟩:=ih acc hr ha
    refine⟨cl,?_,e2,λy hy hf=>?_,e4⟩
    ·have hk':(k==NameKind.free)=false:=by simpa using hk
     rw[List.forIn_cons,hb,hk',if_neg Bool.false_ne_true]
     exact e1
    ·rcases List.mem_cons.mp hy with e|hy
     ·subst e
      exact absurd hf hk
     ·exact e3 y hy hf
 obtain⟨cl,e1,e2,e3,_⟩:=key (λp acc=>if (p.2==.free)=true then (cellOf env p.1 >>= λc=>pure (ForInStep.yield ((p.1,c)::acc))) else pure (ForInStep.yield acc)) (λn k acc=>rfl) csc.names [] h (λx c e=>by simp at e)
 refine⟨cl,?_,e2,e3⟩
 have e4:closureFor csc env=(forIn csc.names [] (λp acc=>if (p.2==.free)=true then (cellOf env p.1 >>= λc=>pure (ForInStep.yield ((p.1,c)::acc))) else pure (ForInStep.yield acc)) >>= λcs=>pure cs):=rfl
 rw[e4,e1]
 rfl
structure CompScope(sc:Scope)(N NB M:List Str)(csc:Scope):Prop where
 kind:csc.kind=.function
 nocell:∀y∈csc.names,y.2≠.cell
 locs:∀y∈csc.names,y.2=.local->csc.names.lookup y.1=some .local
 free:∀y∈csc.names,y.2=.free->sc.names.lookup y.1=some .cell\/sc.names.lookup y.1=some .free
 nd:NB.Nodup
 len:NB.length=N.length+M.length
 old:∀p∈N.zip NB,csc.names.lookup p.2≠some .local/\(csc.names.lookup p.2=none\/p.1=p.2)
theorem CompScope.at{sc:Scope}{N NB M:List Str}{csc:Scope}(S:CompScope sc N NB M csc){i:Nat}{x:Str}(e:NB[i]?=some x)(hi:i<N.length):csc.names.lookup x≠some .local/\(csc.names.lookup x≠none->N[i]?=some x):=by
 have e1:N[i]?=some N[i]:=List.getElem?_eq_getElem hi
 have hm:(N[i],x)∈N.zip NB:=by
  apply List.mem_of_getElem? (i:=i)
  rw[List.getElem?_zip_eq_some]
  exact⟨e1,e⟩
 obtain⟨h1,h2⟩:=S.old _ hm
 refine⟨h1,λhn=>?_⟩
 rcases h2 with h2|h2
 ·exact absurd h2 hn
 ·rw[e1]
  exact congrArg some h2
def cxC(X:Cx)(NB:List Str)(csc:Scope)(cl:List (Str×Addr))(C:Addr)(s₀:Shared)(H₀:Hp)(fp:List Addr)(pn:List (Addr×Obj)):Cx where
 prog:=X.prog
 w:=X.w
 K:=X.K
 mg:=X.mg
 base:=X.base
 A:=X.A
 N:=NB
 s₀:=s₀
 H₀:=H₀
 env:=compEnvC csc cl C X.env
 outer:=X.stack
 stack:=X.stack
 ex:=fp
 fn:=λ_=>false
 calm:=X.calm
 pn:=pn
 xe:=λ_ _=>False
section
variable {X:Cx} {pins:List (Addr×Obj)} {σ:St} {H₀:Hp} {s₀:Shared} {NB M:List Str} {csc:Scope} {cl:List (Str×Addr)} {fp:List Addr}
theorem qn2{h₁:Heap}{tk:Nat}{m:Str->Option Value}(S:CompScope X.env.scope X.N NB M csc)(I:Inv X pins σ H₀ s₀)(hf:∀b∈fp,FpOk X pins H₀ b)(hlt:∀b∈fp,b<s₀.heap.objs.size)
  (c1:∀x c,cl.lookup x=some c->X.env.cells.lookup x=some c) (c2:∀y∈csc.names,y.2=.free->∃c,cl.lookup y.1=some c)
  (hn:h₁.Ns s₀.heap.objs.size m) (hk:∀b o,s₀.heap.get? b=some o->h₁.get? b=some o) :
  Inv (cxC X NB csc cl s₀.heap.objs.size s₀ H₀ fp (X.pn++pins)) [] (σ++List.replicate M.length none) H₀ { s₀ with heap:=h₁,toks:=tk }:=by
 have kindB:∀x,((relabel csc X.env).names.lookup x=some .cell\/(relabel csc X.env).names.lookup x=some .free)->csc.names.lookup x=some .free:=λx hx=>by
  rcases hx with hx|hx
  ·rcases qcf hx with z|⟨z,_⟩
   ·exact absurd rfl (S.nocell _ (PySem.mem_of_lookup z))
   ·exact z
  ·rcases qcf hx with z|⟨z,_⟩
   ·exact z
   ·exact z
 have hasC:∀x,csc.names.lookup x=some .free->∃c,cl.lookup x=some c:=λx hx=>c2 (x,.free) (PySem.mem_of_lookup hx) rfl
 refine⟨⟨I.ok.mod,S.kind,I.ok.glob,I.ok.blt,Nat.le_refl _,λx y c h1 h2=>I.ok.inj x y c (c1 x c h1) (c1 y c h2),λx hx=>hasC x (kindB x hx),λx c h _=>absurd h Bool.false_ne_true,I.ok.hd,I.ok.frames,.inl rfl,
   λb hb=>⟨Nat.ne_of_lt (hlt b hb),λx c e=>(hf b hb).2.2.2.2.1 x c (c1 x c e)⟩,I.bs,Nat.le_trans I.ok.bsz I.sz,λb o e hb=>?_,λb hb z=>?_,I.stack,I.stkFree⟩,
  rfl,I.bare,Un.kept hk,⟨m,hn,λi x v e1 e2 e3=>?_⟩,λx c e=>?_,I.fresh,λx c e=>I.freeC x c (c1 x c e),λp hp=>?_,I.hok.kept hk,?_⟩
 ·rcases (hf b hb).2.2.2.1 with z|z
  ·exact I.ok.noex b o e z
  ·exact absurd (Nat.lt_of_lt_of_le (Heap.lt_size e) (Nat.le_trans I.ok.bsz z)) (Nat.lt_irrefl _)
 ·rcases List.mem_cons.mp (I.stkSub b z) with e|e
  ·exact(hf b hb).2.1 e
  ·exact(hf b hb).2.2.1 e
 ·have hlen:=I.len
  have hi:i<X.N.length:=by
   apply Classical.byContradiction
   intro hi
   rw[List.getElem?_append_right (by lia),List.getElem?_replicate] at e2
   split at e2<;>cases e2
  have e2':σ[i]?=some (some v):=by
   rw[List.getElem?_append_left (by lia)] at e2
   exact e2
  obtain⟨nl,hN⟩:=S.at e1 hi
  have hfree:csc.names.lookup x=some .free:=by
   rcases e3 with z|z
   ·rcases qcf (show (relabel csc X.env).names.lookup x=some .local from z) with q|⟨_,q⟩
    ·exact absurd q nl
    ·cases q
   ·exact kindB x z
  have hN':=hN (by rw[hfree];intro z;cases z)
  have ok:=S.free (x,.free) (PySem.mem_of_lookup hfree) rfl
  obtain⟨m',hn',hl⟩:=I.loc
  obtain⟨u,r,l⟩:=hl i x v hN' e2' (.inr ok)
  rcases l with ⟨k,_⟩|⟨_,c,hc,hcell⟩
  ·have k':X.env.scope.names.lookup x=some .local:=k
   rcases ok with z|z
   ·rw[show X.env.scope.names.lookup x=some .cell from z] at k'
    cases k'
   ·rw[show X.env.scope.names.lookup x=some .free from z] at k'
    cases k'
  ·obtain⟨c',hc'⟩:=hasC x hfree
   have ec:c'=c:=by
    have:=c1 x c' hc'
    rw[hc] at this
    exact(Option.some.inj this).symm
   subst ec
   obtain⟨o,ho,hd⟩:=hcell
   refine⟨u,r,.inr ⟨?_,c',hc',o,hk _ _ ho,hd⟩⟩
   rcases e3 with z|z
   ·rcases qcf (show (relabel csc X.env).names.lookup x=some .local from z) with q|⟨_,q⟩
    ·exact absurd q nl
    ·cases q
   ·exact z
 ·obtain⟨v,o,ho,hd⟩:=I.cell x c (c1 x c e)
  exact⟨v,o,hk _ _ ho,hd⟩
 ·have hp':p∈(X.pn++pins)++[]:=hp
  rw[List.append_nil] at hp'
  obtain⟨e,n,ne,nf,d⟩:=I.pin p hp'
  exact⟨hk _ _ e,n,Nat.ne_of_lt (Heap.lt_size e),λz=>(List.mem_cons.mp (I.stkSub _ z)).elim ne nf,d⟩
 ·rw[List.length_append,List.length_replicate,I.len]
  exact S.len.symm
theorem qsx{τ:St}{H:Hp}{s:Shared}{pins':List (Addr×Obj)}(I:Inv X pins σ H₀ s₀)(hf:∀b∈fp,FpOk X pins H₀ b)(B:Inv (cxC X NB csc cl s₀.heap.objs.size s₀ H₀ fp (X.pn++pins)) pins' τ H s) :
  Inv X pins σ H s/\FpOk X pins H s₀.heap.objs.size :=
 ⟨I.call' (ch:=fp) B.os B.base B.hok B.bare λb hb=>⟨(hf b hb).2.2.2.1,(hf b hb).2.1,(hf b hb).2.2.2.2.1,(hf b hb).2.2.2.2.2⟩,I.fpOk (Nat.le_refl _) B.free⟩
end
theorem qed{prog:Program}{w:World}{A:Around}{R:Result->Shared->Prop}{s:Shared}{elt target iter:Expr}{ifs:List Expr}{scope:Scope}{pos:Pos}{it acc:Value}{env:Env}(I:Nat->Shared->Prop)
  (turn:∀n s,I n s->wpAny (model prog w) A (pyNext it) (λr s₁=>match r with
  |none=>R (.ok .next) s₁
  |  some v=>wpAny (model prog w) A (letOwnedTupleGo target it v) (λ_ s₁'=>wpAny (model prog w) A (assign target env v) (λ_ s₂ =>
     wpAny (model prog w) A (forIn ifs true λc r=>if r=true then do let ok ←isTrue c env (eval c env);pure (ForInStep.yield ok) else pure (ForInStep.yield r)) (λok s₃ =>
      if ok=true then wpAny (model prog w) A (eval elt env) (λx s₄ =>
       wpAny (model prog w) A (call (.builtin "list.append") [acc,x]) (λ_ s₅=>∃m,m<n/\I m s₅) (notedBy (model prog w) A env λe s'=>R (.error e) s') s₄) (notedBy (model prog w) A env λe s'=>R (.error e) s') s₃
      else ∃m,m<n/\I m s₃) (notedBy (model prog w) A env λe s'=>R (.error e) s') s₂) (notedBy (model prog w) A env λe s'=>R (.error e) s') s₁') (notedBy (model prog w) A env λe s'=>R (.error e) s') s₁)
    (notedBy (model prog w) A env λe s'=>R (.error e) s') s)
  (n:Nat) (h:I n s):codeAny (model prog w) A (.compLoop (.ListComp elt [⟨target,iter,ifs,0⟩] scope pos) 0 it acc env) R s:=by
 refine codeAny_loop rfl I (λn s hI=>?_) n h
 show wpAny _ A ((compTurn (.ListComp elt [⟨target,iter,ifs,0⟩] scope pos) 0 it acc env).onRaise (λx=>do noteFrame x env;theTreesLotGoes x)) _ _ s
 refine wpAny_noted ?_
 rw[compTurn_list]
 refine wpAny_bind (wpAny_standAt (wpAny_bind (wpAny_mono (turn n s hI) (λr s₁ h₁=>?_) λ_ _ h'=>h')))
 cases r with
|none=>exact wpAny_pure h₁
|some v =>
  refine wpAny_bind (wpAny_mono h₁ (λ_ s₁' h₁'=>?_) λ_ _ h'=>h')
  refine wpAny_bind (wpAny_mono h₁' (λ_ s₂ h₂=>wpAny_bind (wpAny_mono h₂ (λok s₃ h₃=>?_) λ_ _ h'=>h')) λ_ _ h'=>h')
  cases ok with
 |false=>exact wpAny_pure ⟨rfl,h₃⟩
 |true =>
   exact wpAny_bind (wpAny_bind (wpAny_mono h₃ (λx s₄ h₄=>wpAny_bind (wpAny_mono h₄ (λ_ s₅ h₅=>wpAny_pure (wpAny_pure ⟨rfl,h₅⟩)) λ_ _ h'=>h')) λ_ _ h'=>h'))
abbrev TF:=St->Hp->(Hp->Prop)->(Hp->Prop)->Prop
def PF(X:Cx)(ifs:List Expr)(t:TF):Prop :=
 ∀(pins:List (Addr×Obj)) (s:Shared) (σ:St) (H:Hp) (Y N:Hp->Prop),Inv X pins σ H s->t σ H Y N ->
  wpAny (model X.prog X.w) X.A (forIn ifs true λc r=>if r=true then do let ok ←isTrue c X.env (eval c X.env);pure (ForInStep.yield ok) else pure (ForInStep.yield r)) (λb s'=>∃H',Inv X pins σ H' s'/\if b=true then Y H' else N H') X.xe s
def fNil:TF:=λ_ H Y _=>Y H
theorem qx1{X:Cx}:PF X [] fNil:=λ_ _ _ H _ _ I h=>wpAny_tests_nil ⟨H,I,iteT h⟩
def qy6(wi:TI)(g:TG)(ti:TF)(te:TE)(k:Nat):TE:=λσ H Q=>wi σ H λJ H1=>∀p,H1 p=none->∃W:Nat->Nat->St->List V->Hp->Prop,(∃m,W 0 m (σ++List.replicate k none) [] (upd H1 p (.lst [])))/\∀i m τ xs H,W i m τ xs H ->
 (J.stop i H/\Q (.ref p) H)\/(J.go i H/\∀x H',J.yld i H x H'->g x τ H' λτ2 H2=>ti τ2 H2 (λH3=>te τ2 H3 λv H4=>H4 p=some (.lst xs)/\xs.length<sizeLine/\∃m',m'<m/\W (i+1) m' τ2 (xs++[v]) (upd H4 p (.lst (xs++[v]))))
  (λH3=>∃m',m'<m/\W (i+1) m' τ2 xs H3))
def PCp(X:Cx)(e:Expr)(t:TE):Prop:=∃elt tg iter ifs csc pos,e=.ListComp elt [⟨tg,iter,ifs,0⟩] csc pos /\
 ∀(ppos:Pos) (use:Option (Value->Sem Unit)) (R:Value->Shared->Prop) (pins:List (Addr×Obj)) (s:Shared) (σ:St) (H:Hp) (Q:VK),Inv X pins σ H s->t σ H Q ->
  (∀(D C:Addr) (s':Shared) (H':Hp),Inv X pins σ H' s'->FpOk X pins H' C->(∃m,s'.heap.Ns C m)->Q (.ref D) H'->compPost (model X.prog X.w) X.A X.xe use R (.ref D) C (.ok .next) s') ->
  wpAny (model X.prog X.w) X.A (comprehension (.ListComp elt [⟨tg,iter,ifs,0⟩] csc pos) csc X.env ppos (newList []) false (eval iter X.env) use) R X.xe s
section
variable {X:Cx}
theorem qxt{tg iter elt:Expr}{ifs:List Expr}{csc:Scope}{pos:Pos}{NB M:List Str}{wi:TI}{g:TG}{ti:TF}{te:TE}(hi:PI X tg iter wi)(hc:X.calm=true)(S:CompScope X.env.scope X.N NB M csc)
  (hg:∀cl C s₀ H₀ fp pn,PG (cxC X NB csc cl C s₀ H₀ fp pn) tg g) (hf:∀cl C s₀ H₀ fp pn,PF (cxC X NB csc cl C s₀ H₀ fp pn) ifs ti) (he:∀cl C s₀ H₀ fp pn,PE (cxC X NB csc cl C s₀ H₀ fp pn) elt te)
  (hs:∀x,foldedSetIterable iter X.env x=pure x:=by intro _;rfl):PCp X (.ListComp elt [⟨tg,iter,ifs,0⟩] csc pos) (qy6 wi g ti te M.length):=by
 refine⟨elt,tg,iter,ifs,csc,pos,rfl,λppos use R pins s σ H Q I h fin=>?_⟩
 have hcell:∀y∈csc.names,y.2=.free->∃c,X.env.cells.lookup y.1=some c:=λy hy hfr=>I.ok.has y.1 (S.free y hy hfr)
 obtain⟨cl,hcl,c1,c2⟩:=qn1 hcell
 refine wpAny_comprehension_free rfl hs hcl S.kind S.locs ?_
 refine thn (hi pins s σ H _ I h) λv s1 h1=>thn h1 λitv s2 h2=>?_
 obtain⟨it,fp,tn,J,H2,e,I2,T,st2,f2,h2⟩:=h2
 subst e
 have hlt2:∀b∈fp,b<s2.heap.objs.size:=λb hb=>let ⟨_,e,_⟩:=T.obj _ _ st2 b hb;Heap.lt_size e
 refine wpAny_newObj_type (wpAny_newFunctionEnv S.nocell (by intro y hy;simp at hy) (λh₁ hns₁ hsb₁=>?_) S.kind)
 dsimp only at hns₁ hsb₁ ⊢
 have I0:Inv X pins σ (upd H2 s2.heap.objs.size (.lst [])) { s2 with heap:=s2.heap.push { cls:=.type "list",dict:=none,data:=.seq ([]:List Value).toArray } }:=I2.lnew (its:=[]) (t':=s2.toks) .nil (Nat.zero_le _)
 generalize hs0:({ s2 with heap:=s2.heap.push { cls:=.type "list",dict:=none,data:=.seq ([]:List Value).toArray } }:Shared)=s₀ at I0
 have hh:s2.heap.push { cls:=.type "list",dict:=none,data:=.seq ([]:List Value).toArray }=s₀.heap:=by rw[←hs0]
 rw[hh] at hns₁ hsb₁ ⊢
 have hsz:s2.heap.objs.size<s₀.heap.objs.size:=by rw[←hh,Heap.size_push];exact Nat.lt_succ_self _
 have hDn:H2 s2.heap.objs.size=none:=I2.fresh
 have f0:∀b∈fp,FpOk X pins (upd H2 s2.heap.objs.size (.lst [])) b:=λb hb=>⟨by rw[qau (Nat.ne_of_lt (hlt2 b hb))];exact(f2 b hb).1,(f2 b hb).2⟩
 have hlt:∀b∈fp,b<s₀.heap.objs.size:=λb hb=>Nat.lt_trans (hlt2 b hb) hsz
 have hk:∀b o,s₀.heap.get? b=some o->h₁.get? b=some o:=λb o e=>hsb₁.extBut b o (Nat.ne_of_lt (Heap.lt_size e)) (Heap.get?_push_of_some _ e)
 have hk2:∀b o,s2.heap.get? b=some o->h₁.get? b=some o:=λb o e=>hk b o (by rw[←hh];exact Heap.get?_push_of_some _ e)
 have st1:tn 0 h₁:=T.keep _ _ _ st2 λb _ o e=>hk2 b o e
 obtain⟨W,⟨m0,w0⟩,turn⟩:=h2 s2.heap.objs.size hDn
 have loop:∀s₃:Shared,s₃={ s₀ with heap:=h₁,toks:=s2.toks+([]:List (Str×Value)).length } ->
   codeAny (model X.prog X.w) X.A (.compLoop (.ListComp elt [⟨tg,iter,ifs,0⟩] csc pos) 0 (.ref it) (.ref s2.heap.objs.size) (compEnvC csc cl s₀.heap.objs.size X.env))
    (compPost (model X.prog X.w) X.A X.xe use R (.ref s2.heap.objs.size) s₀.heap.objs.size) s₃:=by
  rintro s₃ rfl
  have B0:=qn2 (cl:=cl) (tk:=s2.toks+([]:List (Str×Value)).length) S I0 f0 hlt c1 c2 hns₁ hk
  have fpB:∀ {H':Hp},(∀b∈fp,H' b=none)->∀b∈fp,FpOk (cxC X NB csc cl s₀.heap.objs.size s₀ (upd H2 s2.heap.objs.size (.lst [])) fp (X.pn++pins)) [] H' b:=λ{H'} hn b hb =>
   ⟨hn b hb,Nat.ne_of_lt (hlt b hb),B0.ok.exfs b hb,.inl hb,λx c e=>(f0 b hb).2.2.2.2.1 x c (c1 x c e),λp hp=>(f0 b hb).2.2.2.2.2 p (by
    have hp':p∈(X.pn++pins)++[]:=hp
    rw[List.append_nil] at hp'
    exact hp')⟩
  refine qed (λn s'=>∃i τ xs H',Inv (cxC X NB csc cl s₀.heap.objs.size s₀ (upd H2 s2.heap.objs.size (.lst [])) fp (X.pn++pins)) [] τ H' s'/\tn i s'.heap/\(∀b∈fp,H' b=none)/\W i n τ xs H') ?_ m0
   ⟨0,_,[],_,B0,st1,λb hb=>(f0 b hb).1,w0⟩
  rintro n s3 ⟨i,τ,xs,H3,I3,st3,fr3,w3⟩
  rcases turn i n τ xs H3 w3 with ⟨stop,q⟩|⟨go,step⟩
  ·refine thn (T.done (cxC X NB csc cl s₀.heap.objs.size s₀ (upd H2 s2.heap.objs.size (.lst [])) fp (X.pn++pins)) rfl rfl rfl hc i [] s3 τ H3 _ I3 (fpB fr3) st3 stop) λr s4 ⟨hr,I4⟩=>?_
   subst hr
   obtain⟨IX,fpC⟩:=qsx I0 f0 I4
   exact fin _ _ s4 H3 IX fpC (let ⟨m,hn,_⟩:=I4.loc;⟨m,hn⟩) q
  ·refine thn (T.item (cxC X NB csc cl s₀.heap.objs.size s₀ (upd H2 s2.heap.objs.size (.lst [])) fp (X.pn++pins)) rfl rfl rfl hc i [] s3 τ H3 _ I3 (fpB fr3) st3 go) λr s4 ⟨u,hr,h4⟩=>?_
   subst hr
   refine thn h4 λ_ s5 ⟨x,H5,I5,r5,y5,st5,fr5⟩=>?_
   have I5':=I5.pinned (fpB fr5) (T.obj _ _ st5)
   refine wpAny_mono (hg _ _ _ _ _ _ _ s5 τ H5 x u _ I5' r5 (step x H5 y5)) (λ_ s6 ⟨τ6,H6,I6,q6⟩=>?_) λ_ _ z=>False.elim z
   refine wpAny_mono (hf _ _ _ _ _ _ _ s6 τ6 H6 _ _ I6 q6) (λb s7 ⟨H7,I7,q7⟩=>?_) λ_ _ z=>False.elim z
   have again:∀ {τ7:St} {H7:Hp} {s7:Shared} {ys:List V},Inv (cxC X NB csc cl s₀.heap.objs.size s₀ (upd H2 s2.heap.objs.size (.lst [])) fp (X.pn++pins)) ([]++qj6 fp s5.heap) τ7 H7 s7->(∃m',m'<n/\W (i+1) m' τ7 ys H7) ->
     ∃m,m<n/\∃i τ xs H',Inv (cxC X NB csc cl s₀.heap.objs.size s₀ (upd H2 s2.heap.objs.size (.lst [])) fp (X.pn++pins)) [] τ H' s7/\tn i s7.heap/\(∀b∈fp,H' b=none)/\W i m τ xs H':=λ{τ7 H7 s7 ys} I7 w7=>by
    obtain⟨m',hm,w7⟩:=w7
    refine⟨m',hm,i+1,τ7,ys,H7,I7.unpinned,T.keep _ _ _ st5 λb hb o e=>(I7.pin (b,o) (List.mem_append_right _ (List.mem_append_right _ (qd9 hb e)))).1,λb hb=>?_,w7⟩
    obtain⟨o,e,d⟩:=T.obj _ _ st5 b hb
    exact(I7.pin (b,o) (List.mem_append_right _ (List.mem_append_right _ (qd9 hb e)))).2.1
   cases b with
  |false=>exact again I7 q7
  |true =>
    have q7':te τ6 H7 _:=q7
    refine wpAny_mono (he _ _ _ _ _ _ _ s7 τ6 H7 _ I7 q7') (λy s8 ⟨v8,H8,I8,r8,hl8,hz8,w8⟩=>?_) λ_ _ z=>False.elim z
    refine wpAny_mono (qjz (X:=(cxC X NB csc cl s₀.heap.objs.size s₀ (upd H2 s2.heap.objs.size (.lst [])) fp (X.pn++pins))) _ s8 τ6 H8 (.ref s2.heap.objs.size) [v8] (.ref s2.heap.objs.size) [y] (λ_ H9=>H9=upd H8 s2.heap.objs.size (.lst (xs++[v8]))) I8 rfl (.cons r8 .nil) ⟨_,xs,v8,rfl,rfl,hl8,hz8,rfl⟩) (λ_ s9 ⟨_,H9,I9,_,e9⟩=>?_) λ_ _ z=>False.elim z
    subst e9
    exact again I9 w8
 exact codeAny_compStart_list (loop _ (by rw[←hs0])) (T.self _ _ _ _ _ st1 (loop _ (by rw[←hs0])))
theorem PCp.pe{e:Expr}{t:TE}(h:PCp X e t):PE X e t:=by
 obtain⟨elt,tg,iter,ifs,csc,pos,rfl,h⟩:=h
 intro pins s σ H Q I hw
 rw[eval_ListComp]
 refine h _ none (EP X pins σ Q) pins s σ H Q I hw λD C s' H' IX fpC ⟨m,hn⟩ q=>⟨m,hn,λh' hs=>?_⟩
 exact⟨.ref D,H',IX.turned (t':=s'.toks) (λb o hb e=>(hs.2 b hb).trans e) fpC.1 fpC.2.1 fpC.2.2.2.1 fpC.2.2.2.2.1 fpC.2.2.2.2.2,rfl,q⟩
theorem qx7{i:Nat}{x:Str}{e:Expr}{te:TE}{pos' pos:Pos}(hN:X.N.Nodup)(hi:X.N[i]?=some x)(hx:Loc X.env.scope x)(he:PCp X e te)(hsw:swapsWith e (some (.Name x pos')) pos.line X.env=pure true:=by rfl)
  (hf:X.fn x=true\/X.env.scope.names.lookup x=some .local:=by first|exact .inl rfl|exact .inr rfl|assumption):PS X (.Assign [.Name x pos'] e pos) (tAsg te (qjp i)):=by
 obtain⟨elt,tg,iter,ifs,csc,cpos,rfl,h⟩:=he
 intro pins s σ H D I hw
 rw[exec_Assign_Name_used _ _ _ _ hsw]
 refine wpAny_bind (wpAny_standAt (wpAny_bind ?_))
 show wpAny _ X.A (do let _ ←comprehension (.ListComp elt [⟨tg,iter,ifs,0⟩] csc cpos) csc X.env _ (newList []) false (eval iter X.env) (some (assign (.Name x pos') X.env))) _ _ s
 refine wpAny_bind (wpAny_mono (h _ (some (assign (.Name x pos') X.env)) (λ_ s'=>SP X pins D .next s') pins s σ H _ I hw ?_) (λ_ s' hq=>wpAny_pure (wpAny_pure hq)) λ_ _ e=>e)
 intro Dl C s' H' IX fpC ⟨m,hn⟩ q
 show wpAny _ X.A (assign (.Name x pos') X.env (.ref Dl)) _ _ s'
 refine wpAny_assign_Name (qke IX hN hi hx (v:=.ref Dl) rfl (λs2 I2 ⟨a,sb,ha⟩=>?_) hf)
 have hne:C≠a:=by
  rcases ha with e|e
  ·rw[e]
   exact fpC.2.1
  ·exact Ne.symm (fpC.2.2.2.2.1 x a e)
 refine⟨m,hn.sameBut sb hne,λh' hs=>?_⟩
 exact⟨_,H',I2.turned (t':=s2.toks) (λb o hb e=>(hs.2 b hb).trans e) fpC.1 fpC.2.1 fpC.2.2.2.1 fpC.2.2.2.2.1 fpC.2.2.2.2.2,q⟩
end
end L2
namespace L2
open PySem PySem.Spec PyProof.Rows
structure QE(X:Cx)(e:Expr)(t:TE):Prop where
 u:PE X e t
structure QT(X:Cx)(e:Expr)(t:TT):Prop where
 u:PT X e t
structure QW(X:Cx)(e:Expr)(t:TT):Prop where
 u:PW X e t
structure QA(X:Cx)(es:List Expr)(t:TA):Prop where
 u:PA X es t
structure QS(X:Cx)(st:Stmt)(t:TS):Prop where
 u:PS X st t
structure QSs(X:Cx)(st:List Stmt)(t:TS):Prop where
 u:PSs X st t
structure QI(X:Cx)(tg iter:Expr)(t:TI):Prop where
 u:PI X tg iter t
structure QG(X:Cx)(tg:Expr)(t:TG):Prop where
 u:PG X tg t
structure QGs(X:Cx)(ts:List Expr)(t:TGs):Prop where
 u:PGs X ts t
structure QO(X:Cx)(e:Option Expr)(t:TO):Prop where
 u:PO X e t
structure QF(X:Cx)(ifs:List Expr)(t:TF):Prop where
 u:PF X ifs t
structure QC(X:Cx)(e:Expr)(t:TE):Prop where
 u:PCp X e t
section
variable {X:Cx} {st:Stmt} {rest:List Stmt} {t u:TS} {a b c e o i:Expr} {ta tb tc te to ti:TE} {es:List Expr} {tA:TA} {tT tU:TT} {pos pos' p p2 apos cpos:Pos} {x name:Str} {n:Nat}
theorem qyp:QSs X [] q2o:=⟨qx8⟩
theorem qyq(h:QS X st t):QSs X [st] t:=⟨qx9 h.u⟩
theorem qt7(h:QS X st t)(r:QSs X rest u):QSs X (st::rest) (tSeq t u):=⟨qty h.u r.u⟩
theorem qis(h:QE X e te)(hs:swapsWith e none pos.line X.env=pure false:=by rfl):QS X (.Expr e pos) (q2n te):=⟨qx6 h.u hs⟩
theorem qne(h:QE X e te):QS X (.Return (some e) pos) (tRet te):=⟨q1k h.u⟩
theorem q3z{a b:List Stmt}(hc:QT X c tT)(ha:QSs X a t)(hb:QSs X b u):QS X (.If c a b pos) (tIfS tT t u):=⟨q3s hc.u ha.u hb.u⟩
theorem qnf{i:Nat}(hN:X.N.Nodup)(hi:X.N[i]?=some x)(hx:Loc X.env.scope x)(h:QE X e te)(hs:swapsWith e (some (.Name x pos')) pos.line X.env=pure false:=by rfl)
  (hf:X.fn x=true\/X.env.scope.names.lookup x=some .local:=by first|exact .inl rfl|exact .inr rfl|assumption):QS X (.Assign [.Name x pos'] e pos) (tAsg te (qjp i)):=⟨q1l hN hi hx h.u hs hf⟩
theorem qyo{i:Nat}(hN:X.N.Nodup)(hi:X.N[i]?=some x)(hx:Loc X.env.scope x)(h:QC X e te)(hs:swapsWith e (some (.Name x pos')) pos.line X.env=pure true:=by rfl)
  (hf:X.fn x=true\/X.env.scope.names.lookup x=some .local:=by first|exact .inl rfl|exact .inr rfl|assumption):QS X (.Assign [.Name x pos'] e pos) (tAsg te (qjp i)):=⟨qx7 hN hi hx h.u hs hf⟩
theorem qvp{tg:Expr}{g:TG}(h:QE X e te)(hg:QG X tg g)(hs:swapsWithSole [tg] e pos.line X.env=pure false:=by rfl)(hw:swappedStores [tg] e X.env=pure none:=by rfl)
  (h1:(assignEach [tg] X.env).map (·.2)=[assign tg X.env]:=by rfl):QS X (.Assign [tg] e pos) (tAsg te g):=⟨q1h h.u hg.u hs hw h1⟩
theorem qvq{tg iter:Expr}{body:List Stmt}{wi:TI}{g:TG}(hp:PassesOwn (model X.prog X.w) X.A X.env X.xe)(hc:X.calm=true)(hi:QI X tg iter wi)(hg:QG X tg g)(hb:QSs X body t)
  (hs:∀x,foldedSetIterable iter X.env x=pure x:=by intro _;rfl):QS X (.For tg iter body [] pos) (tFor wi g t):=⟨q1j hp hc hi.u hg.u hb.u hs⟩
theorem qt6{body:List Stmt}(hp:PassesOwn (model X.prog X.w) X.A X.env X.xe)(hc:QT X c tT)(hb:QSs X body t):QS X (.While c body [] pos) (qv0 tT t):=⟨qtx hp hc.u hb.u⟩
theorem qvm{k:Int}{j:Nat}:QE X (.Constant (.int k) j pos) (tC (.int k)):=⟨q07⟩
theorem q3u{k:Bool}{j:Nat}:QE X (.Constant (.bool k) j pos) (tC (.bl k)):=⟨q3l⟩
theorem q1x{z:Str}{j:Nat}:QE X (.Constant (.str z) j pos) (tC (.str z)):=⟨q1a⟩
theorem qv(i:Nat)(hN:X.N[i]?=some x:=by rfl)(hv:Vis X.env.scope x:=by first|exact Or.inl rfl|exact Or.inr (Or.inl rfl)|exact Or.inr (Or.inr rfl))(hd:(x==("__debug__" : Str))=false:=by decide)
  (hcd:(x==("__classdict__" : Str))=false:=by decide):QE X (.Name x pos) (tVar i):=⟨q1c hN hv hd hcd⟩
theorem qrd{v:V}{w:Value}(hg:Gl X x)(hm:X.mg x=some w)(r:RelV v w)(hd:(x==("__debug__" : Str))=false:=by decide):QE X (.Name x pos) (tC v):=⟨qxy hg hm r hd⟩
theorem qyd{v:V}{w:Value}(hg:Gl X x)(hm:X.mg x=none)(hv:bootBuiltins x=some w)(r:RelV v w)(hn:x≠"__name__" := by decide)(hd:(x==("__debug__" : Str))=false:=by decide):QE X (.Name x pos) (tC v):=⟨qxu hg hm hv r hn hd⟩
theorem q3v{op:Operator}{r:R2}(ho:OpR X (binaryOp op) r)(ha:QE X a ta)(hb:QE X b tb):QE X (.BinOp a op b pos) (tOp r ta tb):=⟨q3o ho ha.u hb.u⟩
theorem q3x{op:UnaryOp}{r:V->Hp->VK->Prop}(ho:UnR X (unaryOp op) r)(ha:QE X a ta):QE X (.UnaryOp op a pos) (tUn r ta):=⟨q3q ho ha.u⟩
theorem qyf{op:CmpOp}{r:R2}(ho:OpR X (compareOp op) r)(ha:QE X a ta)(hb:QE X b tb)(hm:behindInMarks op b=false):QE X (.Compare a [op] [b] pos) (tOp r ta tb):=⟨qxw ho ha.u hb.u hm⟩
theorem q1w{op:BoolOp}(h:QE X a ta):QE X (.BoolOp op [a] pos) ta:=⟨q09 h.u⟩
theorem q1s(ha:QE X a ta)(hb:QE X (.BoolOp .And (b::es) pos) tb):QE X (.BoolOp .And (a::b::es) pos) (q2k ta tb):=⟨q04 ha.u hb.u⟩
theorem q3w(ha:QE X a ta)(hb:QE X (.BoolOp .Or (b::es) pos) tb):QE X (.BoolOp .Or (a::b::es) pos) (tOrV ta tb):=⟨q3p ha.u hb.u⟩
theorem qt2(hc:QT X c tT)(ha:QE X a ta)(hb:QE X b tb):QE X (.IfExp c a b pos) (tIf tT ta tb):=⟨qts hc.u ha.u hb.u⟩
theorem q1y{k:Nat}(h:QA X es tA):QE X (.Tuple es k pos) (tTup tA):=⟨q1b h.u⟩
theorem q1v(h:QA X es tA):QE X (.List es pos) (tLst tA):=⟨q08 h.u⟩
theorem qt3{lo hi:Option Expr}{tl th:TO}{r:V->Option Int->Option Int->Hp->VK->Prop}(hr:SlR X r)(he:QE X e te)(hl:QO X lo tl)(hu:QO X hi th):QE X (.Subscript e (.Slice lo hi none p2) pos) (tSl r te tl th):=⟨qtt hr he.u hl.u hu.u⟩
theorem q1u{r:R2}(hr:IxR X r)(ha:QE X a ta)(hb:QE X b tb)(hs:qh2 b):QE X (.Subscript a b pos) (tOp r ta tb):=⟨q3n hr ha.u hb.u hs⟩
theorem qyl:QO X none qrr:=⟨qx2⟩
theorem qym(h:QE X e te):QO X (some e) (q2p te):=⟨qx3 h.u⟩
theorem qeg:QA X [] tNil:=⟨q03⟩
theorem qac(ha:QE X e te)(hr:QA X es tA)(hs:qaq e=true:=by rfl):QA X (e::es) (qup te tA):=⟨pac ha.u hr.u hs⟩
theorem qrc{k:Nat}{ps:List Str}{sp:Sp}(C:Cal X.prog X.w X.K X.mg X.base k x ps sp)(hr:Room k X.A)(hg:Gl X x)(ha:QA X (e::es) tA)(hp:(e::es).all qaq=true:=by rfl)(hdb:(x==("__debug__" : Str))=false:=by decide) :
  QE X (.Call (.Name x p) (e::es) [] pos) (quo sp [] E0 tA):=⟨q05 C hr hg ha.u hp hdb⟩
theorem qcb{id:String}{r:List V->Hp->VK->Prop}(hc:CallR X (.builtin id) r)(hg:Gl X x)(hm:X.mg x=none)(hv:bootBuiltins x=some (.builtin id))(ha:QA X (e::es) tA)(hp:(e::es).all qaq=true:=by rfl)(hn:x≠"__name__" := by decide)
  (hdb:(x==("__debug__" : Str))=false:=by decide):QE X (.Call (.Name x p) (e::es) [] pos) (tCB r tA):=⟨pcb hc hg hm hv ha.u hp hn hdb⟩
theorem qct{T:String}{r:List V->Hp->VK->Prop}(hc:CallR X (.type T) r)(hg:Gl X x)(hm:X.mg x=none)(hv:bootBuiltins x=some (.type T))(ha:QA X (e::es) tA)(hp:(e::es).all qaq=true:=by rfl)(hn:x≠"__name__" := by decide)
  (hdb:(x==("__debug__" : Str))=false:=by decide):QE X (.Call (.Name x p) (e::es) [] pos) (tCB r tA):=⟨pct hc hg hm hv ha.u hp hn hdb⟩
theorem qbm{T id:String}{r:V->List V->Hp->VK->Prop}(pa:PlainAttrs T)(slot:Slot T name id)(hty:typeOf (.builtin id)=pure (.type "method_descriptor"))(hm:MtR X id r)(ho:QE X o to)(ha:QA X (e::es) tA)(hp:(e::es).all qaq=true:=by rfl)
  (hfew:decide ((e::es).length<30)=true:=by rfl) (hbase:attributeBase o name X.env (eval o X.env)=eval o X.env:=by rfl) (hline:(apos.endLine==cpos.line)=true:=by rfl) :
  QE X (.Call (.Attribute o name apos) (e::es) [] cpos) (tBM X.K T r to tA):=⟨pbm pa slot hty hm ho.u ha.u hp hfew hbase hline⟩
theorem qyr{op:CmpOp}{r:R2}(ho:OpR X (compareOp op) r)(ha:QE X a ta)(hb:QE X b tb)(hm:behindInMarks op b=false):QT X (.Compare a [op] [b] pos) (quq (tOp r ta tb)):=⟨qya ho ha.u hb.u hm⟩
theorem qt8{op op':CmpOp}{r r':R2}(ho:OpR X (compareOp op) r)(ho':OpR X (compareOp op') r')(ha:QE X a ta)(hb:QE X b tb)(hc:QE X c tc)(hm:lastMarks [op,op'] [b,c]=false:=by with_unfolding_all rfl) :
  QT X (.Compare a [op,op'] [b,c] pos) (quq (qrp r r' ta tb tc)):=⟨qtz ho ho' ha.u hb.u hc.u hm⟩
theorem q14(h:QT X a tT):QT X (.UnaryOp .Not a pos) (tNot tT):=⟨q1n h.u⟩
theorem q15(h:QE X e te)(he:∀whole,isTrue e X.env whole=(do let v ←whole;standAt e.pos;holding [v] (truthy v)):=by intro _;rfl):QT X e (tB te):=⟨q1o h.u he⟩
theorem qys(h:QT X a tT):QW X (.BoolOp .And [a] pos) tT:=⟨qyb h.u⟩
theorem q17(h:QT X a tT):QW X (.BoolOp .Or [a] pos) tT:=⟨q1r h.u⟩
theorem q16(ha:QT X a tT)(hb:QW X (.BoolOp .And (b::es) pos) tU):QW X (.BoolOp .And (a::b::es) pos) (tAnd tT tU):=⟨q1q ha.u hb.u⟩
theorem q30(ha:QT X a tT)(hb:QW X (.BoolOp .Or (b::es) pos) tU):QW X (.BoolOp .Or (a::b::es) pos) (tOr tT tU):=⟨q3t ha.u hb.u⟩
theorem qw_t(h:QW X e tT):QT X e tT:=⟨h.u.pt⟩
theorem q3y{tg:Expr}(hg:Gl X "range")(hm:X.mg "range" = none)(ha:QA X [a] tA)(hp:qaq a=true:=by rfl):QI X tg (.Call (.Name "range" p) [a] [] pos) (qwx tA):=⟨q3r hg hm ha.u hp⟩
theorem qyh{i:Nat}(hN:X.N.Nodup)(hi:X.N[i]?=some x)(hx:Loc X.env.scope x)(hf:X.fn x=true\/X.env.scope.names.lookup x=some .local:=by first|exact .inl rfl|exact .inr rfl|assumption):QG X (.Name x pos) (qjp i):=⟨qxz hN hi hx hf⟩
theorem qyi:QGs X [] gNil:=⟨qx0⟩
theorem qt4{g:TG}{gs:TGs}(h1:QG X e g)(h2:QGs X es gs)(hs:(assignEach (e::es) X.env).map (·.2)=assign e X.env::(assignEach es X.env).map (·.2):=by rfl):QGs X (e::es) (q0a g gs):=⟨qtu h1.u h2.u hs⟩
theorem q1z{k:Nat}{gs:TGs}{n:Nat}(hc:X.calm=true)(h:QGs X es gs)(hn:(assignEach es X.env).length=n:=by rfl)(hst:(assignEach es X.env).findIdx? (·.1)=none:=by rfl):QG X (.Tuple es k pos) (gTup X.K n gs):=⟨q1e hc h.u hn hst⟩
theorem qvn{s:TSet}(ho:QE X o to)(hi:QE X i ti)(hs:PSet X s) (ha:∀v,assign (.Subscript o i pos) X.env v=(do
   let ov ←holding [v] (eval o X.env)
   let iv ←holding [v,ov] (eval i X.env)
   standAt pos
   holding [v,ov,iv] (setItem ov iv v)
   release [v,ov,iv] []):=by intro _;rfl):QG X (.Subscript o i pos) (gSub to ti s):=⟨q1d ho.u hi.u hs ha⟩
theorem qyk:QF X [] fNil:=⟨qx1⟩
theorem qyc{tg iter elt:Expr}{ifs:List Expr}{csc:Scope}{NB M:List Str}{wi:TI}{g:TG}{ti:TF}(hi:QI X tg iter wi)(hc:X.calm=true)(S:CompScope X.env.scope X.N NB M csc)
  (hg:∀cl C s₀ H₀ fp pn,QG (cxC X NB csc cl C s₀ H₀ fp pn) tg g) (hf:∀cl C s₀ H₀ fp pn,QF (cxC X NB csc cl C s₀ H₀ fp pn) ifs ti) (he:∀cl C s₀ H₀ fp pn,QE (cxC X NB csc cl C s₀ H₀ fp pn) elt te)
  (hs:∀x,foldedSetIterable iter X.env x=pure x:=by intro _;rfl):QC X (.ListComp elt [⟨tg,iter,ifs,0⟩] csc pos) (qy6 wi g ti te M.length) :=
 ⟨qxt hi.u hc S (λcl C s₀ H₀ fp pn=>(hg cl C s₀ H₀ fp pn).u) (λcl C s₀ H₀ fp pn=>(hf cl C s₀ H₀ fp pn).u) (λcl C s₀ H₀ fp pn=>(he cl C s₀ H₀ fp pn).u) hs⟩
theorem qc_e(h:QC X e te):QE X e te:=⟨h.u.pe⟩
end
theorem Fun.okQ{P:Program}{w:World}{K:PySem.W.Frag}{mg:Str->Option Value}{base:Heap}{x qual:Str}{st:Stmt}{f:Addr}{fd:FuncData}{N ps:List Str}{k:Nat}{sp:Sp}(F:Fun K x qual st f fd)(S:FnScope N ps (qab st))(len:∀vs H Q E,sp vs H Q E->vs.length=ps.length)
  (hbody:∀(cdv:Value) (A:Around) (outer:List Env) (s:Shared) (H:Hp) (vs:List V) (Q:VK) (E:XK),Room k (A.deeper (envOfC qual (qab st) s.heap.objs.size f cdv))->sp vs H Q E ->
   ∃t,QSs (cxOf CX0 P w K mg base N qual (qab st) f cdv A outer s H E).nox (qal st) t/\t { nx:=λ_ H'=>Q .non H',rt:=Q } (start N vs) H):FnOk P w K mg base CX0 (k+1) f fd ps sp :=
 F.ok S len λcdv A outer s H vs Q E hr hsp=>let ⟨t,h,q⟩:=hbody cdv A outer s H vs Q E hr hsp;⟨t,h.u,q⟩
end L2
namespace L2
open PySem PySem.Spec PyProof.Rows
def FlR(h:Heap)(a:Addr)(C:Value):Prop:=∃oa vs,h.get? a=some oa/\(oa.cls=C/\oa.dict=none)/\oa.data=.fields vs/\vs[1]?=some .none
def FlT(h:Heap)(a:Addr)(C:Value)(T:Addr)(fl:Value):Prop :=
 ∃oa vs oT ts,h.get? a=some oa/\(oa.cls=C/\oa.dict=none)/\oa.data=.fields vs/\vs[1]?=some (.ref T)/\T≠a/\h.get? T=some oT/\oT.data=.fields ts/\ts[3]?=some fl
def Fly(h:Heap)(a:Addr)(C:Value):List Addr->Prop
|[]=>FlR h a C
|T::r=>r=[]/\FlT h a C T .none
theorem qqq(o:Obj)(f:Array Value->Array Value):(o.mapFields f).dict=o.dict:=by
 cases o with|mk c d dt sl=>cases dt<;>rfl
structure Nk(fs ch:List Addr)(h g:Heap):Prop where
 keep:∀b o,b∉fs->b∉ch->h.get? b=some o->g.get? b=some o
 slot:∀b o,b∈fs->b∉ch->h.get? b=some o->∃sl,g.get? b=some { o with slots:=sl }
 there:∀b o,h.get? b=some o->∃u,g.get? b=some u
theorem FlT.thing{h:Heap}{a T:Addr}{C fl:Value}(f:FlT h a C T fl):∃oa,h.get? a=some oa/\(oa.cls=C/\oa.dict=none)/\PySem.W.notCls oa=true:=by
 obtain⟨oa,_,_,_,ha,hc,hd,_⟩:=f
 exact⟨oa,ha,hc,by unfold PySem.W.notCls;rw[hd]⟩
theorem FlT.there{h:Heap}{a T:Addr}{C fl:Value}(f:FlT h a C T fl):∃oa,h.get? a=some oa/\oa.cls=C:=by
 obtain⟨oa,ha,hc,_⟩:=f.thing
 exact⟨oa,ha,hc.1⟩
theorem qgv{h:Heap}{a b:Addr}{oa o:Obj}{vs:Array Value}{i:Nat}{x:Value}(ha:h.get? a=some oa)(hd:oa.data=.fields vs)(e:h.get? b=some o):∃u,(h.update a (Obj.mapFields (·.setIfInBounds i x))).get? b=some u:=by
 by_cases hb:b=a
 ·subst hb
  exact⟨_,Heap.get?_update_self _ ha (Obj.isFreed_of_fields (Obj.data_mapFields hd _))⟩
 ·exact⟨o,by rw[Heap.get?_update_other _ _ (Ne.symm hb)];exact e⟩
section
variable {M:Model} {A:Around} {E:Value->Shared->Prop} {s:Shared} {base:Heap} {env:Env} {outer:List Env} {L a T:Addr} {C:Value}
theorem qhq{oa:Obj}{vs:Array Value}{head:Value}{more:Bool}{Q:Unit->Shared->Prop}(hfr:A.frames=some (env::outer))(hl:s.heap.FunFrames base (env::outer))(hf:env.frame=some L)
  (ha:s.heap.get? a=some oa) (hdn:oa.dict=none) (hd:oa.data=.fields vs) (hz:1<vs.size) (k:∀g T,Nk (frs (env::outer)) [a] s.heap g->s.heap.objs.size<=T->FlT g a oa.cls T (rawInt L)->Q () { s with heap:=g }) :
  wpAny M A (do let fr ←frameOf env;let pl ←entryPlaceOf L more;let b ←EntryCells.newEntry head fr .none (rawInt L) .none pl;setField (.ref a) 1 b) Q E s:=by
 have nofr:a∉frs (env::outer):=λhm=>by
  obtain⟨_,o,ho,no⟩:=hl.mem hm
  rw[ha] at ho
  cases ho
  exact no vs hd
 refine wpAny_bind (wpAny_frameOf_fun hfr hl hf λg1 so=>wpAny_bind (wpAny_entryPlaceOf λpl ip=>?_))
 unfold EntryCells.newEntry newFields
 refine wpAny_bind (wpAny_newObj_type ?_ (ip.sizeOk5 _ _ _ _ _))
 have a1:g1.get? a=some oa:=(so.2.1 a nofr).trans ha
 have lt1:a<g1.objs.size:=Heap.lt_size a1
 refine wpAny_setField (Heap.get?_push_of_some _ a1) hd hz (k _ g1.objs.size ⟨λb o nb nc e=>?_,λb o mb nc e=>?_,λb o e=>?_⟩ (by rw[so.1];exact Nat.le_refl _) ?_)
 ·have hb:b≠a:=λz=>nc (by simp[z])
  rw[Heap.get?_update_other _ _ (Ne.symm hb)]
  exact Heap.get?_push_of_some _ ((so.2.1 b nb).trans e)
 ·have hb:b≠a:=λz=>nc (by simp[z])
  obtain⟨sl,q⟩:=so.2.2 b o e
  exact⟨sl,by rw[Heap.get?_update_other _ _ (Ne.symm hb)];exact Heap.get?_push_of_some _ q⟩
 ·obtain⟨sl,q⟩:=so.2.2 b o e
  exact qgv (Heap.get?_push_of_some _ a1) hd (Heap.get?_push_of_some _ q)
 ·have hne:g1.objs.size≠a:=Nat.ne_of_gt lt1
  refine⟨_,_,_,_,Heap.get?_update_self _ (Heap.get?_push_of_some _ a1) (Obj.isFreed_of_fields (Obj.data_mapFields hd _)),⟨Obj.cls_mapFields _ _,(qqq _ _).trans hdn⟩,Obj.data_mapFields hd _,(by simp[hz]),hne,(Heap.get?_update_other _ _ (Ne.symm hne)).trans (Heap.get?_push_size g1 rfl),rfl,?_⟩
  first
  |(simp;done)
  |(rcases ip with rfl|⟨_,_,_,_,_,_,_,rfl⟩<;>simp)
theorem qtl{Q:Unit->Shared->Prop}(hfr:A.frames=some (env::outer))(hl:s.heap.FunFrames base (env::outer))(hf:env.frame=some L)(r:FlR s.heap a C)
  (k:∀g T,Nk (frs (env::outer)) [a] s.heap g->s.heap.objs.size<=T->FlT g a C T (rawInt L)->Q () { s with heap:=g }):wpAny M A (noteFrame (.ref a) env) Q E s:=by
 obtain⟨oa,vs,ha,⟨hc,hdn⟩,hd,h1⟩:=r
 subst hc
 unfold noteFrame
 simp only[hf]
 refine wpAny_bind (wpAny_field ha hd h1 ?_)
 rw[if_neg (by decide)]
 exact qhq hfr hl hf ha hdn hd (Array.getElem?_eq_some_iff.mp h1).1 k
theorem qxi{Q:Unit->Shared->Prop}(hfr:A.frames=some (env::outer))(hl:s.heap.FunFrames base (env::outer))(hf:env.frame=some L)(r:FlT s.heap a C T .none)
  (k:∀g U,Nk (frs (env::outer)) [a,T] s.heap g->s.heap.objs.size<=U->FlT g a C U (rawInt L)->Q () { s with heap:=g }):wpAny M A (noteFrame (.ref a) env) Q E s:=by
 obtain⟨oa,vs,oT,ts,ha,⟨hc,hdn⟩,hd,h1,ne,hT,hdT,h3⟩:=r
 subst hc
 unfold noteFrame
 simp only[hf]
 refine wpAny_bind (wpAny_field ha hd h1 ?_)
 rw[if_pos (show (Value.ref T != Value.none)=true by simp)]
 refine wpAny_bind (wpAny_field hT hdT h3 ?_)
 rw[if_neg (show ¬ ((Value.none==rawInt L)=true) by simp[rawInt])]
 refine wpAny_bind (wpAny_setField hT hdT (Array.getElem?_eq_some_iff.mp h3).1 ?_)
 have oth:∀b,b≠T->(s.heap.update T (Obj.mapFields (·.setIfInBounds 3 Value.none))).get? b=s.heap.get? b:=λb hb=>Heap.get?_update_other _ _ (Ne.symm hb)
 have hl2:(s.heap.update T (Obj.mapFields (·.setIfInBounds 3 Value.none))).FunFrames base (env::outer):=hl.of_keeps λb o e no=>⟨o,(oth b λz=>by subst z;rw[hT] at e;cases e;exact no ts hdT).trans e,rfl⟩
 refine qhq (s:={ s with heap:=s.heap.update T (Obj.mapFields (·.setIfInBounds 3 Value.none)) }) hfr hl2 hf ((oth a (Ne.symm ne)).trans ha) hdn hd (Array.getElem?_eq_some_iff.mp h1).1 λg U nk sz fl=>k g U ⟨λb o nb nc e=>?_,λb o mb nc e=>?_,λb o e=>?_⟩ ?_ fl
 ·have hb:b≠T:=λz=>nc (by simp[z])
  exact nk.keep b o nb (λz=>nc (by simp at z;simp[z])) ((oth b hb).trans e)
 ·have hb:b≠T:=λz=>nc (by simp[z])
  exact nk.slot b o mb (λz=>nc (by simp at z;simp[z])) ((oth b hb).trans e)
 ·obtain⟨u,q⟩:=qgv (i:=3) (x:=Value.none) hT hdT e
  exact nk.there b u q
 ·have e:(s.heap.update T (Obj.mapFields (·.setIfInBounds 3 Value.none))).objs.size=s.heap.objs.size:=Heap.size_after_update ..
  rw[←e]
  exact sz
theorem qge{fl:Value}{Q:Unit->Shared->Prop}(r:FlT s.heap a C T fl)(k:∀g,Nk [] [T] s.heap g->FlT g a C T .none->g.objs.size=s.heap.objs.size->Q () { s with heap:=g }):wpAny M A (setFlight (.ref a) none) Q E s:=by
 obtain⟨oa,vs,oT,ts,ha,hc,hd,h1,ne,hT,hdT,h3⟩:=r
 have h3z:=(Array.getElem?_eq_some_iff.mp h3).1
 have oth:∀b,b≠T->(s.heap.update T (Obj.mapFields (·.setIfInBounds 3 Value.none))).get? b=s.heap.get? b:=λb hb=>Heap.get?_update_other _ _ (Ne.symm hb)
 refine wpAny_setFlight_none ha hd h1 hT hdT h3z (k _ ⟨λb o _ nc e=>(oth b λz=>nc (by simp[z])).trans e,λb o mb _ _=>(nomatch mb),λb o e=>qgv hT hdT e⟩ ?_ (Heap.size_after_update ..))
 exact⟨oa,vs,_,_,(oth a (Ne.symm ne)).trans ha,hc,hd,h1,ne,Heap.get?_update_self _ hT (Obj.isFreed_of_fields (Obj.data_mapFields hdT _)),Obj.data_mapFields hdT _,by simp[h3z]⟩
theorem qjo{ts:List Addr}{Q:Unit->Shared->Prop}(hfr:A.frames=some (env::outer))(hl:s.heap.FunFrames base (env::outer))(hf:env.frame=some L)(r:Fly s.heap a C ts)
  (k:∀g U,Nk (frs (env::outer)) (a::ts) s.heap g->s.heap.objs.size<=U->FlT g a C U .none->Q () { s with heap:=g }) :
  wpAny M A (noteFrame (.ref a) env) (λ_ s2=>wpAny M A (setFlight (.ref a) none) Q E s2) E s:=by
 have fin:∀(ch:List Addr) (g:Heap) (U:Addr),(∀b∈ch,b∈a::ts)->Nk (frs (env::outer)) ch s.heap g->s.heap.objs.size<=U->FlT g a C U (rawInt L)->wpAny M A (setFlight (.ref a) none) Q E { s with heap:=g }:=λch g U sub nk sz fl=>by
  refine qge (s:={ s with heap:=g }) fl λg2 nk2 fl2 _=>k g2 U ⟨λb o nb nc e=>?_,λb o mb nc e=>?_,λb o e=>?_⟩ sz fl2
  ·have hU:b≠U:=Nat.ne_of_lt (Nat.lt_of_lt_of_le (Heap.lt_size e) sz)
   exact nk2.keep b o (by simp) (by simpa using hU) (nk.keep b o nb (λz=>nc (sub b z)) e)
  ·have hU:b≠U:=Nat.ne_of_lt (Nat.lt_of_lt_of_le (Heap.lt_size e) sz)
   obtain⟨sl,q⟩:=nk.slot b o mb (λz=>nc (sub b z)) e
   exact⟨sl,nk2.keep b _ (by simp) (by simpa using hU) q⟩
  ·obtain⟨u,q⟩:=nk.there b o e
   exact nk2.there b u q
 cases ts with
|nil=>exact qtl hfr hl hf r λg U nk sz fl=>fin [a] g U (λb hb=>by simpa using hb) nk sz fl
|cons T r' =>
  obtain⟨hr,r⟩:=r
  subst hr
  exact qxi hfr hl hf r λg U nk sz fl=>fin [a,T] g U (λb hb=>by simpa using hb) nk sz fl
end
section
variable {X:Cx} {pins:List (Addr×Obj)} {σ:St} {H:Hp} {s:Shared} {a:Addr} {ts:List Addr} {C:Addr}
def FpN(X:Cx)(pins:List (Addr×Obj))(H:Hp)(b:Addr):Prop :=
 H b=none/\b≠X.env.locals/\b∉X.fs/\X.s₀.heap.get? b=none/\(∀x c,X.env.cells.lookup x=some c->c≠b)/\∀p∈X.pn++pins,p.1≠b
theorem Inv.fpN{H':Hp}{b:Addr}(I:Inv X pins σ H s)(hx:X.ex=[])(hb:s.heap.get? b=none)(hn:H' b=none):FpN X pins H' b:=by
 have no:∀(d:Addr) (o:Obj),X.s₀.heap.get? d=some o->d≠b:=λd o e z=>by
  obtain⟨o',e'⟩:=I.base.there d o e (by rw[hx];exact λy=>nomatch y)
  rw[z,hb] at e'
  cases e'
 refine⟨hn,λz=>?_,λz=>?_,?_,λx c e z=>?_,λp hp z=>?_⟩
 ·obtain⟨m,⟨o,_,_,ho,_⟩,_⟩:=I.loc
  rw[←z,hb] at ho
  cases ho
 ·obtain⟨_,o,ho,_⟩:=I.ok.funs.mem z
  exact no b o ho rfl
 ·cases q:X.s₀.heap.get? b with
 |none=>rfl
 |some o=>exact absurd rfl (no b o q)
 ·obtain⟨v,o,ho,_⟩:=I.cell x c e
  rw[z,hb] at ho
  cases ho
 ·have e:=(I.pin p hp).1
  rw[z,hb] at e
  cases e
theorem Inv.exMore{ch:List Addr}(I:Inv X pins σ H s)(f:∀b∈ch,FpN X pins H b):Inv { X with ex:=ch++X.ex } pins σ H s:=by
 refine⟨⟨I.ok.mod,I.ok.kind,I.ok.glob,I.ok.blt,I.ok.above,I.ok.inj,I.ok.has,I.ok.cab,I.ok.hd,I.ok.frames,I.ok.stk,λb hb=>?_,I.ok.bs,I.ok.bsz,λb o e hb=>?_,λb hb=>?_,I.ok.funs,I.ok.frf⟩,I.os,I.bare,
  ⟨λb o e n h1 h2=>?_,λb o e n h1 h2=>?_,λb o e n h2=>?_,λb o e h2=>?_,I.base.tups,I.base.frzs,I.base.tbls⟩,I.loc,I.cell,I.free,I.freeC,I.pin,I.hok,I.len⟩
 ·rcases List.mem_append.mp hb with z|z
  ·exact⟨(f b z).2.1,(f b z).2.2.2.2.1⟩
  ·exact I.ok.exf b z
 ·rcases List.mem_append.mp hb with z|z
  ·have q:=(I.ok.bs b o e).1
   rw[(f b z).2.2.2.1] at q
   cases q
  ·exact I.ok.noex b o e z
 ·rcases List.mem_append.mp hb with z|z
  ·exact(f b z).2.2.1
  ·exact I.ok.exfs b z
 ·exact I.base.keep b o e n h1 λz=>h2 (List.mem_append.mpr (.inr z))
 ·exact I.base.slot b o e n h1 λz=>h2 (List.mem_append.mpr (.inr z))
 ·exact I.base.free b o e n λz=>h2 (List.mem_append.mpr (.inr z))
 ·exact I.base.there b o e λz=>h2 (List.mem_append.mpr (.inr z))
theorem Inv.exLess{ch:List Addr}(ok:X.Ok)(f:∀b∈ch,X.s₀.heap.get? b=none)(I:Inv { X with ex:=ch++X.ex } pins σ H s):Inv X pins σ H s:=by
 have no:∀(b:Addr) (o:Obj),X.s₀.heap.get? b=some o->b∉X.ex->b∉ch++X.ex:=λb o e hx z=>by
  rcases List.mem_append.mp z with z|z
  ·rw[f b z] at e
   cases e
  ·exact hx z
 exact⟨ok,I.os,I.bare,⟨λb o e n h1 h2=>I.base.keep b o e n h1 (no b o e h2),λb o e n h1 h2=>I.base.slot b o e n h1 (no b o e h2),λb o e n h2=>I.base.free b o e n (no b o e h2),λb o e h2=>I.base.there b o e (no b o e h2),I.base.tups,I.base.frzs,I.base.tbls⟩,
  I.loc,I.cell,I.free,I.freeC,I.pin,I.hok,I.len⟩
theorem Inv.noted{g:Heap}(I:Inv X pins σ H s)(fa:∀b∈a::ts,FpN X pins H b)(nk:Nk (frs X.stack) (a::ts) s.heap g):Inv X pins σ H { s with heap:=g }:=by
 have trk:∀c u,H c=some u->c∉frs X.stack/\c∉a::ts:=λc u e=>⟨λz=>(by rw[I.stkFree c z] at e;cases e),λz=>(by rw[(fa c z).1] at e;cases e)⟩
 have hok:HOk X.prog X.w H g:=λb u e=>(I.hok b u e).stay (λc v hc q=>by
  rcases hc with z|z
  ·rw[z] at q ⊢
   exact nk.keep b v (trk b u e).1 (trk b u e).2 q
  ·exact nk.keep c v (trk c _ z).1 (trk c _ z).2 q) (λ_ q=>q) λ_ _ q=>q
 have I1:=I.exMore fa
 refine Inv.exLess I.ok (λb hb=>(fa b hb).2.2.2.1) (I1.call (g':=s.gens) (t':=s.toks) (d':=s.drawn) (ch:=a::ts) ⟨λb o e _ hb hx=>nk.keep b o hb hx e,λb o e _ hb hx=>nk.slot b o hb hx e,λ_ _ _ n _=>n,λb o e _=>nk.there b o e,λ_ _ q=>q,λ_ _ _ q=>q,λ_ ps q=>⟨#[],by rw[q];simp⟩⟩ hok I.bare
  λb hb=>⟨.inl (List.mem_append.mpr (.inl hb)),(fa b hb).2.1,(fa b hb).2.2.2.2.1,(fa b hb).2.2.2.2.2⟩)
def FlyX(X:Cx)(pins:List (Addr×Obj))(H:Hp)(s:Shared)(a C:Addr):Prop:=∃ts,(∀b∈a::ts,FpN X pins H b)/\Fly s.heap a (.ref C) ts
def Out(X:Cx)(EX:St->XK):Prop:=∀(pins:List (Addr×Obj)) (σ:St) (H:Hp) (s:Shared) (a C:Addr),Inv X pins σ H s->FlyX X pins H s a C->EX σ (.ref C) none H->X.xe (.ref a) s
end
def CXR(P:Program)(w:World):CXT:=λouter H s E e s'=>∃a C H' T,e=.ref a/\s'.os=s.os/\AllBare s'.gens/\Un (frs outer) [] H H' s.heap s'.heap/\HOk P w H' s'.heap/\FlT s'.heap a (.ref C) T .none /\
 s.heap.get? a=none/\s.heap.get? T=none/\H' a=none/\H' T=none/\E (.ref C) none H'
theorem Out.pass{X:Cx}{EX:St->XK}(o:Out X EX)(hx:X.ex=[]){pins:List (Addr×Obj)}{σ:St}{H:Hp}{s s':Shared}{e:Value}(I:Inv X pins σ H s)(h:CXR X.prog X.w X.stack H s (EX σ) e s'):X.xe e s':=by
 obtain⟨a,C,H',T,rfl,ho,hg,u,hok,fl,sa,sT,na,nT,q⟩:=h
 have I2:Inv X pins σ H' s':=I.call' (ch:=[]) ho (u.mono (λ_ z=>z) λ_ z=>z) hok hg λb hb=>nomatch hb
 refine o pins σ H' s' a C I2 ⟨[T],λb hb=>?_,rfl,fl⟩ q
 rcases List.mem_cons.mp hb with z|z
 ·subst z
  exact I.fpN hx sa na
 ·have z':b=T:=by simpa using z
  subst z'
  exact I.fpN hx sT nT
section
variable {P:Program} {w:World} {K:PySem.W.Frag} {mg:Str->Option Value} {base:Heap}
theorem qxp{N:List Str}{qual:Str}{scope:Scope}{f:Addr}{cd:Value}{A:Around}{outer:List Env}{s:Shared}{H:Hp}{E:XK}:Out (cxOf (CXR P w) P w K mg base N qual scope f cd A outer s H E) λ_=>E:=by
 intro pins σ H' s' a C I fly e
 obtain⟨ts,fa,r⟩:=fly
 show wpAny (model P w) (A.deeper (envOfC qual scope s.heap.objs.size f cd)) (leaving (envOfC qual scope s.heap.objs.size f cd) (.ref a)) _ _ s'
 unfold leaving
 refine wpAny_bind (qjo (L:=s.heap.objs.size) I.ok.frames I.stack rfl r λg U nk sz fl=>?_)
 have I2:=I.noted fa nk
 have old:∀b,b∈a::ts->s.heap.get? b=none:=λb hb=>(fa b hb).2.2.2.1
 exact⟨a,C,H',U,rfl,I2.os,I2.bare,I2.base,I2.hok,fl,old a List.mem_cons_self,Heap.get?_none_of_le (Nat.le_trans I.sz sz),(fa a List.mem_cons_self).1,I.hok.fresh sz,e⟩
theorem Fun.okX{x qual:Str}{st:Stmt}{f:Addr}{fd:FuncData}{N ps:List Str}{k:Nat}{sp:Sp}(F:Fun K x qual st f fd)(S:FnScope N ps (qab st))(len:∀vs H Q E,sp vs H Q E->vs.length=ps.length)
  (hbody:∀(cdv:Value) (A:Around) (outer:List Env) (s:Shared) (H:Hp) (vs:List V) (Q:VK) (E:XK),Room k (A.deeper (envOfC qual (qab st) s.heap.objs.size f cdv))->sp vs H Q E ->
   Out (cxOf (CXR P w) P w K mg base N qual (qab st) f cdv A outer s H E) (λ_=>E) ->
   ∃t,QSs (cxOf (CXR P w) P w K mg base N qual (qab st) f cdv A outer s H E) (qal st) t/\t { nx:=λ_ H'=>Q .non H',rt:=Q } (start N vs) H):FnOk P w K mg base (CXR P w) (k+1) f fd ps sp:=by
 obtain⟨oc,od,kV,doc,pm,an,cdv,ct,osl,rfl,lk,hcd⟩:=F.ex
 refine qz9 lk hcd S len λA outer s H vs Q E hr hsp=>?_
 obtain⟨t,h,q⟩:=hbody cdv A outer s H vs Q E hr hsp qxp
 exact⟨t,h.u,q⟩
end
inductive CalX(P:Program)(w:World)(K:PySem.W.Frag)(mg:Str->Option Value)(base:Heap)(k:Nat)(x:Str)(ps:List Str)(sp:Sp):Prop where
|mk {f:Addr} {fd:FuncData} (F:FnOk P w K mg base (CXR P w) k f fd ps sp) (hm:mg x=some (.ref f)) (hk:PySem.W.keepIn K (.ref f)=true) (hb:Binds K fd ps [])
def q2l(sp:Sp)(EX:St->XK)(t:TA):TE:=λσ H Q=>t σ H λvs H1=>sp (vs++[]) H1 Q (EX σ)
section
variable {X:Cx} {k:Nat} {ps:List Str} {sp:Sp} {x:Str} {p pos:Pos} {e:Expr} {es:List Expr} {t:TA} {EX:St->XK}
theorem q36{f:Addr}{fd:FuncData}{pins:List (Addr×Obj)}{σ:St}{H:Hp}{s:Shared}{Q:VK}{us:List Value}{vs:List V}(F:FnOk X.prog X.w X.K X.mg X.base (CXR X.prog X.w) k f fd ps sp)(hr:Room k X.A)(hb:Binds X.K fd ps [])(o:Out X EX)(hx:X.ex=[])
  (I:Inv X pins σ H s) (r:Vals vs us) (h:sp (vs++[]) H Q (EX σ)):wpAny (model X.prog X.w) X.A (call (.ref f) us) (EP X pins σ Q) X.xe s:=by
 have rr:Vals (vs++[]) (us++[]):=r.append .nil
 have ll:(us++[]).length=ps.length:=rr.length▸F.len _ _ _ _ h
 have run:=F.run X.A X.stack s H ⟨us,[]⟩ (us++[]) (vs++[]) Q (EX σ) hr I.env0 (hb s us I.kIn ll) rr h
 refine wpAny_call (codeAny_mono run fun
 |.error _,_,z=>o.pass hx I z
 |.ok (.ret _),_,z=>I.after z
 |.ok .next,_,z=>z.elim
 |.ok .brk,_,z=>z.elim
 |  .ok .cont,_,z=>z.elim)
theorem qye(C:CalX X.prog X.w X.K X.mg X.base k x ps sp)(o:Out X EX)(hr:Room k X.A)(hg:Gl X x)(ha:QA X (e::es) t)(hx:X.ex=[]:=by rfl)(hp:(e::es).all qaq=true:=by rfl)(hdb:(x==("__debug__" : Str))=false:=by decide) :
  QE X (.Call (.Name x p) (e::es) [] pos) (q2l sp EX t):=by
 cases C with
|mk F hm hk hb =>
  refine⟨λpins s σ H Q I h=>wpAny_Call_Name_kw (qgh I hg hm ?_ hdb)⟩
  exact PySem.W.callWith_K (h₀:=X.base) I.ok.mod.kin hk (thn (ha.u pos pins s σ H _ I h) λus s1 ⟨vs,H1,I1,r,q⟩=>⟨I1.kIn,q36 F hr hb o hx I1 r q⟩) (qbg (all2 hp).1) (qdp (all2 hp).2)
end
abbrev bmV:List Value:=[.type "ValueError",.type "Exception",.type "BaseException",.type "object"]
abbrev OwnX(K:PySem.W.Frag)(C:Addr):Prop:=PySem.W.excIn K C bmV "ValueError.__new__" = true
theorem qq6{K:PySem.W.Frag}{h:Heap}{C:Addr}(X:K.In h)(q:OwnX K C):∃bm N nm qn bs hdct sn sub ab col dd k0 k1 k2 k3 k5 mN,
  h.get? C=some (excClassObj nm qn C N bs bm hdct sn sub ab col dd k0 k1 k2 k3 k5 "ValueError.__new__")/\h.Ns N mN/\mN "__init__" = none/\OwnTail h bmV bm:=by
 unfold OwnX PySem.W.excIn at q
 split at q
 ·rename_i dct cld slt look
  split at q
  ·rename_i C1 rest j0 j1 j2 j3 nw j5 em es
   simp only[Bool.and_eq_true,beq_iff_eq,Bool.not_eq_true'] at q
   obtain⟨⟨⟨⟨⟨c1,c2⟩,c3⟩,c4⟩,c5⟩,c6⟩:=q
   subst c1 c2
   cases cld with
  |mk nm bs mro ns qn hd sn sub ab col del =>
    obtain⟨l⟩:=slt
    dsimp only at em es c3 c5 c6
    subst em c3 es
    exact⟨rest,ns,nm,qn,bs,hd,sn,sub,ab,col,dct,j0,j1,j2,j3,j5,_,X _ _ look,.of_isNs (PySem.W.isNs_of_in X c5),PySem.W.nsMap_none_of_in X c5 c6,PySem.W.tail_of_in X c4⟩
  ·cases q
 ·cases q
theorem ObjOk.here{P:Program}{w:World}{H:Hp}{h:Heap}{a:Addr}{o:HO}(x:ObjOk P w H h a o):∃ob,h.get? a=some ob:=by
 cases o with
|lst xs=>obtain⟨_,_,_,_,e⟩:=x;exact⟨_,e⟩
|tup xs=>obtain⟨_,_,_,p⟩:=x;obtain⟨ob,e,_⟩:=p;exact⟨ob,e⟩
|dK kvs=>obtain⟨_,_,_,_,ob,_,_,e,_⟩:=x;exact⟨_,e⟩
|dT kvs=>obtain⟨_,_,_,_,ob,_,_,e,_⟩:=x;exact⟨_,e⟩
|set S n=>obtain⟨ob,_,_,_,e,_⟩:=x;exact⟨_,e⟩
|ins C dx fs=>obtain⟨_,_,_,e,_⟩:=x;exact⟨_,e⟩
|own y=>exact x
|xd fs=>obtain⟨_,⟨_,_,_,e,_⟩,_⟩:=x;exact⟨_,e⟩
|met f y=>exact⟨_,x⟩
|rng lo hi=>obtain⟨_,_,_,e⟩:=x;exact⟨_,e⟩
|frz ob u=>exact⟨_,x.1⟩
|tbl ps=>exact⟨_,x⟩
|ext φ=>exact x.2.1
section
variable {X:Cx} {pins:List (Addr×Obj)} {σ:St} {H:Hp} {s:Shared}
theorem Inv.grown{h':Heap}(I:Inv X pins σ H s)(k:∀b o,s.heap.get? b=some o->h'.get? b=some o):Inv X pins σ H { s with heap:=h' }:=by
 refine I.call (g':=s.gens) (t':=s.toks) (d':=s.drawn) (ch:=[]) ⟨λb o e _ _ _=>k b o e,λb o e _ _ _=>⟨o.slots,k b o e⟩,λ_ _ _ n _=>n,λb o e _=>⟨o,k b o e⟩,λ_ _ q=>q,λ_ _ _ q=>q,λ_ ps q=>⟨#[],by rw[q];simp⟩⟩
  (λb u e=>(I.hok b u e).stay (λc v _ q=>k c v q) (λ_ q=>q) λ_ _ q=>q) I.bare λb hb=>nomatch hb
def q2q(C:Addr)(EX:St->XK)(t:TA):TS:=λ_ σ H=>t σ H λvs H1=>vs.length<=sizeLine/\EX σ (.ref C) none H1
theorem qt5{x:Str}{C:Addr}{EX:St->XK}{np cpos pos:Pos}{e:Expr}{es:List Expr}{t:TA}(q:OwnX X.K C)(hm:X.mg x=some (.ref C))(hg:Gl X x)(hc:X.calm=true)(o:Out X EX)(ha:QA X (e::es) t)
  (hx:X.ex=[]:=by rfl) (hp:(e::es).all qaq=true:=by rfl) (hdb:(x==("__debug__" : Str))=false:=by decide) :
  QS X (.Raise (some (.Call (.Name x np) (e::es) [] cpos)) none pos) (q2q C EX t):=by
 refine⟨λpins s σ H D I h=>?_⟩
 obtain⟨bm,N,nm,qn,bs,hdct,sn,sub,ab,col,dd,k0,k1,k2,k3,k5,mN,hC,hN,hni,T⟩:=qq6 I.ok.mod.kin q
 have st:starEach (e::es) X.env=(false,eval e X.env)::starEach es X.env:=qbg (all2 hp).1
 have pl:(backTo cpos (starEach es X.env)).any (·.1)=false:=qdp (all2 hp).2
 refine wpAny_Raise_call_subU (C:=C) (nm:=nm) (q:=qn) (N:=N) (bs:=bs) (bm:=bm) (hdct:=hdct) (sn:=sn) (sub:=sub) (ab:=ab) (col:=col) (dd:=dd) (k0:=k0) (k1:=k1) (k2:=k2) (k3:=k3) (k5:=k5)
  PySem.F.excBase_ValueError (by decide) PySem.F.excBase_ValueError (mN:=mN) (T.hasType PySem.F.excBase_ValueError.hasBase) (I.ok.hd hc) (by rw[st];show (false||(backTo cpos (starEach es X.env)).any (·.1))=false;rw[pl];rfl) hni (qgh I hg hm ⟨rfl,?_⟩ hdb)
 have run:=ha.u cpos pins s σ H _ I h
 rw[st] at run ⊢
 refine Calls.evalArgs_plain (thn run λus s1 ⟨vs,H1,I1,r,hl,qx⟩=>⟨rfl,by rw[←r.length];exact hl,I1.bk _ _ hC,hN.keeps I1.bk,T.keeps I1.bk,λh' a made=>?_⟩)
 obtain⟨tt,h1,h2,h3⟩:=made.there
 have I2:=I1.grown made.keeps
 have na:H1 a=none:=by
  cases z:H1 a with
 |none=>rfl
 |some u =>
   obtain⟨ob,eo⟩:=(I1.hok a u z).here
   rw[made.new] at eo
   cases eo
 exact o pins σ H1 _ a C I2 ⟨[],λb hb=>by
  have e:b=a:=by simpa using hb
  subst e
  exact I1.fpN hx made.new na,⟨_,_,h1,⟨rfl,rfl⟩,rfl,rfl⟩⟩ qx
end
abbrev Cx.tryB(X:Cx)(pn:List (Addr×Obj))(E:Value->Shared->Prop):Cx:={ X with pn:=pn,xe:=E }
abbrev Cx.hand(X:Cx)(e:Value)(pn:List (Addr×Obj))(E:Value->Shared->Prop):Cx:={ X with A:=X.A.mark (some e),calm:=false,pn:=pn,xe:=E }
section
variable {X:Cx} {pins pins':List (Addr×Obj)} {σ:St} {H:Hp} {s:Shared} {E:Value->Shared->Prop} {e:Value}
theorem Inv.tryB(I:Inv X pins σ H s):Inv (X.tryB (X.pn++pins) E) [] σ H s :=
 ⟨⟨I.ok.mod,I.ok.kind,I.ok.glob,I.ok.blt,I.ok.above,I.ok.inj,I.ok.has,I.ok.cab,I.ok.hd,I.ok.frames,I.ok.stk,I.ok.exf,I.ok.bs,I.ok.bsz,I.ok.noex,I.ok.exfs,I.ok.funs,I.ok.frf⟩,I.os,I.bare,I.base,I.loc,I.cell,I.free,I.freeC,
  λp hp=>I.pin p (by simpa using hp),I.hok,I.len⟩
theorem Inv.untryB(I:Inv (X.tryB (X.pn++pins) E) pins' σ H s):Inv X pins σ H s :=
 ⟨⟨I.ok.mod,I.ok.kind,I.ok.glob,I.ok.blt,I.ok.above,I.ok.inj,I.ok.has,I.ok.cab,I.ok.hd,I.ok.frames,I.ok.stk,I.ok.exf,I.ok.bs,I.ok.bsz,I.ok.noex,I.ok.exfs,I.ok.funs,I.ok.frf⟩,I.os,I.bare,I.base,I.loc,I.cell,I.free,I.freeC,
  λp hp=>I.pin p (List.mem_append.mpr (.inl hp)),I.hok,I.len⟩
theorem Inv.hand(I:Inv X pins σ H s):Inv (X.hand e (X.pn++pins) E) [] σ H s :=
 ⟨⟨I.ok.mod,I.ok.kind,I.ok.glob,I.ok.blt,I.ok.above,I.ok.inj,I.ok.has,I.ok.cab,(λz=>nomatch z),I.ok.frames,I.ok.stk,I.ok.exf,I.ok.bs,I.ok.bsz,I.ok.noex,I.ok.exfs,I.ok.funs,I.ok.frf⟩,I.os,I.bare,I.base,I.loc,I.cell,I.free,I.freeC,
  λp hp=>I.pin p (by simpa using hp),I.hok,I.len⟩
theorem Inv.unhand(ok:X.Ok)(I:Inv (X.hand e (X.pn++pins) E) pins' σ H s):Inv X pins σ H s :=
 ⟨ok,I.os,I.bare,I.base,I.loc,I.cell,I.free,I.freeC,λp hp=>I.pin p (List.mem_append.mpr (.inl hp)),I.hok,I.len⟩
theorem SP.untryB{D:Ends}{f:Flow}(h:SP (X.tryB (X.pn++pins) E) pins' D f s):SP X pins D f s:=by
 cases f with
|next=>obtain⟨_,_,I,q⟩:=h;exact⟨_,_,I.untryB,q⟩
|brk=>obtain⟨_,_,I,q⟩:=h;exact⟨_,_,I.untryB,q⟩
|cont=>obtain⟨_,_,I,q⟩:=h;exact⟨_,_,I.untryB,q⟩
|ret u=>obtain⟨_,_,_,I,r,q⟩:=h;exact⟨_,_,_,I.untryB,r,q⟩
theorem SP.unhand{D:Ends}{f:Flow}(ok:X.Ok)(h:SP (X.hand e (X.pn++pins) E) pins' D f s):SP X pins D f s:=by
 cases f with
|next=>obtain⟨_,_,I,q⟩:=h;exact⟨_,_,I.unhand ok,q⟩
|brk=>obtain⟨_,_,I,q⟩:=h;exact⟨_,_,I.unhand ok,q⟩
|cont=>obtain⟨_,_,I,q⟩:=h;exact⟨_,_,I.unhand ok,q⟩
|ret u=>obtain⟨_,_,_,I,r,q⟩:=h;exact⟨_,_,_,I.unhand ok,r,q⟩
end
abbrev TH:=Value->TS
def PH(X:Cx)(hs:List ExceptHandler)(th:TH):Prop :=
 ∀(pins:List (Addr×Obj)) (s:Shared) (σ:St) (H:Hp) (D:Ends) (a C U:Addr),Inv X pins σ H s->FlT s.heap a (.ref C) U .none->FpN X pins H a->FpN X pins H U->th (.ref C) D σ H ->
  wpAny (model X.prog X.w) X.A (handleBy (.ref a) X.env hs) (SP X pins D) X.xe s
structure QH(X:Cx)(hs:List ExceptHandler)(th:TH):Prop where
 u:PH X hs th
def q38:TH:=λ_ _ _ _=>False
def q2r(K:PySem.W.Frag)(c:Value)(t:TS)(th:TH):TH:=λC D σ H=>∃b,PySem.W.exmOne K C c=some b/\if b=true then t D σ H else th C D σ H
def tTry(tb:(St->XK)->TS)(th:TH):TS:=λD σ H=>tb (λσ' C _ H'=>th C D σ' H') D σ H
section
variable {X:Cx} {x:Str} {c:Value} {t:TS} {th:TH} {np pos:Pos} {b0:Stmt} {suite body:List Stmt} {rest:List ExceptHandler}
theorem q10:QH X [] q38:=⟨λ_ _ _ _ _ _ _ _ _ _ _ _ h=>h.elim⟩
theorem qyj(hm:X.mg x=some c)(hg:Gl X x)(hs:∀e pn E,QSs (X.hand e pn E) (b0::suite) t)(hr:QH X rest th)(hdb:(x==("__debug__" : Str))=false:=by decide) :
  QH X (.ExceptHandler (some (.Name x np)) none (b0::suite) pos::rest) (q2r X.K c t th):=by
 refine⟨λpins s σ H D a C U I fl fa fu ⟨b,hx,q⟩=>?_⟩
 obtain⟨oa,ha,hc⟩:=fl.there
 have IH:∀E,Inv (X.hand (.ref a) (X.pn++pins) E) [] σ H s:=λE=>I.hand
 refine wpAny_handleBy_cons (codeAny_handlers_test (qgh (X:=X.hand (.ref a) (X.pn++pins) X.xe) (IH _) hg hm ?_ hdb)) (by intro z;cases z)
 have LT:PySem.W.Looks (model X.prog X.w) s.heap (typeOf (.ref a)) (.ref C):=by
  rw[←hc]
  exact(PySem.W.Looks.ld ha).andThen .now
 refine(PySem.W.exm_one I.kIn LT hx).here ?_
 cases b with
|false =>
  exact hr.u pins s σ H D a C U I fl fa fu q
|true =>
  refine codeAny_handlers_suite (qge fl λg nk fl2 _=>?_)
  have I2:Inv X pins σ H { s with heap:=g }:=I.noted (a:=U) (ts:=[]) (λb hb=>by
   have e:b=U:=by simpa using hb
   rw[e]
   exact fu) ⟨λb o _ h2 e=>nk.keep b o (by simp) h2 e,λb o _ h2 e=>⟨o.slots,nk.keep b o (by simp) h2 e⟩,nk.there⟩
  refine thn ((hs (.ref a) (X.pn++pins) _).u [] _ σ H D I2.hand q) λf s2 z=>?_
  exact z.unhand I.ok
theorem q13{tb:(St->XK)->TS}{h0:ExceptHandler}(hb:∀pn E EX,PassesOwn (model X.prog X.w) X.A X.env E->Out (X.tryB pn E) EX->QSs (X.tryB pn E) body (tb EX))(hh:QH X (h0::rest) th)(hst:X.stack=X.env::X.outer:=by rfl)(hfr:X.env.frame=some X.env.locals:=by rfl)(hx:X.ex=[]:=by rfl) :
  QS X (.Try body (h0::rest) [] [] pos) (tTry tb th):=by
 refine⟨λpins s σ H D I h=>wpAny_Try_except ?_⟩
 refine wpAny_mono ((hb (X.pn++pins) _ _ PassesOwn.looking ?_).u [] s σ H D I.tryB h) (λf s2 z=>?_) λ_ _ z=>z
 ·intro pins1 σ1 H1 s1 a C I1 ⟨ts,fa,r⟩ q
  have I2:Inv X pins σ1 H1 s1:=I1.untryB
  have fa2:∀b∈a::ts,FpN X pins H1 b:=λb hb=>⟨(fa b hb).1,(fa b hb).2.1,(fa b hb).2.2.1,(fa b hb).2.2.2.1,(fa b hb).2.2.2.2.1,λp hp=>(fa b hb).2.2.2.2.2 p (List.mem_append.mpr (.inl hp))⟩
  refine qjo (L:=X.env.locals) (by rw[←hst];exact I2.ok.frames) (by rw[←hst];exact I2.stack) hfr r λg U nk sz fl=>?_
  rw[←hst] at nk
  have I3:=I2.noted fa2 nk
  refine hh.u pins _ σ1 H1 D a C U I3 fl (fa2 a List.mem_cons_self) ?_ q
  exact I2.fpN hx (Heap.get?_none_of_le sz) (I2.hok.fresh sz)
 ·cases f with
 |next=>exact wpAny_execs_nil z.untryB
 |brk=>exact z.untryB
 |cont=>exact z.untryB
 |ret u=>exact z.untryB
end
def excO(a C:Addr):HO:=.ext λh=>∃o,h.get? a=some o/\(o.cls=.ref C/\o.dict=none)/\PySem.W.notCls o=true
section
variable {X:Cx} {pins:List (Addr×Obj)} {σ:St} {H:Hp} {s:Shared} {a C:Addr}
end
section
variable {X:Cx} {x n:Str} {i:Nat} {c:Value} {t:TS} {th:TH} {np pos:Pos} {b0:Stmt} {suite body:List Stmt} {rest:List ExceptHandler}
end
open PySem.W
structure ExcK(K:Frag)(C:Addr):Prop where
 ga:findIn K (.ref C) "__getattribute__" = some (some (.builtin "BaseException.__getattribute__"))
 gn:findIn K (.ref C) "__getattr__" = some none
 gc:findIn K (.ref C) "__class__" = some (some (.builtin "object.__class__"))
 mo:mroIn K C (.type "object")=some true
 mb:mroIn K C (.type "BaseException")=some true
 hd:hasDictIn K C=true
section
variable {prog:Program} {w:World} {A:Around} {E:Value->Shared->Prop} {h:Heap} {g:Array GenState} {d:Drawn} {t:Nat} {os:OsState} {K:Frag} {a C:Addr} {o:Obj}
end
section
variable {X:Cx}
end
structure RoomH(k:Nat)(A:Around):Prop where
 dp:A.depth+3*k+5<recursionLimit
 un:A.units+16*k+200<cLine
structure FnOkH(P:Program)(w:World)(K:Frag)(mg:Str->Option Value)(base:Heap)(CX:CXT)(k:Nat)(f:Addr)(fd:FuncData)(ps:List Str)(sp:Sp):Prop where
 len:∀vs H Q E,sp vs H Q E->vs.length=ps.length
 run:∀(A:Around) (outer:List Env) (s:Shared) (H:Hp) (args:Args) (us:List Value) (vs:List V) (Q:VK) (E:XK),RoomH k A->Env0 P w K mg base A outer s H->BindsTo s fd args (ps.zip us)->Vals vs us->sp vs H Q E ->
  codeAny (model P w) A (.call (.ref f) args) (CR CX outer P w H s Q E) s
section
variable {P:Program} {w:World} {K:Frag} {mg:Str->Option Value} {base:Heap} {CX:CXT} {k:Nat} {f:Addr}
end
inductive CalH(P:Program)(w:World)(K:Frag)(mg:Str->Option Value)(base:Heap)(k:Nat)(x:Str)(ps:List Str)(sp:Sp):Prop where
|mk {f:Addr} {fd:FuncData} (F:FnOkH P w K mg base CX0 k f fd ps sp) (hm:mg x=some (.ref f)) (hk:keepIn K (.ref f)=true) (hb:Binds K fd ps [])
section
variable {X:Cx} {k:Nat} {ps:List Str} {sp:Sp} {x:Str} {p pos:Pos} {e:Expr} {es:List Expr} {t:TA}
end
end L2
namespace L2
open PySem PySem.Spec PyProof.Rows
section
variable {X:Cx} {o i e f value a b:Expr} {pos pos' tpos apos cpos:Pos} {td ty tv tx:TE}
theorem qyg(hu:X.A.units+1<cLine)(ho:QE X o td)(hi:QE X i ty)(hs:NoSl i:=by exact λ_ _=>rfl):QE X (.Subscript o i pos) (q2m td ty):=⟨qxx hu ho.u hi.u hs⟩
theorem qre(hu:X.A.units+1<cLine)(hi:QE X i ty)(ho:QE X o td)(hm:behindInMarks .NotIn o=false:=by with_unfolding_all rfl):QT X (.Compare i [.NotIn] [o] pos) (tB (qrq ty td)):=⟨q1m (qq7 hu hi.u ho.u) hm⟩
theorem qyn(hu:X.A.units+1<cLine)(ho:QE X o td)(hi:QE X i ty)(hv:QE X value tv)(hs:swapsWith value (some (.Subscript o i pos')) pos.line X.env=pure false:=by rfl) :
  QS X (.Assign [.Subscript o i pos'] value pos) (q2h td ty tv):=⟨qx5 hu ho.u hi.u hv.u hs⟩
theorem qt1:QE X (.Dict [] [] pos) qvx:=⟨qtr⟩
end
end L2
namespace L2
open PySem PySem.Spec PyProof.Rows
inductive D where
|non
|bl (b:Bool)
|int (i:Int)
|str (x:Str)
|tup (xs:List D)
|lst (xs:List D)
|dT (ks:List (List Str)) (ds:List D)
|dK (ks:List Str) (ds:List D)
|scr (ns:List Int)
|kt (ss:List Str)
|exc (n:Str)
|io (c:Addr) (ds:List D)
|ioT (c:Addr) (ks:List (List Str)) (ds:List D)
def clsOf(K:PySem.W.Frag)(n:Str)(C:Addr):Prop:=PySem.W.nsIn K mainGlobals n=some (some (.ref C))
def wK(ws:List Str):List Key:=ws.map Sum.inr
def TupAt(K:PySem.W.Frag)(H:Hp)(a:Addr)(ds:List D)(xs:List V):Prop:=H a=some (.tup xs)\/(SqT K (λ_=>none) a xs/\ds=[.str "folder",.str ""])
mutual
def Rep(K:PySem.W.Frag)(H:Hp):D->V->Prop
|.non,v=>v=.non
|.bl b,v=>v=.bl b
|.int i,v=>v=.int i
|.str x,v=>v=.str x
|.tup ds,v=>∃a xs,v=.ref a/\TupAt K H a ds xs/\Reps K H ds xs
|.lst ds,v=>∃a xs,v=.ref a/\H a=some (.lst xs)/\Reps K H ds xs
|.dT ks ds,v=>∃a kvs,v=.ref a/\Rd H a (.dT kvs)/\kvs.map (·.1)=ks.map wK/\Reps K H ds (kvs.map (·.2))
|.dK ks ds,v=>∃a kvs,v=.ref a/\H a=some (.dK kvs)/\kvs.map (·.1)=ks.map Sum.inr/\Reps K H ds (kvs.map (·.2))
|.scr ns,v=>∃a,v=.ref a/\SqL K H a (ns.map V.int)
|.kt ss,v=>∃a,v=.ref a/\SqT K (λ_=>none) a (ss.map V.str)
|.exc n,v=>∃a C,v=.ref a/\H a=some (excO a C)/\clsOf K n C
|.io c ds,v=>∃xs,v=.ref c/\H c=some (.lst xs)/\Reps K H ds xs
|.ioT c ks ds,v=>∃kvs,v=.ref c/\H c=some (.dT kvs)/\kvs.map (·.1)=ks.map wK/\Reps K H ds (kvs.map (·.2))
def Reps(K:PySem.W.Frag)(H:Hp):List D->List V->Prop
|[],xs=>xs=[]
|d::ds,xs=>∃x r,xs=x::r/\Rep K H d x/\Reps K H ds r
end
noncomputable def eqD(d e:D):Bool:=@decide (d=e) (Classical.propDecidable _)
noncomputable def eqDs(d e:List D):Bool:=@decide (d=e) (Classical.propDecidable _)
theorem eqD_iff{d e:D}:eqD d e=true↔d=e:=@decide_eq_true_iff _ (Classical.propDecidable _)
theorem eqDs_iff{d e:List D}:eqDs d e=true↔d=e:=@decide_eq_true_iff _ (Classical.propDecidable _)
theorem qvc{d e:D}(h:eqD d e=true):d=e:=eqD_iff.mp h
theorem qwu{d e:List D}(h:eqDs d e=true):d=e:=eqDs_iff.mp h
theorem qd6(d:D):eqD d d=true:=eqD_iff.mpr rfl
theorem qp3(d:List D):eqDs d d=true:=eqDs_iff.mpr rfl
theorem qa3{a b:Bool}(h:a=true↔b=true):a=b:=by cases a<;>cases b<;>simp_all
theorem qwt(ds es:List D):eqD (.tup ds) (.tup es)=eqDs ds es:=qa3 (by rw[eqD_iff,eqDs_iff];exact⟨λh=>D.tup.inj h,λh=>h▸rfl⟩)
theorem qws(ds es:List D):eqD (.lst ds) (.lst es)=eqDs ds es:=qa3 (by rw[eqD_iff,eqDs_iff];exact⟨λh=>D.lst.inj h,λh=>h▸rfl⟩)
def dV:D->Option V
|.non=>some .non
|.bl b=>some (.bl b)
|.int i=>some (.int i)
|.str x=>some (.str x)
|_=>none
theorem qz2{d e:D}{v:V}(h:dV d=some v)(h':dV e=some v):d=e:=by
 cases d<;>cases e<;>simp_all [dV]<;>(subst h;simp_all)
theorem qmz{d e:D}{v z:V}(h:dV d=some v)(h':dV e=some z):eqD d e=decide (v=z):=qa3 (by
 rw[eqD_iff,decide_eq_true_iff]
 exact⟨λq=>by subst q;exact Option.some.inj (h.symm.trans h'),λq=>by subst q;exact qz2 h h'⟩)
mutual
def cmpD:D->D->Bool
|.tup a,.tup b=>qcl a b
|.lst a,.lst b=>qcl a b
|.non,.non=>true|.non,.int _=>true|.int _,.non=>true|.non,.bl _=>true|.bl _,.non=>true|.non,.str _=>true|.str _,.non=>true
|.int _,.int _=>true|.bl _,.bl _=>true|.str _,.str _=>true|.int _,.str _=>true|.str _,.int _=>true|.bl _,.str _=>true|.str _,.bl _=>true
|_,_=>false
def qcl:List D->List D->Bool
|x::xs,y::ys=>cmpD x y&&qcl xs ys
|_,_=>true
end
mutual
def depD:D->Nat
|.tup a=>qb2 a+1
|.lst a=>qb2 a+1
|_=>0
def qb2:List D->Nat
|[]=>0
|x::xs=>max (depD x) (qb2 xs)
end
theorem Same.emp(H:Hp):Same (λ_=>none) H:=λ_ _ h=>by cases h
theorem Same.sqT{K:PySem.W.Frag}{H H':Hp}(sm:Same H H'){a:Addr}{xs:List V}(h:SqT K H a xs):SqT K H' a xs:=by
 rcases h with (h|⟨o,h⟩)|h
 ·exact .inl (.inl (sm _ _ h))
 ·exact .inl (.inr ⟨o,sm _ _ h⟩)
 ·exact .inr h
theorem TupAt.sq{K:PySem.W.Frag}{H:Hp}{a:Addr}{ds:List D}{xs:List V}(h:TupAt K H a ds xs):SqT K H a xs:=h.elim SqT.of λq=>(Same.emp H).sqT q.1
theorem TupAt.same{K:PySem.W.Frag}{H H':Hp}{a:Addr}{ds:List D}{xs:List V}(h:TupAt K H a ds xs)(sm:Same H H'):TupAt K H' a ds xs:=h.elim (λq=>.inl (sm _ _ q)) .inr
section
variable {X:Cx} {pins:List (Addr×Obj)} {σ:St} {H:Hp} {s:Shared}
mutual
theorem Rep.inj(I:Inv X pins σ H s):∀ {d e:D} {v:V},Rep X.K H d v->Rep X.K H e v->cmpD d e=true->d=e
|.non,e,v,h,h',hc=>by
  unfold Rep at h
  subst h
  cases e<;>unfold Rep at h'<;>first|rfl|(obtain⟨_,_,z,_⟩:=h';cases z;done)|(obtain⟨_,z,_⟩:=h';cases z;done)|(cases h';done)
|.bl i,e,v,h,h',hc=>by
  unfold Rep at h
  subst h
  cases e<;>unfold Rep at h'<;>first|rfl|(obtain⟨_,_,z,_⟩:=h';cases z;done)|(obtain⟨_,z,_⟩:=h';cases z;done)|(cases h';rfl)|(cases h';done)
|.int i,e,v,h,h',hc=>by
  unfold Rep at h
  subst h
  cases e<;>unfold Rep at h'<;>first|rfl|(obtain⟨_,_,z,_⟩:=h';cases z;done)|(obtain⟨_,z,_⟩:=h';cases z;done)|(cases h';rfl)|(cases h';done)
|.str i,e,v,h,h',hc=>by
  unfold Rep at h
  subst h
  cases e<;>unfold Rep at h'<;>first|rfl|(obtain⟨_,_,z,_⟩:=h';cases z;done)|(obtain⟨_,z,_⟩:=h';cases z;done)|(cases h';rfl)|(cases h';done)
|.tup ds,e,v,h,h',hc=>by
  cases e with
 |tup es =>
   unfold Rep at h h'
   obtain⟨a,xs,rfl,ha,hr⟩:=h
   obtain⟨b,ys,z,hb,hs⟩:=h'
   cases z
   cases I.tuple_inj ha.sq hb.sq
   unfold cmpD at hc
   rw[Reps.inj I hr hs hc]
 |_=>unfold cmpD at hc;cases hc
|.lst ds,e,v,h,h',hc=>by
  cases e with
 |lst es =>
   unfold Rep at h h'
   obtain⟨a,xs,rfl,ha,hr⟩:=h
   obtain⟨b,ys,z,hb,hs⟩:=h'
   cases z
   rw[ha] at hb
   cases hb
   unfold cmpD at hc
   rw[Reps.inj I hr hs hc]
 |_=>unfold cmpD at hc;cases hc
|.dT _ _,e,_,_,_,h=>by cases e<;>(unfold cmpD at h;cases h)
|.dK _ _,e,_,_,_,h=>by cases e<;>(unfold cmpD at h;cases h)
|.scr _,e,_,_,_,h=>by cases e<;>(unfold cmpD at h;cases h)
|.kt _,e,_,_,_,h=>by cases e<;>(unfold cmpD at h;cases h)
|.exc _,e,_,_,_,h=>by cases e<;>(unfold cmpD at h;cases h)
|.io _ _,e,_,_,_,h=>by cases e<;>(unfold cmpD at h;cases h)
|.ioT _ _ _,e,_,_,_,h=>by cases e<;>(unfold cmpD at h;cases h)
theorem Reps.inj(I:Inv X pins σ H s):∀ {ds es:List D} {xs:List V},Reps X.K H ds xs->Reps X.K H es xs->qcl ds es=true->ds=es
|[],es,xs,h,h',_=>by
  unfold Reps at h
  subst h
  cases es with
 |nil=>rfl
 |cons e es=>unfold Reps at h';obtain⟨_,_,z,_⟩:=h';cases z
|d::ds,es,xs,h,h',hc=>by
  unfold Reps at h
  obtain⟨x,r,rfl,h1,h2⟩:=h
  cases es with
 |nil=>unfold Reps at h';cases h'
 |cons e es =>
   unfold Reps at h'
   obtain⟨x',r',z,h3,h4⟩:=h'
   cases z
   unfold qcl at hc
   rw[Bool.and_eq_true] at hc
   rw[Rep.inj I h1 h3 hc.1,Reps.inj I h2 h4 hc.2]
end
end
mutual
theorem Rep.same{K:PySem.W.Frag}{H H':Hp}(sm:Same H H'):∀ {d:D} {v:V},Rep K H d v->Rep K H' d v
|.non,_,h=>h
|.bl _,_,h=>h
|.int _,_,h=>h
|.str _,_,h=>h
|.tup _,_,h=>by
  unfold Rep at h ⊢
  obtain⟨a,xs,e,ha,r⟩:=h
  exact⟨a,xs,e,ha.same sm,Reps.same sm r⟩
|.lst _,_,h=>by
  unfold Rep at h ⊢
  obtain⟨a,xs,e,ha,r⟩:=h
  exact⟨a,xs,e,sm _ _ ha,Reps.same sm r⟩
|.dT _ _,_,h=>by
  unfold Rep at h ⊢
  obtain⟨a,xs,e,ha,k,r⟩:=h
  exact⟨a,xs,e,ha.elim (λq=>.inl (sm _ _ q)) λ⟨o,q⟩=>.inr ⟨o,sm _ _ q⟩,k,Reps.same sm r⟩
|.dK _ _,_,h=>by
  unfold Rep at h ⊢
  obtain⟨a,xs,e,ha,k,r⟩:=h
  exact⟨a,xs,e,sm _ _ ha,k,Reps.same sm r⟩
|.scr _,_,h=>by
  unfold Rep at h ⊢
  obtain⟨a,e,ha⟩:=h
  exact⟨a,e,sm.seq ha⟩
|.kt _,_,h=>h
|.exc _,_,h=>by
  unfold Rep at h ⊢
  obtain⟨a,C,e,ha,hc⟩:=h
  exact⟨a,C,e,sm _ _ ha,hc⟩
|.io _ _,_,h=>by
  unfold Rep at h ⊢
  obtain⟨xs,e,ha,r⟩:=h
  exact⟨xs,e,sm _ _ ha,Reps.same sm r⟩
|.ioT _ _ _,_,h=>by
  unfold Rep at h ⊢
  obtain⟨kvs,e,ha,k,r⟩:=h
  exact⟨kvs,e,sm _ _ ha,k,Reps.same sm r⟩
theorem Reps.same{K:PySem.W.Frag}{H H':Hp}(sm:Same H H'):∀ {ds:List D} {xs:List V},Reps K H ds xs->Reps K H' ds xs
|[],_,h=>h
|_::_,_,h=>by
  unfold Reps at h ⊢
  obtain⟨x,r,e,h1,h2⟩:=h
  exact⟨x,r,e,Rep.same sm h1,Reps.same sm h2⟩
end
theorem Reps.length{K:PySem.W.Frag}{H:Hp}:∀ {ds:List D} {xs:List V},Reps K H ds xs->ds.length=xs.length
|[],xs,h=>by unfold Reps at h;rw[h];rfl
|d::ds,xs,h=>by
  unfold Reps at h
  obtain⟨x,r,rfl,h1,h2⟩:=h
  rw[List.length_cons,List.length_cons,Reps.length h2]
theorem Reps.at{K:PySem.W.Frag}{H:Hp}:∀ {ds:List D} {xs:List V} {j:Nat} {d:D},Reps K H ds xs->ds[j]?=some d->∃x,xs[j]?=some x/\Rep K H d x
|[],xs,j,d,h,e=>by simp at e
|d0::ds,xs,0,d,h,e=>by
  unfold Reps at h
  obtain⟨x,r,rfl,h1,h2⟩:=h
  have e':d0=d:=by simpa using e
  subst e'
  exact⟨x,rfl,h1⟩
|d0::ds,xs,j+1,d,h,e=>by
  unfold Reps at h
  obtain⟨x,r,rfl,h1,h2⟩:=h
  obtain⟨y,h3,h4⟩:=Reps.at (j:=j) (d:=d) h2 (by simpa using e)
  exact⟨y,by simpa using h3,h4⟩
theorem qhj:∀(ds es:List D),((List.range (min ds.length es.length)).all (λj=>eqD (ds.getD j .non) (es.getD j .non))&&ds.length==es.length)=eqDs ds es:=by
 intro ds es
 cases h:eqDs ds es with
|true =>
  have e:=qwu h
  subst e
  rw[Bool.and_eq_true]
  refine⟨?_,by simp⟩
  rw[List.all_eq_true]
  intro j _
  exact qd6 _
|false =>
  apply Classical.byContradiction
  intro hn
  have ht:=eq_true_of_ne_false hn
  rw[Bool.and_eq_true,List.all_eq_true] at ht
  obtain⟨h1,h2⟩:=ht
  have hl:ds.length=es.length:=by simpa using h2
  have e:ds=es:=by
   apply List.ext_getElem hl
   intro i hi1 hi2
   have:=qvc (h1 i (by rw[List.mem_range];lia))
   simpa [List.getD_eq_getElem?_getD,hi1,hi2] using this
  rw[e,qp3] at h
  cases h
theorem qmt:∀ {ds es:List D} {j:Nat} {d e:D},qcl ds es=true->ds[j]?=some d->es[j]?=some e->cmpD d e=true
|[],_,j,d,e,_,h,_=>by simp at h
|_::_,[],j,d,e,_,_,h=>by simp at h
|d0::ds,e0::es,0,d,e,h,h1,h2=>by
  unfold qcl at h
  rw[Bool.and_eq_true] at h
  have q1:d0=d:=by simpa using h1
  have q2:e0=e:=by simpa using h2
  subst q1 q2
  exact h.1
|d0::ds,e0::es,j+1,d,e,h,h1,h2=>by
  unfold qcl at h
  rw[Bool.and_eq_true] at h
  exact qmt (j:=j) h.2 (by simpa using h1) (by simpa using h2)
theorem qmw:∀ {ds:List D} {j:Nat} {d:D},ds[j]?=some d->depD d<=qb2 ds
|[],j,d,h=>by simp at h
|d0::ds,0,d,h=>by
  have q:d0=d:=by simpa using h
  subst q
  unfold qb2
  exact Nat.le_max_left _ _
|d0::ds,j+1,d,h=>by
  have:=qmw (j:=j) (d:=d) (ds:=ds) (by simpa using h)
  unfold qb2
  exact Nat.le_trans this (Nat.le_max_right _ _)
section
variable {X:Cx} {pins:List (Addr×Obj)} {σ:St} {H:Hp} {s:Shared}
theorem qfx{d:D}{v:V}(h:Rep X.K H d v){z:V}(e:dV d=some z):v=z:=by
 cases d<;>first|(unfold Rep at h;subst h;exact Option.some.inj e)|(cases e;done)
theorem qrm{d e:D}(h:cmpD d e=true)(h0:∀ds,d≠.tup ds)(h1:∀ds,d≠.lst ds):∃v z,dV d=some v/\dV e=some z/\scal v z=true:=by
 cases d<;>cases e<;>first|exact⟨_,_,rfl,rfl,rfl⟩|exact absurd rfl (h0 _)|exact absurd rfl (h1 _)|(unfold cmpD at h;cases h;done)
theorem qld{d:D}{v:V}(h:dV d=some v):qfq v=true:=by
 cases d<;>first|(cases h;rfl)|(cases h;done)
theorem qs1{v z:V}(h:scal v z=true)(hv:qfq v=true):eqV v z=decide (v=z):=by
 cases v<;>cases z<;>first|(cases h;done)|(cases hv;done)|rfl|(simp[eqV];done)|(unfold eqV;exact qa3 (by simp))
theorem qli{A':Around}{ds es:List D}{xs ys:List V}{its its2:List Value}(r1:Reps X.K H ds xs)(r2:Reps X.K H es ys)(v1:Vals xs its)(v2:Vals ys its2)(hc:qcl ds es=true)
  (ih:∀d∈ds,∀(e:D) (v z:V) (u w:Value),Rep X.K H d v->Rep X.K H e z->RelV v u->RelV z w->cmpD d e=true->SeqAt.EqAt A' s u w (eqD d e)) :
  ∀j (h1:j<its.toArray.size) (h2:j<its2.toArray.size),SeqAt.EqAt A' s its.toArray[j] its2.toArray[j] (eqD (ds.getD j .non) (es.getD j .non)):=λj h1 h2=>by
 have l1:j<ds.length:=by rw[r1.length,v1.length];simpa using h1
 have l2:j<es.length:=by rw[r2.length,v2.length];simpa using h2
 have q1:ds[j]?=some ds[j]:=List.getElem?_eq_getElem l1
 have q2:es[j]?=some es[j]:=List.getElem?_eq_getElem l2
 obtain⟨x,hx,rx⟩:=r1.at q1
 obtain⟨y,hy,ry⟩:=r2.at q2
 obtain⟨ux,hux,rux⟩:=v1.get hx
 obtain⟨uy,huy,ruy⟩:=v2.get hy
 have e1:its.toArray[j]=ux:=by
  have:its[j]?=some its.toArray[j]:=by simp
  rw[hux] at this
  exact(Option.some.inj this).symm
 have e2:its2.toArray[j]=uy:=by
  have:its2[j]?=some its2.toArray[j]:=by simp
  rw[huy] at this
  exact(Option.some.inj this).symm
 have e3:ds.getD j .non=ds[j]:=by simp[List.getD_eq_getElem?_getD,l1]
 have e4:es.getD j .non=es[j]:=by simp[List.getD_eq_getElem?_getD,l2]
 rw[e1,e2,e3,e4]
 exact ih ds[j] (List.getElem_mem l1) es[j] x y ux uy rx ry rux ruy (qmt hc q1 q2)
theorem qvs{A:Around}(I:Inv X pins σ H s){a b:Addr}{ds es:List D}{xs ys:List V}(ha:SqT X.K H a xs)(hb:SqT X.K H b ys)(r1:Reps X.K H ds xs)(r2:Reps X.K H es ys)(hc:qcl ds es=true)(hu:A.units<cLine)
  (ih:∀d∈ds,∀(e:D) (v z:V) (u w:Value),Rep X.K H d v->Rep X.K H e z->RelV v u->RelV z w->cmpD d e=true->SeqAt.EqAt A.in1 s u w (eqD d e)):SeqAt.RcAt A s (.ref a) (.ref b) (eqD (.tup ds) (.tup es)):=by
 obtain⟨its,v1,p1,_⟩:=I.tuple ha
 obtain⟨its2,v2,p2,_⟩:=I.tuple hb
 have:=SeqAt.RcAt.tuples (A:=A) (s:=s) (e:=λj=>eqD (ds.getD j .non) (es.getD j .non)) (show s.heap.IsTuple a its.toArray from p1) (show s.heap.IsTuple b its2.toArray from p2) hu (qli r1 r2 v1 v2 hc ih)
 rw[List.size_toArray,List.size_toArray,←v1.length,←v2.length,←r1.length,←r2.length,qhj] at this
 rw[qwt]
 exact this
theorem qvr{A:Around}(I:Inv X pins σ H s){a b:Addr}{ds es:List D}{xs ys:List V}(ha:H a=some (.lst xs))(hb:H b=some (.lst ys))(r1:Reps X.K H ds xs)(r2:Reps X.K H es ys)(hc:qcl ds es=true)(hu:A.units<cLine)
  (ih:∀d∈ds,∀(e:D) (v z:V) (u w:Value),Rep X.K H d v->Rep X.K H e z->RelV v u->RelV z w->cmpD d e=true->SeqAt.EqAt A.in1 s u w (eqD d e)):SeqAt.RcAt A s (.ref a) (.ref b) (eqD (.lst ds) (.lst es)):=by
 obtain⟨its,v1,p1,_⟩:=I.list (SqL.of ha)
 obtain⟨its2,v2,p2,_⟩:=I.list (SqL.of hb)
 have er:=qhj ds es
 rw[qws]
 by_cases hl:ds.length=es.length
 ·have hz:its.toArray.size=its2.toArray.size:=by rw[List.size_toArray,List.size_toArray,←v1.length,←v2.length,←r1.length,←r2.length,hl]
  have:=SeqAt.RcAt.lists (A:=A) (s:=s) (e:=λj=>eqD (ds.getD j .non) (es.getD j .non)) p1.isList p2.isList hz hu (qli r1 r2 v1 v2 hc ih)
  rw[List.size_toArray,←v1.length,←r1.length] at this
  rw[←hl,Nat.min_self] at er
  have e2:(ds.length==ds.length)=true:=by simp
  rw[e2,Bool.and_true] at er
  rw[er] at this
  exact this
 ·have e2:(ds.length==es.length)=false:=by simpa using hl
  rw[e2,Bool.and_false] at er
  rw[←er]
  refine SeqAt.RcAt.lists_lengths p1.isList p2.isList ?_ hu
  rw[List.size_toArray,List.size_toArray,←v1.length,←v2.length,←r1.length,←r2.length]
  simpa using hl
theorem qc6{ds:List D}{d:D}(h:d∈ds):depD d<=qb2 ds:=by
 obtain⟨j,hj⟩:=List.mem_iff_getElem?.mp h
 exact qmw hj
theorem qhi(I:Inv X pins σ H s):∀(n:Nat) (A:Around) (d e:D) (v z:V) (u w:Value),sizeOf d<=n->Rep X.K H d v->Rep X.K H e z->RelV v u->RelV z w->cmpD d e=true->A.units+depD d<cLine->SeqAt.EqAt A s u w (eqD d e)
|0,_,d,_,_,_,_,_,hn,_,_,_,_,_,_=>by cases d<;>simp at hn
|n+1,A,d,e,v,z,u,w,hn,hd,he,ru,rw',hc,hu=>by
  have un:A.in1.units=A.units+1:=rfl
  cases d with
 |tup ds =>
   cases e with
  |tup es =>
    have hd':=hd
    have he':=he
    unfold Rep at hd he
    obtain⟨a,xs,rfl,ha,r1⟩:=hd
    obtain⟨b,ys,rfl,hb,r2⟩:=he
    cases ru
    cases rw'
    unfold depD at hu
    by_cases hab:a=b
    ·subst hab
     rw[Rep.inj I hd' he' hc,qd6]
     exact SeqAt.EqAt.same _
    ·unfold cmpD at hc
     refine SeqAt.EqAt.of_refs hab (qvs I ha.sq hb.sq r1 r2 hc (by lia) λd hd e v z u w h1 h2 h3 h4 h5=>qhi I n A.in1 d e v z u w ?_ h1 h2 h3 h4 h5 ?_)
     ·have:=List.sizeOf_lt_of_mem hd
      simp at hn
      lia
     ·have:=qc6 hd
      lia
  |_=>unfold cmpD at hc;cases hc
 |lst ds =>
   cases e with
  |lst es =>
    have hd':=hd
    have he':=he
    unfold Rep at hd he
    obtain⟨a,xs,rfl,ha,r1⟩:=hd
    obtain⟨b,ys,rfl,hb,r2⟩:=he
    cases ru
    cases rw'
    unfold depD at hu
    by_cases hab:a=b
    ·subst hab
     rw[Rep.inj I hd' he' hc,qd6]
     exact SeqAt.EqAt.same _
    ·unfold cmpD at hc
     refine SeqAt.EqAt.of_refs hab (qvr I ha hb r1 r2 hc (by lia) λd hd e v z u w h1 h2 h3 h4 h5=>qhi I n A.in1 d e v z u w ?_ h1 h2 h3 h4 h5 ?_)
     ·have:=List.sizeOf_lt_of_mem hd
      simp at hn
      lia
     ·have:=qc6 hd
      lia
  |_=>unfold cmpD at hc;cases hc
 |_ =>
   obtain⟨v',z',q1,q2,q3⟩:=qrm hc (λ_ h=>by cases h) (λ_ h=>by cases h)
   have e1:=qfx hd q1
   have e2:=qfx he q2
   subst e1 e2
   rw[qmz q1 q2,←qs1 q3 (qld q1)]
   exact qvb ru rw' (qld q1) (qld q2)
def rEqD(K:PySem.W.Frag)(g:Bool->Bool):R2:=λx y H Q=>∃d e,Rep K H d x/\Rep K H e y/\cmpD d e=true/\depD d<=50/\Q (.bl (g (eqD d e))) H
theorem q0w(hu:X.A.units+60<cLine):OpR X (compareOp .Eq) (rEqD X.K id):=by
 intro pins s σ H x y v u Q I rx ry h
 obtain⟨d,e,hd,he,hc,hn,q⟩:=h
 have fin:EP X pins σ Q (.bool (eqD d e)) s:=⟨.bl (eqD d e),H,I,rfl,q⟩
 have un:X.A.in1.units=X.A.units+1:=rfl
 cases d with
|tup ds =>
  cases e with
 |tup es =>
   unfold Rep at hd he
   obtain⟨a,xs,rfl,ha,r1⟩:=hd
   obtain⟨b,ys,rfl,hb,r2⟩:=he
   cases rx
   cases ry
   unfold cmpD at hc
   unfold depD at hn
   exact qvs I ha.sq hb.sq r1 r2 hc (by lia) (λd hd e v z u w h1 h2 h3 h4 h5=>qhi I _ X.A.in1 d e v z u w (Nat.le_refl _) h1 h2 h3 h4 h5 (by have:=qc6 hd;lia)) _ _ _ _ fin
 |_=>unfold cmpD at hc;cases hc
|lst ds =>
  cases e with
 |lst es =>
   unfold Rep at hd he
   obtain⟨a,xs,rfl,ha,r1⟩:=hd
   obtain⟨b,ys,rfl,hb,r2⟩:=he
   cases rx
   cases ry
   unfold cmpD at hc
   unfold depD at hn
   exact qvr I ha hb r1 r2 hc (by lia) (λd hd e v z u w h1 h2 h3 h4 h5=>qhi I _ X.A.in1 d e v z u w (Nat.le_refl _) h1 h2 h3 h4 h5 (by have:=qc6 hd;lia)) _ _ _ _ fin
 |_=>unfold cmpD at hc;cases hc
|_ =>
  obtain⟨v',z',q1,q2,q3⟩:=qrm hc (λ_ h=>by cases h) (λ_ h=>by cases h)
  have e1:=qfx hd q1
  have e2:=qfx he q2
  subst e1 e2
  have q':Q (.bl (eqD _ _)) H:=q
  rw[qmz q1 q2] at q'
  exact q3g pins s σ H _ _ v u Q I rx ry ⟨q3,q'⟩
end
end L2
namespace L2
open PySem PySem.Spec PyProof.Rows
inductive R where
|val (d:D)
|own (d:D)
|peek (d:D)
|exc (n:Str)
def R.d:R->D
|.val d=>d
|.own d=>d
|.peek d=>d
|.exc _=>.scr []
abbrev VSt:=List (Option R)
def ioA:D->Option Addr
|.io c _=>some c
|.ioT c _ _=>some c
|_=>none
def OwnAt(K:PySem.W.Frag)(B H:Hp)(d:D)(a:Addr):Prop:=match d with
|.lst ds=>∃xs,H a=some (.lst xs)/\Reps K B ds xs
|.dT ks ds=>∃kvs,H a=some (.dT kvs)/\kvs.map (·.1)=ks.map wK/\Reps K B ds (kvs.map (·.2))
|.dK ks ds=>∃kvs,H a=some (.dK kvs)/\kvs.map (·.1)=ks.map Sum.inr/\Reps K B ds (kvs.map (·.2))
|.io c ds=>∃xs,H a=some (.lst xs)/\a=c/\Reps K B ds xs
|.ioT c ks ds=>∃kvs,H a=some (.dT kvs)/\a=c/\kvs.map (·.1)=ks.map wK/\Reps K B ds (kvs.map (·.2))
|_=>False
def Pk(K:PySem.W.Frag)(B H:Hp)(r:R)(v:V):Prop:=match r with
|.val d=>Rep K B d v
|.own d=>∃a,v=.ref a/\B a=none/\OwnAt K B H d a
|.peek d=>∃a,v=.ref a/\B a=none/\OwnAt K B H d a
|.exc _=>False
def RepR(K:PySem.W.Frag)(B H0 H:Hp)(r:R)(v:V):Prop:=match r with
|.val d=>Rep K B d v
|.own d=>∃a,v=.ref a/\H0 a=none/\B a=none/\OwnAt K B H d a
|.peek d=>∃a,v=.ref a/\B a=none/\OwnAt K B H d a
|.exc _=>False
structure Stp(B H B' H':Hp):Prop where
 b:Same B B'
 h:Same H H'
 s:Same B' H'
 d:∀a,B' a≠none->B a≠none\/H a=none\/∃xs,H a=some (.tup xs)
theorem Stp.refl{B H:Hp}(s:Same B H):Stp B H B H:=⟨Same.refl _,Same.refl _,s,λ_ h=>.inl h⟩
theorem Stp.trans{B H B1 H1 B2 H2:Hp}(p:Stp B H B1 H1)(q:Stp B1 H1 B2 H2):Stp B H B2 H2 :=
 ⟨p.b.trans q.b,p.h.trans q.h,q.s,λa h=>by
  rcases q.d a h with z|z|⟨xs,z⟩
  ·exact p.d a z
  ·exact .inr (.inl (p.h.free z))
  ·cases e:H a with
  |none=>exact .inr (.inl rfl)
  |some o =>
    rw[p.h _ _ e] at z
    exact .inr (.inr ⟨xs,z⟩)⟩
theorem Stp.keep{B H B' H':Hp}(p:Stp B H B' H'){a:Addr}(hb:B a=none)(hh:H a≠none)(nt:∀xs,H a≠some (.tup xs)):B' a=none:=by
 cases e:B' a with
|none=>rfl
|some o =>
  rcases p.d a (by rw[e];exact λz=>by cases z) with z|z|⟨xs,z⟩
  ·exact absurd hb z
  ·exact absurd z hh
  ·exact absurd z (nt xs)
theorem Stp.grow{B H H':Hp}(s:Same B H)(h:Same H H'):Stp B H B H':=⟨Same.refl _,h,s.trans h,λ_ z=>.inl z⟩
theorem Stp.new{B H:Hp}{p:Addr}{o:HO}(s:Same B H)(hp:H p=none):Stp B H (upd B p o) (upd H p o) :=
 ⟨qak (s.free hp) o,qak hp o,λb u e=>by
  unfold upd at e ⊢
  by_cases z:b=p
  ·rw[if_pos z] at e ⊢
   exact e
  ·rw[if_neg z] at e ⊢
   exact s _ _ e,λa h=>by
  by_cases z:a=p
  ·exact .inr (.inl (z▸hp))
  ·rw[qau z] at h
   exact .inl h⟩
section
variable {K:PySem.W.Frag} {B H B' H' H0:Hp} {d:D} {a:Addr} {r:R} {v:V}
theorem OwnAt.some(h:OwnAt K B H d a):H a≠none:=by
 unfold OwnAt at h
 split at h
 ·obtain⟨xs,e,_⟩:=h;rw[e];exact λz=>by cases z
 ·obtain⟨xs,e,_⟩:=h;rw[e];exact λz=>by cases z
 ·obtain⟨xs,e,_⟩:=h;rw[e];exact λz=>by cases z
 ·obtain⟨xs,e,_⟩:=h;rw[e];exact λz=>by cases z
 ·obtain⟨xs,e,_⟩:=h;rw[e];exact λz=>by cases z
 ·exact h.elim
theorem OwnAt.nt(h:OwnAt K B H d a):∀xs,H a≠Option.some (.tup xs):=by
 intro ys
 unfold OwnAt at h
 split at h
 ·obtain⟨xs,e,_⟩:=h;rw[e];exact λz=>by cases z
 ·obtain⟨xs,e,_⟩:=h;rw[e];exact λz=>by cases z
 ·obtain⟨xs,e,_⟩:=h;rw[e];exact λz=>by cases z
 ·obtain⟨xs,e,_⟩:=h;rw[e];exact λz=>by cases z
 ·obtain⟨xs,e,_⟩:=h;rw[e];exact λz=>by cases z
 ·exact h.elim
theorem OwnAt.step(h:OwnAt K B H d a)(b:Same B B')(e:H' a=H a):OwnAt K B' H' d a:=by
 unfold OwnAt at h ⊢
 split at h
 ·obtain⟨xs,q,r⟩:=h;exact⟨xs,by rw[e,q],r.same b⟩
 ·obtain⟨xs,q,k,r⟩:=h;exact⟨xs,by rw[e,q],k,r.same b⟩
 ·obtain⟨xs,q,k,r⟩:=h;exact⟨xs,by rw[e,q],k,r.same b⟩
 ·obtain⟨xs,q,k,r⟩:=h;exact⟨xs,by rw[e,q],k,r.same b⟩
 ·obtain⟨xs,q,z,k,r⟩:=h;exact⟨xs,by rw[e,q],z,k,r.same b⟩
 ·exact h.elim
theorem Same.at{a:Addr}(h:Same H H')(n:H a≠none):H' a=H a:=by
 cases e:H a with
|none=>exact absurd e n
|some o=>exact h _ _ e
theorem Pk.step(h:Pk K B H r v)(p:Stp B H B' H'):Pk K B' H' r v:=by
 cases r with
|val d=>exact Rep.same p.b h
|own d =>
  obtain⟨a,e,q,o⟩:=h
  exact⟨a,e,p.keep q o.some o.nt,o.step p.b (p.h.at o.some)⟩
|peek d =>
  obtain⟨a,e,q,o⟩:=h
  exact⟨a,e,p.keep q o.some o.nt,o.step p.b (p.h.at o.some)⟩
|exc n=>exact h.elim
theorem RepR.pk(h:RepR K B H0 H r v):Pk K B H r v:=by
 cases r with
|val d=>exact h
|own d =>
  obtain⟨a,e,_,q,o⟩:=h
  exact⟨a,e,q,o⟩
|peek d=>exact h
|exc n=>exact h
theorem OwnAt.rep(s:Same B H)(h:OwnAt K B H d a):Rep K H d (.ref a):=by
 unfold OwnAt at h
 split at h
 ·obtain⟨xs,q,r⟩:=h;unfold Rep;exact⟨a,xs,rfl,q,r.same s⟩
 ·obtain⟨xs,q,k,r⟩:=h;unfold Rep;exact⟨a,xs,rfl,.inl q,k,r.same s⟩
 ·obtain⟨xs,q,k,r⟩:=h;unfold Rep;exact⟨a,xs,rfl,q,k,r.same s⟩
 ·obtain⟨xs,q,rfl,r⟩:=h;unfold Rep;exact⟨xs,rfl,q,r.same s⟩
 ·obtain⟨xs,q,rfl,k,r⟩:=h;unfold Rep;exact⟨xs,rfl,q,k,r.same s⟩
 ·exact h.elim
theorem Pk.rep(s:Same B H)(h:Pk K B H r v):Rep K H r.d v:=by
 cases r with
|val d=>exact Rep.same s h
|own d =>
  obtain⟨a,rfl,_,o⟩:=h
  exact o.rep s
|peek d =>
  obtain⟨a,rfl,_,o⟩:=h
  exact o.rep s
|exc n=>exact h.elim
theorem OwnAt.pub(h:OwnAt K B H d a)(hb:B a=none):∃o,H a=Option.some o/\Rep K (upd B a o) d (.ref a):=by
 unfold OwnAt at h
 split at h
 ·obtain⟨xs,q,r⟩:=h
  refine⟨_,q,?_⟩
  unfold Rep
  exact⟨a,xs,rfl,qa0,r.same (qak hb _)⟩
 ·obtain⟨xs,q,k,r⟩:=h
  refine⟨_,q,?_⟩
  unfold Rep
  exact⟨a,xs,rfl,.inl qa0,k,r.same (qak hb _)⟩
 ·obtain⟨xs,q,k,r⟩:=h
  refine⟨_,q,?_⟩
  unfold Rep
  exact⟨a,xs,rfl,qa0,k,r.same (qak hb _)⟩
 ·obtain⟨xs,q,rfl,r⟩:=h
  refine⟨_,q,?_⟩
  unfold Rep
  exact⟨xs,rfl,qa0,r.same (qak hb _)⟩
 ·obtain⟨xs,q,rfl,k,r⟩:=h
  refine⟨_,q,?_⟩
  unfold Rep
  exact⟨xs,rfl,qa0,k,r.same (qak hb _)⟩
 ·exact h.elim
theorem qgr{o:HO}(s:Same B H)(e:H a=Option.some o):Same (upd B a o) H:=λb u q=>by
 unfold upd at q
 by_cases z:b=a
 ·rw[if_pos z] at q
  rw[z,e]
  exact q
 ·rw[if_neg z] at q
  exact s _ _ q
def pubR:R->(D->Prop)->Prop
|.val d,Q=>Q d
|.own d,Q=>Q d
|.peek _,_=>False
|.exc _,_=>False
def exR:R->(R->Prop)->Prop->Prop
|.exc n,Q,_=>Q (.exc n)
|.val _,_,k=>k
|.own _,_,k=>k
|.peek _,_,k=>k
theorem pub{Q:D->Prop}(p:Stp B H B' H')(h:RepR K B' H H' r v)(q:pubR r Q):∃d B2,Stp B H B2 H'/\Same B' B2/\Rep K B2 d v/\Q d:=by
 cases r with
|val d=>exact⟨d,B',p,Same.refl _,h,q⟩
|own d =>
  obtain⟨a,rfl,h0,hb,o⟩:=h
  obtain⟨u,e,rp⟩:=o.pub hb
  refine⟨d,upd B' a u,⟨p.b.trans (qak hb _),p.h,qgr p.s e,λc z=>?_⟩,qak hb _,rp,q⟩
  by_cases w:c=a
  ·exact .inr (.inl (w▸h0))
  ·rw[qau w] at z
   exact p.d c z
|peek d=>exact q.elim
|exc n=>exact q.elim
def FzAt(K:PySem.W.Frag)(B:Hp)(d:D)(v:V):Prop:=∃a ks ds kvs o,d=.dT ks ds/\v=.ref a/\B a=some (.frz o (.dT kvs))/\kvs.map (·.1)=ks.map wK/\Reps K B ds (kvs.map (·.2))
theorem FzAt.same(h:FzAt K B d v)(s:Same B B'):FzAt K B' d v:=by
 obtain⟨a,ks,ds,kvs,o,e1,e2,e3,e4,e5⟩:=h
 exact⟨a,ks,ds,kvs,o,e1,e2,s _ _ e3,e4,e5.same s⟩
theorem FzAt.rep(h:FzAt K B d v):Rep K B d v:=by
 obtain⟨a,ks,ds,kvs,o,rfl,e2,e3,e4,e5⟩:=h
 unfold Rep
 exact⟨a,kvs,e2,.inr ⟨o,e3⟩,e4,e5⟩
structure Slots(K:PySem.W.Frag)(H0 B H:Hp)(τ:VSt)(σ:St):Prop where
 len:σ.length=τ.length
 val:∀(i:Nat) (d:D),τ[i]?=some (some (R.val d))->∃v,σ[i]?=some (some v)/\Rep K B d v
 fz:∀(i:Nat) (d:D),τ[i]?=some (some (R.peek d))->∃v,σ[i]?=some (some v)/\FzAt K B d v
 own:∀(i:Nat) (d:D),τ[i]?=some (some (R.own d))->∃a,σ[i]?=some (some (.ref a))/\H0 a=none/\B a=none/\OwnAt K B H d a
 sep:∀(i j:Nat) (d e:D) (a:Addr),τ[i]?=some (some (R.own d))->τ[j]?=some (some (R.own e))->σ[i]?=some (some (.ref a))->σ[j]?=some (some (.ref a))->i=j
variable {τ:VSt} {σ:St}
theorem Slots.step(S:Slots K H0 B H τ σ)(p:Stp B H B' H'):Slots K H0 B' H' τ σ where
 len:=S.len
 val:=λi d e=>let ⟨v,q,r⟩:=S.val i d e;⟨v,q,r.same p.b⟩
 fz:=λi d e=>let ⟨v,q,r⟩:=S.fz i d e;⟨v,q,r.same p.b⟩
 own:=λi d e=>let ⟨a,q,h0,hb,o⟩:=S.own i d e;⟨a,q,h0,p.keep hb o.some o.nt,o.step p.b (p.h.at o.some)⟩
 sep:=S.sep
theorem qat{α:Type}{xs:List α}{i j:Nat}{x y:α}(h:(xs.set i x)[j]?=some y):(i=j/\x=y/\i<xs.length)\/(i≠j/\xs[j]?=some y):=by
 by_cases e:i=j
 ·subst e
  by_cases l:i<xs.length
  ·rw[List.getElem?_set_self l] at h
   exact .inl ⟨rfl,Option.some.inj h,l⟩
  ·rw[List.getElem?_eq_none (by rw[List.length_set];lia)] at h
   cases h
 ·rw[List.getElem?_set_ne e] at h
  exact .inr ⟨e,h⟩
theorem Slots.setVal(S:Slots K H0 B H τ σ)(i:Nat)(h:Rep K B d v):Slots K H0 B H (τ.set i (some (.val d))) (σ.set i (some v)) where
 len:=by rw[List.length_set,List.length_set,S.len]
 val:=λj e q=>by
  rcases qat q with ⟨rfl,z,l⟩|⟨n,q⟩
  ·cases z
   exact⟨v,List.getElem?_set_self (by rw[S.len];exact l),h⟩
  ·obtain⟨w,q,r⟩:=S.val j e q
   exact⟨w,by rw[List.getElem?_set_ne n];exact q,r⟩
 fz:=λj e q=>by
  rcases qat q with ⟨rfl,z,l⟩|⟨n,q⟩
  ·cases z
  ·obtain⟨w,q,r⟩:=S.fz j e q
   exact⟨w,by rw[List.getElem?_set_ne n];exact q,r⟩
 own:=λj e q=>by
  rcases qat q with ⟨rfl,z,l⟩|⟨n,q⟩
  ·cases z
  ·obtain⟨w,q,r⟩:=S.own j e q
   exact⟨w,by rw[List.getElem?_set_ne n];exact q,r⟩
 sep:=λj k e f c q1 q2 q3 q4=>by
  rcases qat q1 with ⟨rfl,z,l⟩|⟨n,q1⟩
  ·cases z
  rcases qat q2 with ⟨rfl,z,l⟩|⟨n2,q2⟩
  ·cases z
  rw[List.getElem?_set_ne n] at q3
  rw[List.getElem?_set_ne n2] at q4
  exact S.sep j k e f c q1 q2 q3 q4
theorem Slots.setOwn(S:Slots K H0 B H τ σ)(i:Nat)(h0:H0 a=none)(hb:B a=none)(o:OwnAt K B H d a)(nw:∀(j:Nat) (e:D),τ[j]?=some (some (.own e))->σ[j]?≠some (some (.ref a))) :
  Slots K H0 B H (τ.set i (some (.own d))) (σ.set i (some (.ref a))) where
 len:=by rw[List.length_set,List.length_set,S.len]
 val:=λj e q=>by
  rcases qat q with ⟨rfl,z,l⟩|⟨n,q⟩
  ·cases z
  ·obtain⟨w,q,r⟩:=S.val j e q
   exact⟨w,by rw[List.getElem?_set_ne n];exact q,r⟩
 fz:=λj e q=>by
  rcases qat q with ⟨rfl,z,l⟩|⟨n,q⟩
  ·cases z
  ·obtain⟨w,q,r⟩:=S.fz j e q
   exact⟨w,by rw[List.getElem?_set_ne n];exact q,r⟩
 own:=λj e q=>by
  rcases qat q with ⟨rfl,z,l⟩|⟨n,q⟩
  ·cases z
   exact⟨a,List.getElem?_set_self (by rw[S.len];exact l),h0,hb,o⟩
  ·obtain⟨w,q,r⟩:=S.own j e q
   exact⟨w,by rw[List.getElem?_set_ne n];exact q,r⟩
 sep:=λj k e f c q1 q2 q3 q4=>by
  rcases qat q1 with ⟨rfl,z,l⟩|⟨n,q1⟩
  ·rcases qat q2 with ⟨rfl,z,l2⟩|⟨n2,q2⟩
   ·rfl
   ·rw[List.getElem?_set_self (by rw[S.len];exact l)] at q3
    cases q3
    rw[List.getElem?_set_ne n2] at q4
    exact absurd q4 (nw k f q2)
  ·rcases qat q2 with ⟨rfl,z,l2⟩|⟨n2,q2⟩
   ·rw[List.getElem?_set_self (by rw[S.len];exact l2)] at q4
    cases q4
    rw[List.getElem?_set_ne n] at q3
    exact absurd q3 (nw j e q1)
   ·rw[List.getElem?_set_ne n] at q3
    rw[List.getElem?_set_ne n2] at q4
    exact S.sep j k e f c q1 q2 q3 q4
theorem Slots.upd(S:Slots K H0 B H τ σ){i:Nat}{e:D}{o:HO}(hi:τ[i]?=some (some (.own e)))(ha:σ[i]?=some (some (.ref a)))(n:OwnAt K B (upd H a o) d a) :
  Slots K H0 B (upd H a o) (τ.set i (some (.own d))) σ where
 len:=by rw[List.length_set,S.len]
 val:=λj f q=>by
  rcases qat q with ⟨rfl,z,l⟩|⟨n,q⟩
  ·cases z
  ·exact S.val j f q
 fz:=λj f q=>by
  rcases qat q with ⟨rfl,z,l⟩|⟨n,q⟩
  ·cases z
  ·exact S.fz j f q
 own:=λj f q=>by
  rcases qat q with ⟨rfl,z,l⟩|⟨ne,q⟩
  ·cases z
   obtain⟨c,q1,h0,hb,_⟩:=S.own i e hi
   rw[ha] at q1
   cases q1
   exact⟨a,ha,h0,hb,n⟩
  ·obtain⟨c,q1,h0,hb,w⟩:=S.own j f q
   refine⟨c,q1,h0,hb,w.step (Same.refl _) (qau λz=>?_)⟩
   subst z
   exact ne (S.sep i j e f c hi q ha q1)
 sep:=λj k e' f c q1 q2 q3 q4=>by
  have hj:∃e',τ[j]?=some (some (.own e')):=by
   rcases qat q1 with ⟨rfl,z,l⟩|⟨_,q⟩
   ·exact⟨e,hi⟩
   ·exact⟨_,q⟩
  have hk:∃e',τ[k]?=some (some (.own e')):=by
   rcases qat q2 with ⟨rfl,z,l⟩|⟨_,q⟩
   ·exact⟨e,hi⟩
   ·exact⟨_,q⟩
  obtain⟨_,hj⟩:=hj
  obtain⟨_,hk⟩:=hk
  exact S.sep j k _ _ c hj hk q3 q4
theorem Stp.upd(p:Stp B H B' H'){o:HO}(h0:H a=none)(hb:B' a=none):Stp B H B' (L2.upd H' a o) :=
 ⟨p.b,p.h.put h0,λb u q=>by
  rw[qau (λz=>by rw[z,hb] at q;cases q)]
  exact p.s _ _ q,p.d⟩
def frz(i:Nat)(τ:VSt):VSt:=match τ[i]? with
|some (some (.own d))=>τ.set i (some (.val d))
|_=>τ
end
end L2
namespace L2
open PySem PySem.Spec PyProof.Rows
abbrev TV:=VSt->(R->Prop)->Prop
abbrev TVT:=VSt->(Bool->Prop)->Prop
inductive AR where
|ok (ds:List D)
|exc (n:Str)
abbrev TVA:=VSt->(AR->Prop)->Prop
abbrev TVG:=D->VSt->(VSt->Prop)->Prop
structure VEnds where
 nx:VSt->Prop
 rt:R->Prop
 bk:VSt->Prop:=λ_=>False
 ct:VSt->Prop:=λ_=>False
 xc:VSt->Str->Prop:=λ_ _=>False
 ro:VSt->R->Prop:=λ_ _=>False
abbrev TVS:=VEnds->VSt->Prop
section
variable (K:PySem.W.Frag) (EX:St->XK)
def RfE(te:TE)(t:TV):Prop:=∀(H0 B H:Hp) (τ:VSt) (σ:St) (Q:VK) (Qd:R->Prop),Same B H->Slots K H0 B H τ σ->t τ Qd->(∀n C B' H',Stp B H B' H'->clsOf K n C->Qd (.exc n)->EX σ (.ref C) none H')->(∀r v B' H',Stp B H B' H'->RepR K B' H H' r v->Qd r->Q v H')->te σ H Q
def RfT(te:TT)(t:TVT):Prop:=∀(H0 B H:Hp) (τ:VSt) (σ:St) (Q:Bool->Hp->Prop) (Qd:Bool->Prop),Same B H->Slots K H0 B H τ σ->t τ Qd->(∀b B' H',Stp B H B' H'->Qd b->Q b H')->te σ H Q
def RfA(te:TA)(t:TVA):Prop:=∀(H0 B H:Hp) (τ:VSt) (σ:St) (Q:List V->Hp->Prop) (Qd:AR->Prop),Same B H->Slots K H0 B H τ σ->t τ Qd->(∀n C B' H',Stp B H B' H'->clsOf K n C->Qd (.exc n)->EX σ (.ref C) none H')->(∀ds vs B' H',Stp B H B' H'->Reps K B' ds vs->Qd (.ok ds)->Q vs H')->te σ H Q
def RfO(r:R2)(rd:R->R->(R->Prop)->Prop):Prop:=∀(B H:Hp) (x y:V) (rx ry:R) (Q:VK) (Qd:R->Prop),Same B H->Pk K B H rx x->Pk K B H ry y->rd rx ry Qd->(∀r v B' H',Stp B H B' H'->RepR K B' H H' r v->Qd r->Q v H')->r x y H Q
def RfC(r:List V->Hp->VK->Prop)(rd:R->(R->Prop)->Prop):Prop:=∀(B H:Hp) (x:V) (rx:R) (Q:VK) (Qd:R->Prop),Same B H->Pk K B H rx x->rd rx Qd->(∀r v B' H',Stp B H B' H'->RepR K B' H H' r v->Qd r->Q v H')->r [x] H Q
def Kp(τ:VSt)(σ:St)(τ':VSt)(σ':St):Prop:=∀(j:Nat) (e:D),τ'[j]?=some (some (R.own e))->τ[j]?=some (some (R.own e))/\σ'[j]?=σ[j]?
def RfG(g:TG)(t:TVG):Prop:=∀(H0 B H:Hp) (τ:VSt) (σ:St) (x:V) (d:D) (Q:St->Hp->Prop) (Qd:VSt->Prop),Same B H->Slots K H0 B H τ σ->Rep K B d x->t d τ Qd->(∀τ' σ',Slots K H0 B H τ' σ'->Kp τ σ τ' σ'->Qd τ'->Q σ' H)->g x σ H Q
def RfGs(g:TGs)(t:List D->VSt->(VSt->Prop)->Prop):Prop:=∀(H0 B H:Hp) (τ:VSt) (σ:St) (xs:List V) (ds:List D) (Q:St->Hp->Prop) (Qd:VSt->Prop),Same B H->Slots K H0 B H τ σ->Reps K B ds xs->t ds τ Qd->(∀τ' σ',Slots K H0 B H τ' σ'->Kp τ σ τ' σ'->Qd τ'->Q σ' H)->g xs σ H Q
def ItOk(B:Hp)(J:It)(ds:List D):Prop:=∀(i:Nat) (B2 H:Hp),Same B B2->Same B2 H->(∀d,ds[i]?=some d->J.go i H/\∀x H',J.yld i H x H'->∃B3,Stp B2 H B3 H'/\Rep K B3 d x)/\(ds[i]?=none->J.stop i H)
def RfI(wi:TI)(vi:TVA):Prop:=∀(H0 B H:Hp) (τ:VSt) (σ:St) (Q:It->Hp->Prop) (Qd:AR->Prop),Same B H->Slots K H0 B H τ σ->vi τ Qd->(∀n C B' H',Stp B H B' H'->clsOf K n C->Qd (.exc n)->EX σ (.ref C) none H')->(∀J ds B' H',Stp B H B' H'->ItOk K B' J ds->Qd (.ok ds)->Q J H')->wi σ H Q
def RfF(ti:TF)(t:TVT):Prop:=∀(H0 B H:Hp) (τ:VSt) (σ:St) (Y N:Hp->Prop) (Qd:Bool->Prop),Same B H->Slots K H0 B H τ σ->t τ Qd->(∀b B' H',Stp B H B' H'->Qd b->if b=true then Y H' else N H')->ti σ H Y N
structure EndsOk(B0 H0:Hp)(Dv:VEnds)(Dh:Ends):Prop where
 nx:∀B H τ σ,Stp B0 H0 B H->Slots K H0 B H τ σ->Dv.nx τ->Dh.nx σ H
 rt:∀r v B H,Stp B0 H0 B H->RepR K B H0 H r v->Dv.rt r->Dh.rt v H
 bk:∀B H τ σ,Stp B0 H0 B H->Slots K H0 B H τ σ->Dv.bk τ->Dh.bk σ H
 ct:∀B H τ σ,Stp B0 H0 B H->Slots K H0 B H τ σ->Dv.ct τ->Dh.ct σ H
 xc:∀B H τ σ n C,Stp B0 H0 B H->Slots K H0 B H τ σ->clsOf K n C->Dv.xc τ n->EX σ (.ref C) none H
 ro:∀r v B H τ σ,Stp B0 H0 B H->Slots K H0 B H τ σ->RepR K B H0 H r v->(∀(d e:D) (i:Nat) (c:Addr),r=R.own d->τ[i]?=some (some (R.own e))->ioA e=some c->v≠.ref c)->Dv.ro τ r->Dh.rt v H
def RfS(ts:TS)(t:TVS):Prop:=∀(B0 H0 B H:Hp) (τ:VSt) (σ:St) (Dv:VEnds) (Dh:Ends),Stp B0 H0 B H->Slots K H0 B H τ σ->t Dv τ->EndsOk K EX B0 H0 Dv Dh->ts Dh σ H
end
section
structure VE(X:Cx)(EX:St->XK)(e:Expr)(t:TV):Prop where
 u:∃te,QE X e te/\RfE X.K EX te t
structure VC(X:Cx)(EX:St->XK)(e:Expr)(t:TV):Prop where
 u:∃te,QC X e te/\RfE X.K EX te t
structure VT(X:Cx)(EX:St->XK)(e:Expr)(t:TVT):Prop where
 u:∃te,QT X e te/\RfT X.K te t
structure VW(X:Cx)(EX:St->XK)(e:Expr)(t:TVT):Prop where
 u:∃te,QW X e te/\RfT X.K te t
structure VA(X:Cx)(EX:St->XK)(es:List Expr)(t:TVA):Prop where
 u:∃te,QA X es te/\RfA X.K EX te t
structure VI(X:Cx)(EX:St->XK)(tg e:Expr)(t:TVA):Prop where
 u:∃wi,QI X tg e wi/\RfI X.K EX wi t
structure VFs(X:Cx)(EX:St->XK)(ifs:List Expr)(t:TVT):Prop where
 u:∃ti,QF X ifs ti/\RfF X.K ti t
structure VS(X:Cx)(EX:St->XK)(st:Stmt)(t:TVS):Prop where
 u:∃ts,QS X st ts/\RfS X.K EX ts t
structure VSs(X:Cx)(EX:St->XK)(st:List Stmt)(t:TVS):Prop where
 u:∃ts,QSs X st ts/\RfS X.K EX ts t
end
section
variable (X:Cx)
structure VO(f:Value->Value->Sem Value)(rd:R->R->(R->Prop)->Prop):Prop where
 u:∃r,OpR X f r/\RfO X.K r rd
structure VX(rd:R->R->(R->Prop)->Prop):Prop where
 u:∃r,IxR X r/\RfO X.K r rd
structure VF(f:Value)(rd:R->(R->Prop)->Prop):Prop where
 u:∃r,CallR X f r/\RfC X.K r rd
structure VG(tg:Expr)(t:TVG):Prop where
 u:∃g,QG X tg g/\RfG X.K g t
structure VGs(ts:List Expr)(t:List D->VSt->(VSt->Prop)->Prop):Prop where
 u:∃g,QGs X ts g/\RfGs X.K g t
end
section
variable {X:Cx} {EX:St->XK} {K:PySem.W.Frag} {a b c e o i:Expr} {es:List Expr} {pos pos' p p2 apos cpos:Pos} {x:Str} {ta tb tc te:TV} {tA:TVA} {tT tU:TVT} {B H B' H' H0 H1 H2:Hp} {r:R} {v:V}
theorem RepR.back(h:RepR K B H1 H2 r v)(s:Same H H1):RepR K B H H2 r v:=by
 cases r with
|val d=>exact h
|own d =>
  obtain⟨a,e,h0,q⟩:=h
  exact⟨a,e,s.free h0,q⟩
|peek d=>exact h
|exc n=>exact h
theorem Pk.scal{z:V}(h:Pk K B H r v)(e:dV r.d=some z):v=z:=by
 cases r with
|val d =>
  have e':dV d=some z:=e
  have h':Rep K B d v:=h
  cases d<;>first|(unfold Rep at h';subst h';exact Option.some.inj e')|(cases e';done)
|own d =>
  obtain⟨a,_,_,q⟩:=h
  have e':dV d=some z:=e
  cases d<;>first|(cases e';done)|exact q.elim
|peek d =>
  obtain⟨a,_,_,q⟩:=h
  have e':dV d=some z:=e
  cases d<;>first|(cases e';done)|exact q.elim
|exc n=>exact h.elim
theorem Pk.tup{ds:List D}(h:Pk K B H r v)(e:r.d=.tup ds):∃a xs,v=.ref a/\TupAt K B a ds xs/\Reps K B ds xs:=by
 cases r with
|val d =>
  cases (show d=_ from e)
  have h':Rep K B (.tup ds) v:=h
  unfold Rep at h'
  exact h'
|own d=>cases (show d=_ from e);obtain⟨_,_,_,q⟩:=h;exact q.elim
|peek d=>cases (show d=_ from e);obtain⟨_,_,_,q⟩:=h;exact q.elim
|exc n=>exact h.elim
theorem Pk.lst{ds:List D}(s:Same B H)(h:Pk K B H r v)(e:r.d=.lst ds):∃a xs,v=.ref a/\H a=some (.lst xs)/\Reps K B ds xs:=by
 cases r with
|val d =>
  cases (show d=_ from e)
  have h':Rep K B (.lst ds) v:=h
  unfold Rep at h'
  obtain⟨a,xs,rfl,q,rp⟩:=h'
  exact⟨a,xs,rfl,s _ _ q,rp⟩
|own d=>cases (show d=_ from e);obtain⟨a,rfl,_,xs,q,rp⟩:=h;exact⟨a,xs,rfl,q,rp⟩
|peek d=>cases (show d=_ from e);obtain⟨a,rfl,_,xs,q,rp⟩:=h;exact⟨a,xs,rfl,q,rp⟩
|exc n=>exact h.elim
theorem Pk.scr{ns:List Int}(s:Same B H)(h:Pk K B H r v)(e:r.d=.scr ns):∃a,v=.ref a/\SqL K H a (ns.map V.int):=by
 cases r with
|val d =>
  cases (show d=_ from e)
  have h':Rep K B (.scr ns) v:=h
  unfold Rep at h'
  obtain⟨a,rfl,q⟩:=h'
  exact⟨a,rfl,s.seq q⟩
|own d=>cases (show d=_ from e);obtain⟨_,_,_,q⟩:=h;exact q.elim
|peek d=>cases (show d=_ from e);obtain⟨_,_,_,q⟩:=h;exact q.elim
|exc n=>exact h.elim
theorem qgq{d:D}{z:V}(e:dV d=some z):Rep K B d z:=by
 cases d<;>first|(cases e;done)|(unfold Rep;exact(Option.some.inj e).symm)
theorem repV{d:D}{z:V}(e:dV d=some z):RepR K B H0 H (.val d) z:=qgq e
theorem xst{B1:Hp}{σ:St}{P:Str->Prop}(x:∀n C B' H',Stp B H B' H'->clsOf K n C->P n->EX σ (.ref C) none H')(p:Stp B H B1 H1):∀n C B' H',Stp B1 H1 B' H'->clsOf K n C->P n->EX σ (.ref C) none H':=λn C B' H' q c h=>x n C B' H' (p.trans q) c h
theorem xno{σ:St}{P:Str->Prop}(h:∀n,¬ P n):∀n C B' H',Stp B H B' H'->clsOf K n C->P n->EX σ (.ref C) none H':=λn _ _ _ _ _ q=>absurd q (h n)
def vVar(i:Nat):TV:=λτ Q=>match τ[i]? with
|some (some (.val d))=>Q (.val d)
|some (some (.own d))=>Q (.peek d)
|some (some (.peek d))=>Q (.val d)
|_=>False
theorem q2f{i:Nat}:RfE K EX (tVar i) (vVar i):=λH0 B H τ σ Q Qd s S h _ k=>by
 unfold vVar at h
 split at h
 ·rename_i d e
  obtain⟨v,q,rp⟩:=S.val i d e
  exact⟨v,q,k (.val d) v B H (.refl s) rp h⟩
 ·rename_i d e
  obtain⟨a,q,_,hb,ow⟩:=S.own i d e
  exact⟨.ref a,q,k (.peek d) (.ref a) B H (.refl s) ⟨a,rfl,hb,ow⟩ h⟩
 ·rename_i d e
  obtain⟨v,q,rp⟩:=S.fz i d e
  exact⟨v,q,k (.val d) v B H (.refl s) rp.rep h⟩
 ·exact h.elim
theorem vv(i:Nat)(hN:X.N[i]?=some x:=by rfl)(hv:Vis X.env.scope x:=by first|exact Or.inl rfl|exact Or.inr (Or.inl rfl)|exact Or.inr (Or.inr rfl))(hd:(x==("__debug__" : Str))=false:=by decide)
  (hcd:(x==("__classdict__" : Str))=false:=by decide):VE X EX (.Name x pos) (vVar i):=⟨_,qv i hN hv hd hcd,q2f⟩
def vC(d:D):TV:=λ_ Q=>Q (.val d)
theorem rf_c{d:D}{z:V}(e:dV d=some z):RfE K EX (tC z) (vC d):=λ_ B H _ _ _ _ s _ h _ k=>k (.val d) z B H (.refl s) (qgq e) h
theorem qad{k:Int}{j:Nat}:VE X EX (.Constant (.int k) j pos) (vC (.int k)):=⟨_,qvm,rf_c rfl⟩
theorem qc1{k:Bool}{j:Nat}:VE X EX (.Constant (.bool k) j pos) (vC (.bl k)):=⟨_,q3u,rf_c rfl⟩
theorem qah{z:Str}{j:Nat}:VE X EX (.Constant (.str z) j pos) (vC (.str z)):=⟨_,q1x,rf_c rfl⟩
theorem qi1{d:D}{z:V}{w:Value}(hg:Gl X x)(hm:X.mg x=some w)(r:RelV z w)(e:dV d=some z)(hd:(x==("__debug__" : Str))=false:=by decide):VE X EX (.Name x pos) (vC d):=⟨_,qrd hg hm r hd,rf_c e⟩
theorem qnq{ss:List Str}{ad:Addr}(hg:Gl X x)(hm:X.mg x=some (.ref ad))(h:SqT X.K (λ_=>none) ad (ss.map V.str))(hd:(x==("__debug__" : Str))=false:=by decide):VE X EX (.Name x pos) (vC (.kt ss)) :=
 ⟨_,qrd (v:=.ref ad) hg hm rfl hd,λ_ B H _ _ _ _ s _ q _ k=>k (.val _) _ B H (.refl s) (by show Rep X.K B (.kt ss) _;unfold Rep;exact⟨ad,rfl,h⟩) q⟩
theorem RepR.ok{Q:R->Prop}{k:Prop}(h:RepR K B H0 H r v)(q:exR r Q k):k:=by
 cases r with
|exc n=>exact h.elim
|val d=>exact q
|own d=>exact q
|peek d=>exact q
def vOp(rd:R->R->(R->Prop)->Prop)(ta tb:TV):TV:=λτ Q=>ta τ λrx=>exR rx Q (tb τ λry=>exR ry Q (rd rx ry Q))
theorem que{rr:R2}{rd:R->R->(R->Prop)->Prop}{ea eb:TE}(hr:RfO K rr rd)(ha:RfE K EX ea ta)(hb:RfE K EX eb tb):RfE K EX (tOp rr ea eb) (vOp rd ta tb):=λH0 B H τ σ Q Qd s S h xc k =>
 ha H0 B H τ σ _ _ s S h xc λrx x B1 H1 p1 q1 h1=>hb H0 B1 H1 τ σ _ _ p1.s (S.step p1) (q1.ok h1) (xst xc p1) λry y B2 H2 p2 q2 h2 =>
  hr B2 H2 x y rx ry _ _ p2.s (q1.pk.step p2) q2.pk (q2.ok h2) λr v B3 H3 p3 q3 h3=>k r v B3 H3 (p1.trans (p2.trans p3)) (q3.back (p1.trans p2).h) h3
theorem qaj{op:Operator}{rd:R->R->(R->Prop)->Prop}(hr:VO X (binaryOp op) rd)(ha:VE X EX a ta)(hb:VE X EX b tb):VE X EX (.BinOp a op b pos) (vOp rd ta tb) :=
 let ⟨_,h1,h2⟩:=hr.u;let ⟨_,a1,a2⟩:=ha.u;let ⟨_,b1,b2⟩:=hb.u;⟨_,q3v h1 a1 b1,que h2 a2 b2⟩
theorem qfo{op:CmpOp}{rd:R->R->(R->Prop)->Prop}(hr:VO X (compareOp op) rd)(ha:VE X EX a ta)(hb:VE X EX b tb)(hm:behindInMarks op b=false:=by with_unfolding_all rfl):VE X EX (.Compare a [op] [b] pos) (vOp rd ta tb) :=
 let ⟨_,h1,h2⟩:=hr.u;let ⟨_,a1,a2⟩:=ha.u;let ⟨_,b1,b2⟩:=hb.u;⟨_,qyf h1 a1 b1 hm,que h2 a2 b2⟩
theorem qbx{rd:R->R->(R->Prop)->Prop}(hr:VX X rd)(ha:VE X EX a ta)(hb:VE X EX b tb)(hs:qh2 b:=by exact λ_ _=>rfl):VE X EX (.Subscript a b pos) (vOp rd ta tb) :=
 let ⟨_,h1,h2⟩:=hr.u;let ⟨_,a1,a2⟩:=ha.u;let ⟨_,b1,b2⟩:=hb.u;⟨_,q1u h1 a1 b1 hs,que h2 a2 b2⟩
def vBl(t:TV):TVT:=λτ Q=>t τ λr=>match r.d with
|.bl b=>Q b
|_=>False
theorem quc{ea:TE}(ha:RfE K EX ea ta):RfT K (tB ea) (vBl ta):=λH0 B H τ σ Q Qd s S h k=>ha H0 B H τ σ _ _ s S h (xno λ_ q=>q) λr v B' H' p q h1=>by
 split at h1
 ·rename_i bb e
  exact⟨bb,q.pk.scal (by rw[e];rfl),k bb B' H' p h1⟩
 ·exact h1.elim
theorem qg2(ha:VE X EX e ta)(he:∀whole,isTrue e X.env whole=(do let v ←whole;standAt e.pos;holding [v] (truthy v)):=by intro _;rfl):VT X EX e (vBl ta) :=
 let ⟨_,a1,a2⟩:=ha.u;⟨_,q15 a1 he,quc a2⟩
theorem qay{op:CmpOp}{rd:R->R->(R->Prop)->Prop}(hr:VO X (compareOp op) rd)(ha:VE X EX a ta)(hb:VE X EX b tb)(hm:behindInMarks op b=false:=by with_unfolding_all rfl):VT X EX (.Compare a [op] [b] pos) (vBl (vOp rd ta tb)) :=
 let ⟨_,h1,h2⟩:=hr.u;let ⟨_,a1,a2⟩:=ha.u;let ⟨_,b1,b2⟩:=hb.u;⟨_,qyr h1 a1 b1 hm,quc (que h2 a2 b2)⟩
def qhb(t u:TVT):TVT:=λτ Q=>t τ λc=>if c=true then u τ Q else Q false
def vOrT(t u:TVT):TVT:=λτ Q=>t τ λc=>if c=true then Q true else u τ Q
def qfe(t:TVT):TVT:=λτ Q=>t τ λc=>Q (!c)
theorem q2e{e1:TT}(h1:RfT K e1 tT):RfT K (tNot e1) (qfe tT):=λH0 B H τ σ Q Qd s S h k=>h1 H0 B H τ σ _ _ s S h λb B' H' p q=>k _ B' H' p q
theorem q2a{e1 e2:TT}(h1:RfT K e1 tT)(h2:RfT K e2 tU):RfT K (tAnd e1 e2) (qhb tT tU):=λH0 B H τ σ Q Qd s S h k=>h1 H0 B H τ σ _ _ s S h λb B' H' p q=>by
 cases b with
|true=>exact iteT (h2 H0 B' H' τ σ _ _ p.s (S.step p) (by rw[if_pos rfl] at q;exact q) λb2 B2 H2 p2 q2=>k b2 B2 H2 (p.trans p2) q2)
|false=>exact iteF (k false B' H' p (by rw[if_neg Bool.false_ne_true] at q;exact q))
theorem q34{e1 e2:TT}(h1:RfT K e1 tT)(h2:RfT K e2 tU):RfT K (tOr e1 e2) (vOrT tT tU):=λH0 B H τ σ Q Qd s S h k=>h1 H0 B H τ σ _ _ s S h λb B' H' p q=>by
 cases b with
|true=>exact iteT (k true B' H' p (by rw[if_pos rfl] at q;exact q))
|false=>exact iteF (h2 H0 B' H' τ σ _ _ p.s (S.step p) (by rw[if_neg Bool.false_ne_true] at q;exact q) λb2 B2 H2 p2 q2=>k b2 B2 H2 (p.trans p2) q2)
theorem qg1(h:VT X EX a tT):VT X EX (.UnaryOp .Not a pos) (qfe tT):=let ⟨_,a1,a2⟩:=h.u;⟨_,q14 a1,q2e a2⟩
theorem qg3(h:VT X EX a tT):VW X EX (.BoolOp .And [a] pos) tT:=let ⟨_,a1,a2⟩:=h.u;⟨_,qys a1,a2⟩
theorem qsg(h:VT X EX a tT):VW X EX (.BoolOp .Or [a] pos) tT:=let ⟨_,a1,a2⟩:=h.u;⟨_,q17 a1,a2⟩
theorem qkv(ha:VT X EX a tT)(hb:VW X EX (.BoolOp .And (b::es) pos) tU):VW X EX (.BoolOp .And (a::b::es) pos) (qhb tT tU):=let ⟨_,a1,a2⟩:=ha.u;let ⟨_,b1,b2⟩:=hb.u;⟨_,q16 a1 b1,q2a a2 b2⟩
theorem qsf(ha:VT X EX a tT)(hb:VW X EX (.BoolOp .Or (b::es) pos) tU):VW X EX (.BoolOp .Or (a::b::es) pos) (vOrT tT tU):=let ⟨_,a1,a2⟩:=ha.u;let ⟨_,b1,b2⟩:=hb.u;⟨_,q30 a1 b1,q34 a2 b2⟩
theorem vw_t(h:VW X EX e tT):VT X EX e tT:=let ⟨_,a1,a2⟩:=h.u;⟨_,qw_t a1,a2⟩
def qha(ta tb:TV):TV:=λτ Q=>ta τ λr=>match r.d with
|.bl c=>if c=true then tb τ Q else Q (.val (.bl false))
|_=>False
def vOrE(ta tb:TV):TV:=λτ Q=>ta τ λr=>match r.d with
|.bl c=>if c=true then Q (.val (.bl true)) else tb τ Q
|_=>False
def qy8(ta:TV):TV:=λτ Q=>ta τ λr=>match r.d with
|.bl c=>Q (.val (.bl (!c)))
|_=>False
theorem qks{op:BoolOp}(h:VE X EX a ta):VE X EX (.BoolOp op [a] pos) ta:=let ⟨_,a1,a2⟩:=h.u;⟨_,q1w a1,a2⟩
theorem qhz(ha:VE X EX a ta)(hb:VE X EX (.BoolOp .And (b::es) pos) tb):VE X EX (.BoolOp .And (a::b::es) pos) (qha ta tb) :=
 let ⟨_,a1,a2⟩:=ha.u;let ⟨_,b1,b2⟩:=hb.u;⟨_,q1s a1 b1,λH0 B H τ σ Q Qd s S h xc k=>a2 H0 B H τ σ _ _ s S h (xno λ_ q=>q) λr v B' H' p q h1=>by
  split at h1
  ·rename_i c e
   refine⟨c,q.pk.scal (by rw[e];rfl),?_⟩
   cases c with
  |true=>exact iteT (b2 H0 B' H' τ σ _ _ p.s (S.step p) (by rw[if_pos rfl] at h1;exact h1) (xst xc p) λr2 v2 B2 H2 p2 q2 h2=>k r2 v2 B2 H2 (p.trans p2) (q2.back p.h) h2)
  |false=>exact iteF (k (.val (.bl false)) _ B' H' p (repV (d:=.bl false) rfl) (by rw[if_neg Bool.false_ne_true] at h1;exact h1))
  ·exact h1.elim⟩
theorem q39(ha:VE X EX a ta)(hb:VE X EX (.BoolOp .Or (b::es) pos) tb):VE X EX (.BoolOp .Or (a::b::es) pos) (vOrE ta tb) :=
 let ⟨_,a1,a2⟩:=ha.u;let ⟨_,b1,b2⟩:=hb.u;⟨_,q3w a1 b1,λH0 B H τ σ Q Qd s S h xc k=>a2 H0 B H τ σ _ _ s S h (xno λ_ q=>q) λr v B' H' p q h1=>by
  split at h1
  ·rename_i c e
   refine⟨c,q.pk.scal (by rw[e];rfl),?_⟩
   cases c with
  |true=>exact iteT (k (.val (.bl true)) _ B' H' p (repV (d:=.bl true) rfl) (by rw[if_pos rfl] at h1;exact h1))
  |false=>exact iteF (b2 H0 B' H' τ σ _ _ p.s (S.step p) (by rw[if_neg Bool.false_ne_true] at h1;exact h1) (xst xc p) λr2 v2 B2 H2 p2 q2 h2=>k r2 v2 B2 H2 (p.trans p2) (q2.back p.h) h2)
  ·exact h1.elim⟩
def vIfE(tT:TVT)(ta tb:TV):TV:=λτ Q=>tT τ λc=>if c=true then ta τ Q else tb τ Q
theorem quu(hc:VT X EX c tT)(ha:VE X EX a ta)(hb:VE X EX b tb):VE X EX (.IfExp c a b pos) (vIfE tT ta tb) :=
 let ⟨_,c1,c2⟩:=hc.u;let ⟨_,a1,a2⟩:=ha.u;let ⟨_,b1,b2⟩:=hb.u;⟨_,qt2 c1 a1 b1,λH0 B H τ σ Q Qd s S h xc k=>c2 H0 B H τ σ _ _ s S h λcb B' H' p q=>by
  cases cb with
 |true=>exact iteT (a2 H0 B' H' τ σ _ _ p.s (S.step p) (by rw[if_pos rfl] at q;exact q) (xst xc p) λr2 v2 B2 H2 p2 q2 h2=>k r2 v2 B2 H2 (p.trans p2) (q2.back p.h) h2)
 |  false=>exact iteF (b2 H0 B' H' τ σ _ _ p.s (S.step p) (by rw[if_neg Bool.false_ne_true] at q;exact q) (xst xc p) λr2 v2 B2 H2 p2 q2 h2=>k r2 v2 B2 H2 (p.trans p2) (q2.back p.h) h2)⟩
def exA:AR->(R->Prop)->(List D->Prop)->Prop
|.ok ds,_,k=>k ds
|.exc n,Q,_=>Q (.exc n)
def vNil:TVA:=λ_ Q=>Q (.ok [])
def qxe(d:D):AR->AR
|.ok ds=>.ok (d::ds)
|.exc n=>.exc n
def excA:R->(AR->Prop)->Prop->Prop
|.exc n,Q,_=>Q (.exc n)
|.val _,_,k=>k
|.own _,_,k=>k
|.peek _,_,k=>k
theorem RepR.okA{Q:AR->Prop}{k:Prop}(h:RepR K B H0 H r v)(q:excA r Q k):k:=by
 cases r with
|exc n=>exact h.elim
|val d=>exact q
|own d=>exact q
|peek d=>exact q
def qae(te:TV)(tA:TVA):TVA:=λτ Q=>te τ λr=>excA r Q (pubR r λd=>tA τ λa=>Q (qxe d a))
theorem qag:VA X EX [] vNil:=⟨_,qeg,λ_ B H _ _ _ _ s _ h _ k=>k [] [] B H (.refl s) (by unfold Reps;rfl) h⟩
theorem vac(ha:VE X EX e te)(hr:VA X EX es tA)(hs:qaq e=true:=by rfl):VA X EX (e::es) (qae te tA) :=
 let ⟨_,a1,a2⟩:=ha.u;let ⟨_,b1,b2⟩:=hr.u;⟨_,qac a1 b1 hs,λH0 B H τ σ Q Qd s S h xc k=>a2 H0 B H τ σ _ _ s S h xc λr v B1 H1 p q h1=>by
  obtain⟨d,B2,p2,_,rp,h2⟩:=pub p q (q.okA h1)
  exact b2 H0 B2 H1 τ σ _ _ p2.s (S.step p2) h2 (xst xc p2) λds vs B3 H3 p3 q3 h3=>k (d::ds) (v::vs) B3 H3 (p2.trans p3) (by unfold Reps;exact⟨v,vs,rfl,rp.same p3.b,q3⟩) h3⟩
def vTup(tA:TVA):TV:=λτ Q=>tA τ λa=>exA a Q λds=>ds.length<=sizeLine/\Q (.val (.tup ds))
def vLst(tA:TVA):TV:=λτ Q=>tA τ λa=>exA a Q λds=>ds.length<=sizeLine/\Q (.own (.lst ds))
theorem qfw{ds:List D}{xs:List V}{q:Addr}(h:Reps K B ds xs)(hb:B q=none):Rep K (upd B q (.tup xs)) (.tup ds) (.ref q):=by
 unfold Rep
 exact⟨q,xs,rfl,.inl qa0,h.same (qak hb _)⟩
theorem qbt{ds:List D}{xs:List V}{q:Addr}(h:Reps K B ds xs):OwnAt K B (upd H q (.lst xs)) (.lst ds) q:=⟨xs,qa0,h⟩
theorem qbb{k:Nat}(h:VA X EX es tA):VE X EX (.Tuple es k pos) (vTup tA) :=
 let ⟨_,a1,a2⟩:=h.u;⟨_,q1y a1,λH0 B H τ σ Q Qd s S h xc k=>a2 H0 B H τ σ _ _ s S h xc λds vs B1 H1 p q h1 =>
  ⟨by rw[←q.length];exact h1.1,λad had=>k (.val (.tup ds)) _ (upd B1 ad (.tup vs)) _ (p.trans (.new p.s had)) (qfw q (p.s.free had)) h1.2⟩⟩
theorem qkr(h:VA X EX es tA):VE X EX (.List es pos) (vLst tA) :=
 let ⟨_,a1,a2⟩:=h.u;⟨_,q1v a1,λH0 B H τ σ Q Qd s S h xc k=>a2 H0 B H τ σ _ _ s S h xc λds vs B1 H1 p q h1 =>
  ⟨by rw[←q.length];exact h1.1,λad had=>k (.own (.lst ds)) _ B1 _ (p.trans (.grow p.s (qak had _))) ⟨ad,rfl,p.h.free had,p.s.free had,qbt q⟩ h1.2⟩⟩
abbrev DP:=List D->(R->Prop)->Prop
def spOf(K:PySem.W.Frag)(g:DP):Sp:=λvs H Q E=>∃ds B Qd,Same B H/\Reps K B ds vs/\g ds Qd/\(∀n C B' H',Qd (.exc n)->Stp B H B' H'->clsOf K n C->E (.ref C) none H')/\∀r v B' H',Qd r->Stp B H B' H'->RepR K B' H H' r v->Q v H'
def qry(g:DP)(tA:TVA):TV:=λτ Q=>tA τ λa=>exA a Q λds=>g ds Q
def qar(g:DP)(tA:TVA):TV:=λτ Q=>tA τ λa=>exA a Q λds=>g ds λr=>exR r (λ_=>False) (Q r)
theorem qaw{k:Nat}{ps:List Str}{g:DP}(C:Cal X.prog X.w X.K X.mg X.base k x ps (spOf X.K g))(hr:Room k X.A)(hg:Gl X x)(ha:VA X EX (e::es) tA)(hp:(e::es).all qaq=true:=by rfl)(hdb:(x==("__debug__" : Str))=false:=by decide) :
  VE X EX (.Call (.Name x p) (e::es) [] pos) (qar g tA) :=
 let ⟨_,a1,a2⟩:=ha.u;⟨_,qrc C hr hg a1 hp hdb,λH0 B H τ σ Q Qd s S h xc k=>a2 H0 B H τ σ _ _ s S h xc λds vs B1 H1 p q h1 =>
  ⟨ds,B1,_,p.s,by rw[List.append_nil];exact q,h1,λn C B' H' hq _ _=>hq.elim,λr v B2 H2 hq p2 q2=>k r v B2 H2 (p.trans p2) (q2.back p.h) (q2.ok hq)⟩⟩
def vF1(rd:R->(R->Prop)->Prop)(te:TV):TV:=λτ Q=>te τ λr=>exR r Q (rd r Q)
theorem q2c{rr:List V->Hp->VK->Prop}{rd:R->(R->Prop)->Prop}{ea:TE}(hr:RfC K rr rd)(ha:RfE K EX ea te):RfE K EX (tCB rr (qup ea tNil)) (vF1 rd te):=λH0 B H τ σ Q Qd s S h xc k =>
 ha H0 B H τ σ _ _ s S h xc λrx x B1 H1 p1 q1 h1=>hr B1 H1 x rx _ _ p1.s q1.pk (q1.ok h1) λr v B2 H2 p2 q2 h2=>k r v B2 H2 (p1.trans p2) (q2.back p1.h) h2
theorem qc5{id:String}{rd:R->(R->Prop)->Prop}(hc:VF X (.builtin id) rd)(hg:Gl X x)(hm:X.mg x=none)(hv:bootBuiltins x=some (.builtin id))(ha:VE X EX e te)(hp:qaq e=true:=by rfl)(hn:x≠"__name__" := by decide)
  (hdb:(x==("__debug__" : Str))=false:=by decide):VE X EX (.Call (.Name x p) [e] [] pos) (vF1 rd te) :=
 let ⟨_,c1,c2⟩:=hc.u;let ⟨_,a1,a2⟩:=ha.u;⟨_,qcb c1 hg hm hv (qac a1 qeg hp) (by simp[hp]) hn hdb,q2c c2 a2⟩
theorem qo2{T:String}{rd:R->(R->Prop)->Prop}(hc:VF X (.type T) rd)(hg:Gl X x)(hm:X.mg x=none)(hv:bootBuiltins x=some (.type T))(ha:VE X EX e te)(hp:qaq e=true:=by rfl)(hn:x≠"__name__" := by decide)
  (hdb:(x==("__debug__" : Str))=false:=by decide):VE X EX (.Call (.Name x p) [e] [] pos) (vF1 rd te) :=
 let ⟨_,c1,c2⟩:=hc.u;let ⟨_,a1,a2⟩:=ha.u;⟨_,qct c1 hg hm hv (qac a1 qeg hp) (by simp[hp]) hn hdb,q2c c2 a2⟩
end
end L2
namespace L2
open PySem PySem.Spec PyProof.Rows
section
variable {X:Cx} {EX:St->XK} {K:PySem.W.Frag} {B H B' H' H0:Hp}
theorem op_catP:OpR X (binaryOp .Add) (λx y H Q=>∃a b xs ys,x=.ref a/\y=.ref b/\SqT X.K H a xs/\SqT X.K H b ys/\xs.length+ys.length<=sizeLine/\(xs=[]->Q (.ref b) H)/\(xs≠[]->ys=[]->Q (.ref a) H) /\
  (xs≠[]->ys≠[]->∀p,H p=none->Q (.ref p) (upd H p (.tup (xs++ys))))):=by
 intro pins s σ H x y v u Q I rx ry h
 obtain⟨a,b,xs,ys,rfl,rfl,ha,hb,hz,q1,q2,q3⟩:=h
 by_cases hx:xs=[]
 ·subst hx
  cases rx
  cases ry
  obtain⟨its,r1,p1,_⟩:=I.tuple ha
  obtain⟨its2,r2,p2,_⟩:=I.tuple hb
  obtain⟨⟨cls,dd,data,sl⟩,ho,hc,n,hd⟩:=id p1
  obtain⟨⟨cls2,dd2,data2,sl2⟩,ho2,hc2,n2,hd2⟩:=id p2
  simp only at hc hd hc2 hd2
  subst hc hd hc2 hd2
  have e1:its=[]:=r1.nil_iff.mpr rfl
  exact concat_meets ⟨_,ho,rfl⟩ ⟨_,ho2,rfl⟩ noFill_tuple_add seq_tuple_add PySem.F.slot_tuple_add PySem.F.entry_tuple_add (PySem.F.args_tuple_add_2 _ _)
   (tuple_addW0 a b its.toArray its2.toArray n n2 dd dd2 sl sl2 (by simp[e1])) ⟨ho,ho2,⟨.ref b,H,I,rfl,q1 rfl⟩⟩
 ·exact qxm pins s σ H (.ref a) (.ref b) v u Q I rx ry ⟨a,b,xs,ys,rfl,rfl,ha,hb,hx,hz,λe=>q2 hx e,λe p hp=>q3 hx e p hp⟩
theorem sl_tupP:SlR X (λx lo hi H Q=>∃a xs,x=.ref a/\SqT X.K H a xs/\((HT.sIx xs.length 0 lo=0/\HT.sIx xs.length xs.length hi=xs.length)->Q (.ref a) H) /\
  (¬ (HT.sIx xs.length 0 lo=0/\HT.sIx xs.length xs.length hi=xs.length)->∀p,H p=none->Q (.ref p) (upd H p (.tup (cutV xs lo hi))))):=by
 intro pins s σ H x v vl vu lo hi sl Q I rx hs pl pu h
 obtain⟨a,xs,rfl,hx,q1,q2⟩:=h
 by_cases hw:HT.sIx xs.length 0 lo=0/\HT.sIx xs.length xs.length hi=xs.length
 ·cases rx
  obtain⟨its,r,ht,hz⟩:=I.tuple hx
  have hlen:its.toArray.size=xs.length:=by rw[List.size_toArray];exact r.length.symm
  refine⟨"tuple",_,PyProof.Rows.slot_tuple_getitem.lookup,ht.typeIs,?_⟩
  exact HT.getItem_tuple_whole ht hs pl pu (by rw[hlen];exact hw) ⟨.ref a,H,I,rfl,q1 hw⟩
 ·exact q2i pins s σ H (.ref a) v vl vu lo hi sl Q I rx hs pl pu ⟨a,xs,rfl,hx,hw,q2 hw⟩
theorem Reps.append{ds es:List D}{xs ys:List V}(h1:Reps K B ds xs)(h2:Reps K B es ys):Reps K B (ds++es) (xs++ys):=by
 induction ds generalizing xs with
|nil=>unfold Reps at h1;subst h1;exact h2
|cons d ds ih =>
  unfold Reps at h1
  obtain⟨x,r,rfl,q1,q2⟩:=h1
  show Reps K B (d::(ds++es)) (x::(r++ys))
  unfold Reps
  exact⟨x,r++ys,rfl,q1,ih q2⟩
theorem Reps.nil:Reps K B [] []:=by unfold Reps;rfl
theorem Reps.cons{d:D}{ds:List D}{x:V}{xs:List V}(h1:Rep K B d x)(h2:Reps K B ds xs):Reps K B (d::ds) (x::xs):=by unfold Reps;exact⟨x,xs,rfl,h1,h2⟩
theorem Reps.one{d:D}{x:V}(h:Rep K B d x):Reps K B [d] [x]:=.cons h .nil
theorem Reps.drop:∀(n:Nat) {ds:List D} {xs:List V},Reps K B ds xs->Reps K B (ds.drop n) (xs.drop n)
|0,_,_,h=>h
|n+1,[],_,h=>by unfold Reps at h;subst h;exact .nil
|n+1,d::ds,_,h=>by
  unfold Reps at h
  obtain⟨x,r,rfl,q1,q2⟩:=h
  exact Reps.drop n q2
theorem Reps.take:∀(n:Nat) {ds:List D} {xs:List V},Reps K B ds xs->Reps K B (ds.take n) (xs.take n)
|0,_,_,_=>.nil
|n+1,[],_,h=>by unfold Reps at h;subst h;exact .nil
|n+1,d::ds,_,h=>by
  unfold Reps at h
  obtain⟨x,r,rfl,q1,q2⟩:=h
  exact .cons q1 (Reps.take n q2)
theorem Reps.set:∀(n:Nat) {ds:List D} {xs:List V} {d:D} {x:V},Reps K B ds xs->Rep K B d x->Reps K B (ds.set n d) (xs.set n x)
|_,[],_,_,_,h,_=>by unfold Reps at h;subst h;exact .nil
|0,d::ds,_,_,_,h,q=>by
  unfold Reps at h
  obtain⟨x,r,rfl,q1,q2⟩:=h
  exact .cons q q2
|n+1,d::ds,_,_,_,h,q=>by
  unfold Reps at h
  obtain⟨x,r,rfl,q1,q2⟩:=h
  exact .cons q1 (Reps.set n q2 q)
theorem Reps.cut{ds:List D}{xs:List V}(lo hi:Option Int)(h:Reps K B ds xs):Reps K B (cutL ds lo hi) (cutV xs lo hi):=by
 unfold cutL cutV
 rw[h.length]
 exact(h.drop _).take _
theorem Reps.ints(ns:List Int):Reps K B (ns.map D.int) (ns.map V.int):=by
 induction ns with
|nil=>exact .nil
|cons n ns ih=>exact .cons (qgq (d:=.int n) rfl) ih
theorem Reps.strs:∀ {ss:List Str} {xs:List V},Reps K B (ss.map D.str) xs->xs=ss.map V.str
|[],_,h=>by unfold Reps at h;exact h
|s::ss,_,h=>by
  have h':Reps K B (.str s::ss.map D.str) _:=h
  unfold Reps at h'
  obtain⟨x,r,rfl,q1,q2⟩:=h'
  unfold Rep at q1
  rw[q1,Reps.strs q2]
  rfl
theorem Reps.bls:∀ {ss:List Bool} {xs:List V},Reps K B (ss.map D.bl) xs->xs=ss.map V.bl
|[],_,h=>by unfold Reps at h;exact h
|s::ss,_,h=>by
  have h':Reps K B (.bl s::ss.map D.bl) _:=h
  unfold Reps at h'
  obtain⟨x,r,rfl,q1,q2⟩:=h'
  unfold Rep at q1
  rw[q1,Reps.bls q2]
  rfl
theorem Reps.atI{ds:List D}{xs:List V}{i:Int}{d:D}(h:Reps K B ds xs)(e:L2.atI ds i=some d):∃x,L2.atI xs i=some x/\Rep K B d x:=by
 unfold L2.atI at e ⊢
 rw[←h.length]
 cases q:ixN ds.length i with
|none=>rw[q] at e;cases e
|some j =>
  rw[q] at e
  exact h.at e
def vAdd(rx ry:R)(Q:R->Prop):Prop:=match rx.d,ry.d with
|.int i,.int j=>Q (.val (.int (i+j)))
|.str a,.str b=>a.length+b.length<=sizeLine/\Q (.val (.str (a++b)))
|.tup a,.tup b=>a.length+b.length<=sizeLine/\Q (.val (.tup (a++b)))
|.lst a,.lst b=>a.length+b.length<=sizeLine/\Q (.own (.lst (a++b)))
|_,_=>False
theorem qax:VO X (binaryOp .Add) vAdd:=by
 refine⟨_,op_add.or (op_add_str.or (op_catP.or q0v)),λB H x y rx ry Q Qd s px py h k=>?_⟩
 unfold vAdd at h
 split at h
 ·rename_i i j e1 e2
  exact .inl ⟨i,j,px.scal (by rw[e1];rfl),py.scal (by rw[e2];rfl),k _ _ B H (.refl s) (repV rfl) h⟩
 ·rename_i i j e1 e2
  exact .inr (.inl ⟨i,j,px.scal (by rw[e1];rfl),py.scal (by rw[e2];rfl),h.1,k _ _ B H (.refl s) (repV rfl) h.2⟩)
 ·rename_i ds es e1 e2
  obtain⟨a,xs,rfl,h1,r1⟩:=px.tup e1
  obtain⟨b,ys,rfl,h2,r2⟩:=py.tup e2
  refine .inr (.inr (.inl ⟨a,b,xs,ys,rfl,rfl,s.sqT h1.sq,s.sqT h2.sq,by rw[←r1.length,←r2.length];exact h.1,λz=>?_,λ_ z=>?_,λ_ _ p hp=>?_⟩))
  ·refine k _ _ B H (.refl s) ?_ h.2
   show Rep X.K B (.tup (ds++es)) _
   have e:ds=[]:=List.eq_nil_of_length_eq_zero (by rw[r1.length,z];rfl)
   unfold Rep
   exact⟨b,ys,rfl,by rw[e];exact h2,by rw[e];exact r2⟩
  ·refine k _ _ B H (.refl s) ?_ h.2
   show Rep X.K B (.tup (ds++es)) _
   have e:es=[]:=List.eq_nil_of_length_eq_zero (by rw[r2.length,z];rfl)
   unfold Rep
   exact⟨a,xs,rfl,by rw[e,List.append_nil];exact h1,by rw[e,List.append_nil];exact r1⟩
  ·exact k (.val (.tup (ds++es))) _ (upd B p (.tup (xs++ys))) _ (.new s hp) (qfw (r1.append r2) (s.free hp)) h.2
 ·rename_i ds es e1 e2
  obtain⟨a,xs,rfl,h1,r1⟩:=px.lst s e1
  obtain⟨b,ys,rfl,h2,r2⟩:=py.lst s e2
  exact .inr (.inr (.inr ⟨a,b,xs,ys,rfl,rfl,h1,h2,by rw[←r1.length,←r2.length];exact h.1,λp hp=>k (.own (.lst (ds++es))) _ B _ (.grow s (qak hp _)) ⟨p,rfl,hp,s.free hp,qbt (r1.append r2)⟩ h.2⟩))
 ·exact h.elim
def vI2(C:Int->Int->Prop)(f:Int->Int->D)(rx ry:R)(Q:R->Prop):Prop:=match rx.d,ry.d with
|.int i,.int j=>C i j/\Q (.val (f i j))
|_,_=>False
def vI2'(f:Int->Int->D)(rx ry:R)(Q:R->Prop):Prop:=match rx.d,ry.d with
|.int i,.int j=>Q (.val (f i j))
|_,_=>False
theorem qux{g:Value->Value->Sem Value}{C:Int->Int->Prop}{f:Int->Int->D}{f':Int->Int->V}(hf:∀i j,dV (f i j)=some (f' i j))(h:OpR X g (rI C f')):VO X g (vI2 C f):=by
 refine⟨_,h,λB H x y rx ry Q Qd s px py h k=>?_⟩
 unfold vI2 at h
 split at h
 ·rename_i i j e1 e2
  exact⟨i,j,px.scal (by rw[e1];rfl),py.scal (by rw[e2];rfl),h.1,k _ _ B H (.refl s) (repV (hf i j)) h.2⟩
 ·exact h.elim
theorem qns{g:Value->Value->Sem Value}{f:Int->Int->D}{f':Int->Int->V}(hf:∀i j,dV (f i j)=some (f' i j))(h:OpR X g (rI0 f')):VO X g (vI2' f):=by
 refine⟨_,h,λB H x y rx ry Q Qd s px py h k=>?_⟩
 unfold vI2' at h
 split at h
 ·rename_i i j e1 e2
  exact⟨i,j,px.scal (by rw[e1];rfl),py.scal (by rw[e2];rfl),k _ _ B H (.refl s) (repV (hf i j)) h⟩
 ·exact h.elim
abbrev vSub:=vI2' λi j=>.int (i-j)
abbrev vMul:=vI2 CMul λi j=>.int (i*j)
abbrev vDiv:=vI2 CDiv λi j=>.int (i / j)
abbrev vMod:=vI2 (λ_ j=>0<j) λi j=>.int (i%j)
abbrev vPow:=vI2 CPow λi j=>.int (i ^ j.toNat)
abbrev vLt:=vI2' λi j=>.bl (decide (i<j))
abbrev vLe:=vI2' λi j=>.bl (decide (i<=j))
abbrev vGt:=vI2' λi j=>.bl (decide (j<i))
abbrev vGe:=vI2' λi j=>.bl (decide (j<=i))
theorem qv6:VO X (binaryOp .Sub) vSub:=qns (λ_ _=>rfl) q02
theorem qr9:VO X (binaryOp .Mult) vMul:=qux (λ_ _=>rfl) q0z
theorem qc2:VO X (binaryOp .FloorDiv) vDiv:=qux (λ_ _=>rfl) qxn
theorem qa5:VO X (binaryOp .Mod) vMod:=qux (λ_ _=>rfl) q0y
theorem qsc:VO X (binaryOp .Pow) vPow:=qux (λ_ _=>rfl) q00
theorem quy:VO X (compareOp .Lt) vLt:=qns (λ_ _=>rfl) q3j
theorem q2x:VO X (compareOp .LtE) vLe:=qns (λ_ _=>rfl) q3i
theorem qze:VO X (compareOp .Gt) vGt:=qns (λ_ _=>rfl) q3h
def vEq(rx ry:R)(Q:R->Prop):Prop:=cmpD rx.d ry.d=true/\depD rx.d<=50/\Q (.val (.bl (eqD rx.d ry.d)))
theorem qb3(hu:X.A.units+64<cLine):VO X (compareOp .Eq) vEq :=
 ⟨_,q0w (by lia),λB H x y rx ry Q Qd s px py h k=>⟨rx.d,ry.d,px.rep s,py.rep s,h.1,h.2.1,k _ _ B H (.refl s) (repV rfl) h.2.2⟩⟩
def vNe(rx ry:R)(Q:R->Prop):Prop:=match dV rx.d,dV ry.d with
|some u,some w=>scal u w=true/\Q (.val (.bl (!decide (u=w))))
|_,_=>False
def vSlR(rx:R)(lo hi:Option Int)(Q:R->Prop):Prop:=match rx.d with
|.str z=>z.length<=sizeLine/\Q (.val (.str (Txt.slice z lo hi)))
|.tup ds=>Q (.val (.tup (cutL ds lo hi)))
|.lst ds=>Q (.own (.lst (cutL ds lo hi)))
|.scr ns=>Q (.own (.lst ((cutL ns lo hi).map D.int)))
|_=>False
abbrev TVO:=VSt->(Option Int->Prop)->Prop
def qcd:TVO:=λ_ Q=>Q none
def qen(te:TV):TVO:=λτ Q=>te τ λr=>match r.d with
|.int i=>Q (some i)
|_=>False
def RfOp(K:PySem.W.Frag)(to:TO)(t:TVO):Prop:=∀(H0 B H:Hp) (τ:VSt) (σ:St) (Q:Option Int->Hp->Prop) (Qd:Option Int->Prop),Same B H->Slots K H0 B H τ σ->t τ Qd->(∀o B' H',Stp B H B' H'->Qd o->Q o H')->to σ H Q
structure VPt(X:Cx)(EX:St->XK)(e:Option Expr)(t:TVO):Prop where
 u:∃to,QO X e to/\RfOp X.K to t
variable {e:Expr} {te ta:TV} {es:List Expr} {lo hi:Option Expr} {tl th:TVO} {pos p p2 apos cpos:Pos} {x:Str}
theorem qdx:VPt X EX none qcd:=⟨_,qyl,λ_ B H _ _ _ _ s _ h k=>k _ B H (.refl s) h⟩
theorem qc3(h:VE X EX e te):VPt X EX (some e) (qen te):=let ⟨_,a1,a2⟩:=h.u;⟨_,qym a1,λH0 B H τ σ Q Qd s S h k=>a2 H0 B H τ σ _ _ s S h (xno λ_ q=>q) λr v B' H' p q h1=>by
  split at h1
  ·rename_i i e
   exact⟨i,q.pk.scal (by rw[e];rfl),k _ B' H' p h1⟩
  ·exact h1.elim⟩
def qc8(te:TV)(tl th:TVO):TV:=λτ Q=>te τ λr=>exR r Q (tl τ λl=>th τ λu=>vSlR r l u Q)
theorem qcg(he:VE X EX e te)(hl:VPt X EX lo tl)(hh:VPt X EX hi th):VE X EX (.Subscript e (.Slice lo hi none p2) pos) (qc8 te tl th) :=
 let ⟨_,a1,a2⟩:=he.u;let ⟨_,b1,b2⟩:=hl.u;let ⟨_,c1,c2⟩:=hh.u;⟨_,qt3 (sl_str.or (sl_tupP.or qy2)) a1 b1 c1,λH0 B H τ σ Q Qd s S h xc k =>
  a2 H0 B H τ σ _ _ s S h xc λr v B1 H1 p1 q1 h1=>b2 H0 B1 H1 τ σ _ _ p1.s (S.step p1) (q1.ok h1) λl B2 H2 p2 h2=>c2 H0 B2 H2 τ σ _ _ p2.s (S.step (p1.trans p2)) h2 λu B3 H3 p3 h3=>by
   have p12:=p1.trans p2
   have pp:=p12.trans p3
   have pk:=(q1.pk.step p2).step p3
   unfold vSlR at h3
   split at h3
   ·rename_i z ez
    cases pk.scal (z:=.str z) (by rw[ez];rfl)
    exact .inl ⟨z,rfl,h3.1,k _ _ B3 H3 pp (repV rfl) h3.2⟩
   ·rename_i ds ed
    obtain⟨a,xs,rfl,h1,r1⟩:=pk.tup ed
    refine .inr (.inl ⟨a,xs,rfl,p3.s.sqT h1.sq,λw=>?_,λw p hp=>?_⟩)
    ·refine k _ _ B3 H3 pp ?_ h3
     show Rep X.K B3 (.tup (cutL ds l u)) _
     unfold Rep
     have hc:cutL ds l u=ds:=by
      unfold cutL
      rw[r1.length,w.1,w.2,List.drop_zero,Nat.sub_zero,←r1.length,List.take_length]
     rw[hc]
     exact⟨a,xs,rfl,h1,r1⟩
    ·exact k (.val (.tup (cutL ds l u))) _ (upd B3 p (.tup (cutV xs l u))) _ (pp.trans (.new p3.s hp)) (qfw (r1.cut l u) (p3.s.free hp)) h3
   ·rename_i ds ed
    obtain⟨a,xs,rfl,h1,r1⟩:=pk.lst p3.s ed
    exact .inr (.inr ⟨a,xs,rfl,SqL.of h1,λp hp=>k (.own _) _ B3 _ (pp.trans (.grow p3.s (qak hp _))) ⟨p,rfl,pp.h.free hp,p3.s.free hp,qbt (r1.cut l u)⟩ h3⟩)
   ·rename_i ns en
    obtain⟨a,rfl,h1⟩:=pk.scr p3.s en
    refine .inr (.inr ⟨a,_,rfl,h1,λp hp=>k (.own _) _ B3 _ (pp.trans (.grow p3.s (qak hp _))) ⟨p,rfl,pp.h.free hp,p3.s.free hp,?_⟩ h3⟩)
    rw[qs0]
    exact qbt (.ints _)
   ·exact h3.elim⟩
def vIxR(rx ry:R)(Q:R->Prop):Prop:=match rx.d,ry.d with
|.str z,.int i=>z.length<=sizeLine/\∃c,atI z.cps.toList i=some c/\Q (.val (.str ⟨#[c]⟩))
|.tup ds,.int i=>∃d,atI ds i=some d/\Q (.val d)
|.lst ds,.int i=>∃d,atI ds i=some d/\Q (.val d)
|.scr ns,.int i=>∃n,atI ns i=some n/\Q (.val (.int n))
|_,_=>False
theorem qa1:VX X vIxR:=by
 refine⟨_,ix_str.or (ix_tup.or qw1),λB H x y rx ry Q Qd s px py h k=>?_⟩
 unfold vIxR at h
 split at h
 ·rename_i z i e1 e2
  obtain⟨hz,c,hc,q⟩:=h
  exact .inl ⟨z,i,c,px.scal (by rw[e1];rfl),py.scal (by rw[e2];rfl),hz,hc,k _ _ B H (.refl s) (repV rfl) q⟩
 ·rename_i ds i e1 e2
  obtain⟨d,hd,q⟩:=h
  obtain⟨a,xs,rfl,h1,r1⟩:=px.tup e1
  obtain⟨w,hw,rw'⟩:=r1.atI hd
  exact .inr (.inl ⟨a,xs,i,w,rfl,py.scal (by rw[e2];rfl),s.sqT h1.sq,hw,k (.val d) _ B H (.refl s) rw' q⟩)
 ·rename_i ds i e1 e2
  obtain⟨d,hd,q⟩:=h
  obtain⟨a,xs,rfl,h1,r1⟩:=px.lst s e1
  obtain⟨w,hw,rw'⟩:=r1.atI hd
  exact .inr (.inr ⟨a,xs,i,w,rfl,py.scal (by rw[e2];rfl),SqL.of h1,hw,k (.val d) _ B H (.refl s) rw' q⟩)
 ·rename_i ns i e1 e2
  obtain⟨n,hn,q⟩:=h
  obtain⟨a,rfl,h1⟩:=px.scr s e1
  exact .inr (.inr ⟨a,_,i,_,rfl,py.scal (by rw[e2];rfl),h1,qzv hn,k _ _ B H (.refl s) (repV rfl) q⟩)
 ·exact h.elim
def vLen(rx:R)(Q:R->Prop):Prop:=match rx.d with
|.str z=>z.length<=sizeLine/\Q (.val (.int z.length))
|.tup ds=>Q (.val (.int ds.length))
|.lst ds=>Q (.val (.int ds.length))
|.scr ns=>Q (.val (.int ns.length))
|_=>False
theorem qck:VF X (.builtin "len") vLen:=by
 refine⟨_,call_len_str.or qjg,λB H x rx Q Qd s px h k=>?_⟩
 unfold vLen at h
 split at h
 ·rename_i z e1
  exact .inl ⟨z,by rw[px.scal (z:=.str z) (by rw[e1];rfl)],h.1,k _ _ B H (.refl s) (repV rfl) h.2⟩
 ·rename_i ds e1
  obtain⟨a,xs,rfl,h1,r1⟩:=px.tup e1
  exact .inr ⟨a,xs,rfl,.inr (s.sqT h1.sq),k _ _ B H (.refl s) (repV rfl) (by rw[r1.length] at h;exact h)⟩
 ·rename_i ds e1
  obtain⟨a,xs,rfl,h1,r1⟩:=px.lst s e1
  exact .inr ⟨a,xs,rfl,.inl (SqL.of h1),k _ _ B H (.refl s) (repV rfl) (by rw[r1.length] at h;exact h)⟩
 ·rename_i ns e1
  obtain⟨a,rfl,h1⟩:=px.scr s e1
  exact .inr ⟨a,_,rfl,.inl h1,k (.val (.int ns.length)) _ B H (.refl s) (by rw[List.length_map];exact repV rfl) h⟩
 ·exact h.elim
def qkk(rx:R)(Q:R->Prop):Prop:=match rx.d with
|.tup ds=>Q (.own (.lst ds))
|.lst ds=>Q (.own (.lst ds))
|.scr ns=>Q (.own (.lst (ns.map D.int)))
|_=>False
theorem qmj:VF X (.type "list") qkk:=by
 refine⟨_,qji,λB H x rx Q Qd s px h k=>?_⟩
 unfold qkk at h
 split at h
 ·rename_i ds e1
  obtain⟨a,xs,rfl,h1,r1⟩:=px.tup e1
  exact⟨a,xs,rfl,.inr (s.sqT h1.sq),λp hp=>k (.own _) _ B _ (.grow s (qak hp _)) ⟨p,rfl,hp,s.free hp,qbt r1⟩ h⟩
 ·rename_i ds e1
  obtain⟨a,xs,rfl,h1,r1⟩:=px.lst s e1
  exact⟨a,xs,rfl,.inl (SqL.of h1),λp hp=>k (.own _) _ B _ (.grow s (qak hp _)) ⟨p,rfl,hp,s.free hp,qbt r1⟩ h⟩
 ·rename_i ns e1
  obtain⟨a,rfl,h1⟩:=px.scr s e1
  exact⟨a,_,rfl,.inl h1,λp hp=>k (.own _) _ B _ (.grow s (qak hp _)) ⟨p,rfl,hp,s.free hp,qbt (.ints ns)⟩ h⟩
 ·exact h.elim
def qr4(rx:R)(Q:R->Prop):Prop:=match rx.d with
|.tup ds=>Q (.val (.tup ds))
|.lst ds=>Q (.val (.tup ds))
|_=>False
def vStr(rx:R)(Q:R->Prop):Prop:=match rx.d with
|.int i=>i.natAbs.log2<1920/\Q (.val (.str (toString i)))
|_=>False
theorem qv3:VF X (.type "str") vStr:=by
 refine⟨_,qjj,λB H x rx Q Qd s px h k=>?_⟩
 unfold vStr at h
 split at h
 ·rename_i i e1
  exact⟨i,by rw[px.scal (z:=.int i) (by rw[e1];rfl)],h.1,k _ _ B H (.refl s) (repV rfl) h.2⟩
 ·exact h.elim
def vAll(g:List Bool->Bool)(rx:R)(Q:R->Prop):Prop:=∃bs:List Bool,rx.d=.lst (bs.map D.bl)/\Q (.val (.bl (g bs)))
theorem qkt(hc:X.calm=true):VF X (.builtin "all") (vAll λbs=>bs.all id):=by
 refine⟨_,qpr hc,λB H x rx Q Qd s px ⟨bs,e1,h⟩ k=>?_⟩
 obtain⟨a,xs,rfl,h1,r1⟩:=px.lst s e1
 exact⟨a,bs,rfl,SqL.of (by rw[h1,r1.bls]),k _ _ B H (.refl s) (repV rfl) h⟩
inductive Ty5 where
|str|tuple|list|int|bool
def Ty5.nm:Ty5->String
|.str=>"str"|.tuple=>"tuple"|.list=>"list"|.int=>"int"|.bool=>"bool"
def isTy:Ty5->D->Option Bool
|_,.non=>some false
|c,.bl _=>some (match c with|.bool=>true|.int=>true|_=>false)
|c,.int _=>some (match c with|.int=>true|_=>false)
|c,.str _=>some (match c with|.str=>true|_=>false)
|c,.tup _=>some (match c with|.tuple=>true|_=>false)
|c,.lst _=>some (match c with|.list=>true|_=>false)
|_,_=>none
def nmTy:D->String
|.non=>"NoneType"|.bl _=>"bool"|.int _=>"int"|.str _=>"str"|.tup _=>"tuple"|_=>"list"
theorem qta{d:D}{c:Ty5}{b:Bool}(h:isTy c d=some b):PySem.W.kitOne K (.type (nmTy d)) (.type c.nm)=some b:=by
 cases d<;>cases c<;>first|(cases h;with_unfolding_all rfl;done)|(cases h;exact qtb;done)|(cases h;done)
theorem qs6{pins:List (Addr×Obj)}{s:Shared}{σ:St}{H:Hp}{v:V}{u:Value}{d:D}{c:Ty5}{b:Bool}{A:Around}{Q:Value->Shared->Prop}{E:Value->Shared->Prop}(I:Inv X pins σ H s)(rx:RelV v u)(h:Rep X.K H d v)(e:isTy c d=some b)
  (q:∀tk,Q (.bool b) { s with toks:=tk }):wpAny (model X.prog X.w) A (call (.builtin "isinstance") [u,.type c.nm]) Q E s:=by
 have kt:=qta (K:=X.K) e
 cases d with
|non=>unfold Rep at h;subst h;exact qd2 I rx .non kt q
|bl b=>unfold Rep at h;subst h;exact qd2 I rx (.bl _) kt q
|int b=>unfold Rep at h;subst h;exact qd2 I rx (.int _) kt q
|str b=>unfold Rep at h;subst h;exact qd2 I rx (.str _) kt q
|tup ds =>
  unfold Rep at h
  obtain⟨a,xs,rfl,ha,_⟩:=h
  cases (show u=Value.ref a from rx)
  obtain⟨its,_,⟨o,h1,h2,_⟩,_⟩:=I.tuple ha.sq
  exact PySem.W.kia_one PySem.W.kitx_tuple I.kIn ⟨o,h1,h2⟩ kt (λz=>nomatch z) q
|lst ds =>
  unfold Rep at h
  obtain⟨a,xs,rfl,ha,_⟩:=h
  exact qd2 I rx (.lst ha) kt q
|dT _ _=>cases e
|dK _ _=>cases e
|scr _=>cases e
|kt _=>cases e
|exc _=>cases e
|io _ _=>cases e
|ioT _ _ _=>cases e
theorem qsw(c:Ty5):CallR X (.builtin "isinstance") (λxs H Q=>∃x d b,xs=[x,.ty c.nm]/\Rep X.K H d x/\isTy c d=some b/\Q (.bl b) H):=by
 intro pins s σ H xs us Q I r h
 obtain⟨x,d,b,rfl,ty,e,q⟩:=h
 obtain⟨u,v,rfl,ru,rv⟩:=vals2 r
 cases (show v=Value.type c.nm from rv)
 exact qs6 I ru ty e λtk=>⟨.bl b,H,I.tok tk,rfl,q⟩
def qkj(c:Ty5)(ta:TV):TV:=λτ Q=>ta τ λr=>exR r (λ_=>False) <| match isTy c r.d with
|some b=>Q (.val (.bl b))
|none=>False
theorem qi2{a:Expr}{pb:Pos}{y:Str}(c:Ty5)(hg:Gl X "isinstance")(hm:X.mg "isinstance" = none)(hgy:Gl X y)(hmy:X.mg y=none)(hby:bootBuiltins y=some (.type c.nm))(ha:VE X EX a ta)(hp:qaq a=true:=by rfl)(hny:y≠"__name__" := by decide)(hdy:(y==("__debug__" : Str))=false:=by decide) :
  VE X EX (.Call (.Name "isinstance" p) [a,.Name y pb] [] pos) (qkj c ta) :=
 let ⟨_,a1,a2⟩:=ha.u;⟨_,qcb (qsw c) hg hm PyProof.Rows.Boot.«isinstance» (qac a1 (qac (qyd (v:=.ty c.nm) hgy hmy hby rfl hny hdy) qeg rfl) hp) (by rw[List.all_cons,hp];rfl),λH0 B H τ σ Q Qd s S h xc k=>a2 H0 B H τ σ _ _ s S h (xno λ_ q=>q) λr v B1 H1 p1 q1 h1=>by
   have h1:=q1.ok h1
   split at h1
   ·rename_i b eb
    exact⟨v,r.d,b,rfl,q1.pk.rep p1.s,eb,k _ _ B1 H1 p1 (repV rfl) h1⟩
   ·exact h1.elim⟩
end
end L2
namespace L2
open PySem PySem.Spec PyProof.Rows
section
variable {X:Cx} {EX:St->XK} {K:PySem.W.Frag} {B H B' H' H0 B0 B1 H1:Hp} {st:Stmt} {rest:List Stmt} {t u:TVS} {e a c o:Expr} {te ta:TV} {tT:TVT} {tA:TVA} {es:List Expr} {pos pos' p p2 apos cpos:Pos} {x:Str} {τ:VSt} {σ:St}
theorem Stp.base(p:Stp B0 H0 B1 H1)(q:Stp B1 H0 B' H'):Stp B0 H0 B' H':=⟨p.b.trans q.b,q.h,q.s,λa h=>(q.d a h).elim (p.d a) .inr⟩
theorem Stp.here(p:Stp B0 H0 B1 H1):Stp B1 H0 B1 H1:=⟨Same.refl _,p.h,p.s,λ_ h=>.inl h⟩
theorem EndsOk.base{Dv:VEnds}{Dh:Ends}(E:EndsOk K EX B0 H0 Dv Dh)(p:Stp B0 H0 B1 H1):EndsOk K EX B1 H0 Dv Dh :=
 ⟨λB H τ σ q=>E.nx B H τ σ (p.base q),λr v B H q=>E.rt r v B H (p.base q),λB H τ σ q=>E.bk B H τ σ (p.base q),λB H τ σ q=>E.ct B H τ σ (p.base q),λB H τ σ n C q=>E.xc B H τ σ n C (p.base q),λr v B H τ σ q=>E.ro r v B H τ σ (p.base q)⟩
def exS(τ:VSt)(Dv:VEnds):R->Prop->Prop
|.exc n,_=>Dv.xc τ n
|.val _,k=>k
|.own _,k=>k
|.peek _,k=>k
theorem RepR.okS{r:R}{v:V}{τ:VSt}{Dv:VEnds}{k:Prop}(h:RepR K B H0 H r v)(q:exS τ Dv r k):k:=by
 cases r with
|exc n=>exact h.elim
|val d=>exact q
|own d=>exact q
|peek d=>exact q
theorem EndsOk.raised{Dv:VEnds}{Dh:Ends}(E:EndsOk K EX B0 H0 Dv Dh)(p:Stp B0 H0 B H)(S:Slots K H0 B H τ σ):∀n C B' H',Stp B H B' H'->clsOf K n C->Dv.xc τ n->EX σ (.ref C) none H':=λn C B' H' q c h=>E.xc B' H' τ σ n C (p.trans q) (S.step q) c h
def qbj:TVS:=λDv τ=>Dv.nx τ
def vSeq(t u:TVS):TVS:=λDv τ=>t { Dv with nx:=u Dv } τ
theorem qap:VSs X EX [] qbj:=⟨_,qyp,λB0 H0 B H τ σ Dv Dh p S h E=>E.nx B H τ σ p S h⟩
theorem qaf(h:VS X EX st t):VSs X EX [st] t:=let ⟨_,a1,a2⟩:=h.u;⟨_,qyq a1,a2⟩
theorem qaa(h:VS X EX st t)(r:VSs X EX rest u):VSs X EX (st::rest) (vSeq t u) :=
 let ⟨_,a1,a2⟩:=h.u;let ⟨_,b1,b2⟩:=r.u;⟨_,qt7 a1 b1,λB0 H0 B H τ σ Dv Dh p S h E=>a2 B0 H0 B H τ σ _ _ p S h ⟨λB H τ σ p S h=>b2 B0 H0 B H τ σ _ _ p S h E,E.rt,E.bk,E.ct,E.xc,E.ro⟩⟩
def vFrz(i:Nat)(t:TVS):TVS:=λDv τ=>t Dv (frz i τ)
def vIfS(c:TVT)(t u:TVS):TVS:=λDv τ=>c τ λb=>if b=true then t Dv τ else u Dv τ
theorem qbw{sa sb:List Stmt}(hc:VT X EX c tT)(ha:VSs X EX sa t)(hb:VSs X EX sb u):VS X EX (.If c sa sb pos) (vIfS tT t u) :=
 let ⟨_,c1,c2⟩:=hc.u;let ⟨_,a1,a2⟩:=ha.u;let ⟨_,b1,b2⟩:=hb.u;⟨_,q3z c1 a1 b1,λB0 H0 B H τ σ Dv Dh p S h E=>c2 H0 B H τ σ _ _ p.s S h λcb B' H' q hq=>by
  cases cb with
 |true=>exact iteT (a2 B0 H0 B' H' τ σ _ _ (p.trans q |> λz=>⟨z.b,z.h,z.s,z.d⟩) (S.step q) (by rw[if_pos rfl] at hq;exact hq) E)
 |  false=>exact iteF (b2 B0 H0 B' H' τ σ _ _ (p.trans q) (S.step q) (by rw[if_neg Bool.false_ne_true] at hq;exact hq) E)⟩
def vRet(te:TV):TVS:=λDv τ=>te τ λr=>exS τ Dv r (pubR r λ_=>Dv.rt r)
theorem qaz(h:VE X EX e te):VS X EX (.Return (some e) pos) (vRet te) :=
 let ⟨_,a1,a2⟩:=h.u;⟨_,qne a1,λB0 H0 B H τ σ Dv Dh p S h E=>a2 H0 B H τ σ _ _ p.s S h (E.raised p S) λr v B' H' q hr hq=>by
  cases r with
 |val d=>exact E.rt (.val d) v B' H' (p.trans q) hr hq
 |own d=>exact E.rt (.own d) v B' H' (p.trans q) (hr.back p.h) hq
 |peek d=>exact hq.elim
 |  exc n=>exact hr.elim⟩
def qo1(i:Nat):TVS:=λDv τ=>match τ[i]? with
|some (some (.own d))=>Dv.rt (.own d)
|some (some (.val d))=>Dv.rt (.val d)
|_=>False
theorem qzi(i:Nat)(hN:X.N[i]?=some x:=by rfl)(hv:Vis X.env.scope x:=by first|exact Or.inl rfl|exact Or.inr (Or.inl rfl)|exact Or.inr (Or.inr rfl))(hd:(x==("__debug__" : Str))=false:=by decide)
  (hcd:(x==("__classdict__" : Str))=false:=by decide):VS X EX (.Return (some (.Name x pos')) pos) (qo1 i) :=
 ⟨_,qne (qv i hN hv hd hcd),λB0 H0 B H τ σ Dv Dh p S h E=>by
  unfold qo1 at h
  split at h
  ·rename_i d e
   obtain⟨a,q,h0,hb,ow⟩:=S.own i d e
   exact⟨.ref a,q,E.rt (.own d) _ B H p ⟨a,rfl,h0,hb,ow⟩ h⟩
  ·rename_i d e
   obtain⟨v,q,rp⟩:=S.val i d e
   exact⟨v,q,E.rt (.val d) _ B H p rp h⟩
  ·exact h.elim⟩
def qy9:TVS:=λDv _=>Dv.rt (.val .non)
def qr1(te:TV):TVS:=λDv τ=>te τ λr=>exS τ Dv r (Dv.nx τ)
theorem qzg(h:VE X EX e te)(hs:swapsWith e none pos.line X.env=pure false:=by rfl):VS X EX (.Expr e pos) (qr1 te) :=
 let ⟨_,a1,a2⟩:=h.u;⟨_,qis a1 hs,λB0 H0 B H τ σ Dv Dh p S h E=>a2 H0 B H τ σ _ _ p.s S h (E.raised p S) λr v B' H' q hr hq=>E.nx B' H' τ σ (p.trans q) (S.step q) (hr.okS hq)⟩
def vSet(i:Nat)(te:TV):TVS:=λDv τ=>te τ λr=>exS τ Dv r (pubR r λd=>Dv.nx (τ.set i (some (.val d))))
theorem qvt{i:Nat}{ee:TE}(h:RfE K EX ee te):RfS K EX (tAsg ee (qjp i)) (vSet i te):=λB0 H0 B H τ σ Dv Dh p S hh E=>h H0 B H τ σ _ _ p.s S hh (E.raised p S) λr v B' H' q hr hq=>by
 obtain⟨d,B2,q2,_,rp,hd⟩:=pub q hr (hr.okS hq)
 exact E.nx B2 H' _ _ (p.trans q2) ((S.step q2).setVal i rp) hd
def qhc(i:Nat)(te:TV):TVS:=λDv τ=>te τ λr=>exS τ Dv r (pubR r λ_=>Dv.nx (τ.set i (some r)))
theorem qyy{i:Nat}{ee:TE}(h:RfE K EX ee te):RfS K EX (tAsg ee (qjp i)) (qhc i te):=λB0 H0 B H τ σ Dv Dh p S hh E=>h H0 B H τ σ _ _ p.s S hh (E.raised p S) λr v B' H' q hr hq=>by
 cases r with
|val d=>exact E.nx B' H' _ _ (p.trans q) ((S.step q).setVal i hr) hq
|own d =>
  obtain⟨a,rfl,h0,hb,ow⟩:=hr
  refine E.nx B' H' _ _ (p.trans q) ((S.step q).setOwn i (p.h.free h0) hb ow λj e he z=>?_) hq
  obtain⟨c,qc,_,_,oc⟩:=S.own j e he
  rw[z] at qc
  cases qc
  exact oc.some h0
|peek d=>exact hq.elim
|exc n=>exact hr.elim
theorem qas{i:Nat}(hN:X.N.Nodup)(hi:X.N[i]?=some x)(hx:Loc X.env.scope x)(h:VE X EX e te)(hs:swapsWith e (some (.Name x pos')) pos.line X.env=pure false:=by rfl)
  (hf:X.fn x=true\/X.env.scope.names.lookup x=some .local:=by first|exact .inl rfl|exact .inr rfl|assumption):VS X EX (.Assign [.Name x pos'] e pos) (vSet i te):=let ⟨_,a1,a2⟩:=h.u;⟨_,qnf hN hi hx a1 hs hf,qvt a2⟩
theorem qg0{i:Nat}(hN:X.N.Nodup)(hi:X.N[i]?=some x)(hx:Loc X.env.scope x)(h:VE X EX e te)(hs:swapsWith e (some (.Name x pos')) pos.line X.env=pure false:=by rfl)
  (hf:X.fn x=true\/X.env.scope.names.lookup x=some .local:=by first|exact .inl rfl|exact .inr rfl|assumption):VS X EX (.Assign [.Name x pos'] e pos) (qhc i te):=let ⟨_,a1,a2⟩:=h.u;⟨_,qnf hN hi hx a1 hs hf,qyy a2⟩
theorem qzj{i:Nat}(hN:X.N.Nodup)(hi:X.N[i]?=some x)(hx:Loc X.env.scope x)(h:VC X EX e te)(hs:swapsWith e (some (.Name x pos')) pos.line X.env=pure true:=by rfl)
  (hf:X.fn x=true\/X.env.scope.names.lookup x=some .local:=by first|exact .inl rfl|exact .inr rfl|assumption):VS X EX (.Assign [.Name x pos'] e pos) (vSet i te):=let ⟨_,a1,a2⟩:=h.u;⟨_,qyo hN hi hx a1 hs hf,qvt a2⟩
def qbk(i:Nat):TVG:=λd τ Q=>Q (τ.set i (some (.val d)))
theorem q0n{i:Nat}{d:D}{v:V}:Kp τ σ (τ.set i (some (.val d))) (σ.set i (some v)):=λj e h=>by
 rcases qat h with ⟨rfl,z,l⟩|⟨n,h⟩
 ·cases z
 ·exact⟨h,List.getElem?_set_ne n⟩
theorem Kp.trans{τ1 τ2 τ3:VSt}{σ1 σ2 σ3:St}(h1:Kp τ1 σ1 τ2 σ2)(h2:Kp τ2 σ2 τ3 σ3):Kp τ1 σ1 τ3 σ3:=λj e h=>let ⟨a,b⟩:=h2 j e h;let ⟨c,d⟩:=h1 j e a;⟨c,b.trans d⟩
theorem qbf{i:Nat}(hN:X.N.Nodup)(hi:X.N[i]?=some x)(hx:Loc X.env.scope x)(hf:X.fn x=true\/X.env.scope.names.lookup x=some .local:=by first|exact .inl rfl|exact .inr rfl|assumption):VG X (.Name x pos) (qbk i) :=
 ⟨_,qyh hN hi hx hf,λH0 B H τ σ v d Q Qd s S rp h k=>k _ _ (S.setVal i rp) q0n h⟩
def qmk:List D->VSt->(VSt->Prop)->Prop:=λds τ Q=>ds=[]/\Q τ
def qd1(g:TVG)(gs:List D->VSt->(VSt->Prop)->Prop):List D->VSt->(VSt->Prop)->Prop:=λds τ Q=>match ds with
|d::r=>g d τ λτ'=>gs r τ' Q
|[]=>False
theorem qmm:VGs X [] qmk:=⟨_,qyi,λH0 B H τ σ xs ds Q Qd s S rp h k=>by
 obtain⟨rfl,h⟩:=h
 unfold Reps at rp
 exact⟨rp,k τ σ S (λj e h=>⟨h,rfl⟩) h⟩⟩
theorem qc9{g:TVG}{gs:List D->VSt->(VSt->Prop)->Prop}(h1:VG X e g)(h2:VGs X es gs)(hs:(assignEach (e::es) X.env).map (·.2)=assign e X.env::(assignEach es X.env).map (·.2):=by rfl):VGs X (e::es) (qd1 g gs) :=
 let ⟨_,a1,a2⟩:=h1.u;let ⟨_,b1,b2⟩:=h2.u;⟨_,qt4 a1 b1 hs,λH0 B H τ σ xs ds Q Qd s S rp h k=>by
  cases ds with
 |nil=>exact h.elim
 |cons d ds =>
   unfold Reps at rp
   obtain⟨v,r,rfl,r1,r2⟩:=rp
   exact⟨v,r,rfl,a2 H0 B H τ σ v d _ _ s S r1 h λτ' σ' S' kp h'=>b2 H0 B H τ' σ' r ds _ _ s S' r2 h' λτ2 σ2 S2 kp2 h2=>k τ2 σ2 S2 (kp.trans kp2) h2⟩⟩
def qml(n:Nat)(gs:List D->VSt->(VSt->Prop)->Prop):TVG:=λd τ Q=>match d with
|.tup ds=>ds.length=n/\gs ds τ Q
|_=>False
theorem qr8{k:Nat}{gs:List D->VSt->(VSt->Prop)->Prop}{n:Nat}(hc:X.calm=true)(h:VGs X es gs)(hn:(assignEach es X.env).length=n:=by rfl)(hst:(assignEach es X.env).findIdx? (·.1)=none:=by rfl):VG X (.Tuple es k pos) (qml n gs) :=
 let ⟨_,a1,a2⟩:=h.u;⟨_,q1z hc a1 hn hst,λH0 B H τ σ v d Q Qd s S rp h k=>by
  cases d with
 |tup ds =>
   unfold Rep at rp
   obtain⟨a,xs,rfl,ha,r⟩:=rp
   exact⟨a,xs,rfl,s.sqT ha.sq,by rw[←r.length];exact h.1,a2 H0 B H τ σ xs ds _ _ s S r h.2 k⟩
 |  _=>exact h.elim⟩
def vAsg(te:TV)(g:TVG):TVS:=λDv τ=>te τ λr=>exS τ Dv r (pubR r λd=>g d τ Dv.nx)
end
section
variable {X:Cx} {tg l e:Expr}
def iAny(K:PySem.W.Frag)(tl:TE):TI:=λσ H R=>tl σ H λx H1=>(∃a,x=.ref a/\(∃xs,SqL K H1 a xs)/\R (Itl K a) H1)\/(∃a,x=.ref a/\(∃xs,SqT K H1 a xs)/\R (Itt K a) H1)\/∃z,x=.str z/\R (Its z) H1
theorem q1f{tl:TE}(hl:PE X l tl):PI X tg l (iAny X.K tl):=by
 intro pins s σ H R I h
 refine thn (hl pins s σ H _ I h) λv s1 ⟨x,H1,I1,r1,q1⟩=>?_
 rcases q1 with ⟨a,rfl,⟨xs,hq⟩,q⟩|⟨a,rfl,⟨xs,hq⟩,q⟩|⟨z,rfl,q⟩
 ·cases r1
  obtain⟨its,rv,pl,hz⟩:=I1.list hq
  refine wpAny_pyIter_list pl.isList ⟨s1.heap.objs.size,[s1.heap.objs.size],_,_,H1,rfl,I1.kept (t':=s1.toks) λb o e=>Heap.get?_push_of_some _ e,qrv a _,⟨_,Heap.get?_push_size _ rfl,rfl,rfl⟩,λb hb=>?_,q⟩
  cases (by simpa using hb:b=s1.heap.objs.size)
  exact I1.fpOk (Nat.le_refl _) (I1.hok.fresh (Nat.le_refl _))
 ·cases r1
  obtain⟨its,rv,pl,hz⟩:=I1.tuple hq
  refine wpAny_pyIter_tuple (show s1.heap.IsTuple a its.toArray from pl) ⟨s1.heap.objs.size,[s1.heap.objs.size],_,_,H1,rfl,I1.kept (t':=s1.toks) λb o e=>Heap.get?_push_of_some _ e,qoz a _,⟨_,Heap.get?_push_size _ rfl,rfl,rfl⟩,λb hb=>?_,q⟩
  cases (by simpa using hb:b=s1.heap.objs.size)
  exact I1.fpOk (Nat.le_refl _) (I1.hok.fresh (Nat.le_refl _))
 ·obtain⟨t,rfl⟩:=r1
  have fp:∀b∈[s1.heap.objs.size],FpOk X pins H1 b:=λb hb=>by
   cases (by simpa using hb:b=s1.heap.objs.size)
   exact I1.fpOk (Nat.le_refl _) (I1.hok.fresh (Nat.le_refl _))
  cases ha:z.cps.all (·<128)
  ·exact wpAny_pyIter_wide ha ⟨s1.heap.objs.size,[s1.heap.objs.size],_,_,H1,rfl,I1.kept (t':=s1.toks) λb o e=>Heap.get?_push_of_some _ e,qrw _ z t,⟨_,Heap.get?_push_size _ rfl,rfl,rfl⟩,fp,q⟩
  ·exact wpAny_pyIter_ascii ha ⟨s1.heap.objs.size,[s1.heap.objs.size],_,_,H1,rfl,I1.kept (t':=s1.toks) λb o e=>Heap.get?_push_of_some _ e,qox _ z t,⟨_,Heap.get?_push_size _ rfl,rfl,rfl⟩,fp,q⟩
theorem qvo{tl:TE}(h:QE X e tl):QI X tg e (iAny X.K tl):=⟨q1f h.u⟩
end
section
variable {X:Cx} {EX:St->XK} {K:PySem.W.Frag} {B H B' H' H0 B0 B1 H1:Hp} {st:Stmt} {rest:List Stmt} {t u:TVS} {e a c o:Expr} {te ta:TV} {tT:TVT} {tA:TVA} {es:List Expr} {pos pos' p p2 apos cpos:Pos} {x:Str} {τ:VSt} {σ:St}
def qdq(te:TV):TVA:=λτ Q=>te τ λr=>excA r Q <| pubR r λd=>match d with
|.lst ds=>Q (.ok ds)
|.tup ds=>Q (.ok ds)
|.scr ns=>Q (.ok (ns.map D.int))
|.str z=>Q (.ok (z.cps.toList.map λc=>.str ⟨#[c]⟩))
|_=>False
theorem qm3{ad:Addr}{ds:List D}{xs:List V}(h:SqL K B ad xs)(r:Reps K B ds xs):ItOk K B (Itl K ad) ds:=λi B2 H sb s2=>by
 have s:=sb.trans s2
 refine⟨λd e=>?_,λe=>⟨xs,s.seq h,by rw[←r.length];exact List.getElem?_eq_none_iff.mp e⟩⟩
 obtain⟨w,hw,rw'⟩:=r.at e
 refine⟨⟨xs,w,s.seq h,hw⟩,λy H' q=>⟨B2,by rw[q.1];exact .refl s2,?_⟩⟩
 have:=q.2 xs (s.seq h)
 rw[hw] at this
 cases this
 exact rw'.same sb
theorem q0g{ad:Addr}{ds:List D}{xs:List V}(h:SqT K B ad xs)(r:Reps K B ds xs):ItOk K B (Itt K ad) ds:=λi B2 H sb s2=>by
 have s:=sb.trans s2
 refine⟨λd e=>?_,λe=>⟨xs,s.sqT h,by rw[←r.length];exact List.getElem?_eq_none_iff.mp e⟩⟩
 obtain⟨w,hw,rw'⟩:=r.at e
 refine⟨⟨xs,w,s.sqT h,hw⟩,λy H' q=>⟨B2,by rw[q.1];exact .refl s2,?_⟩⟩
 have:=q.2 xs (s.sqT h)
 rw[hw] at this
 cases this
 exact rw'.same sb
theorem q0f(z:Str):ItOk K B (Its z) (z.cps.toList.map λc=>.str ⟨#[c]⟩):=λi B2 H sb s2=>by
 have s:=sb.trans s2
 refine⟨λd e=>?_,λe=>?_⟩
 ·rw[List.getElem?_map] at e
  cases hc:z.cps.toList[i]? with
 |none=>rw[hc] at e;cases e
 |some ch =>
   rw[hc] at e
   cases e
   have hc':z.cps[i]?=some ch:=by simpa using hc
   refine⟨?_,λy H' q=>⟨B2,by rw[q.1];exact .refl s2,?_⟩⟩
   ·show i<z.cps.size
    exact(Array.getElem?_eq_some_iff.mp hc').1
   ·obtain⟨c2,h2,rfl⟩:=q.2
    rw[hc'] at h2
    cases h2
    exact qgq (d:=.str ⟨#[ch]⟩) rfl
 ·show z.cps.size<=i
  have:=List.getElem?_eq_none_iff.mp e
  simpa using this
theorem qfp{tg:Expr}(h:VE X EX e te):VI X EX tg e (qdq te) :=
 let ⟨_,a1,a2⟩:=h.u;⟨_,qvo a1,λH0 B H τ σ Q Qd s S h xc k=>a2 H0 B H τ σ _ _ s S h xc λr v B' H' q hr hq=>by
  obtain⟨d,B2,q2,_,rp,hd⟩:=pub q hr (hr.okA hq)
  split at hd
  ·unfold Rep at rp
   obtain⟨ad,xs,rfl,ha,r1⟩:=rp
   exact .inl ⟨ad,rfl,⟨xs,SqL.of (q2.s _ _ ha)⟩,k _ _ B2 H' q2 (qm3 (SqL.of ha) r1) hd⟩
  ·unfold Rep at rp
   obtain⟨ad,xs,rfl,ha,r1⟩:=rp
   exact .inr (.inl ⟨ad,rfl,⟨xs,q2.s.sqT ha.sq⟩,k _ _ B2 H' q2 (q0g ha.sq r1) hd⟩)
  ·unfold Rep at rp
   obtain⟨ad,rfl,ha⟩:=rp
   exact .inl ⟨ad,rfl,⟨_,q2.s.seq ha⟩,k _ _ B2 H' q2 (qm3 ha (.ints _)) hd⟩
  ·rename_i z
   unfold Rep at rp
   exact .inr (.inr ⟨z,rp,k _ _ B2 H' q2 (q0f z) hd⟩)
  ·exact hd.elim⟩
def rngL(lo:Int)(n:Nat):List D:=(List.range n).map λ(i:Nat)=>.int (lo+i)
theorem q0e(lo:Int)(n:Nat):ItOk K B (Itr lo n) (rngL lo n):=λi B2 H sb s2=>by
 unfold rngL
 refine⟨λd e=>?_,λe=>?_⟩
 ·rw[List.getElem?_map] at e
  by_cases hi:i<n
  ·rw[List.getElem?_range hi] at e
   cases e
   exact⟨hi,λy H' q=>⟨B2,by rw[q.1];exact .refl s2,by rw[q.2];exact qgq (d:=.int (lo+(i:Nat))) rfl⟩⟩
  ·rw[List.getElem?_eq_none (by rw[List.length_range];lia)] at e
   cases e
 ·have:=List.getElem?_eq_none_iff.mp e
  rw[List.length_map,List.length_range] at this
  exact this
def qkm(te:TV):TVA:=λτ Q=>te τ λr=>match r.d with
|.int j=>-(2 ^ 62)<=j/\j<2 ^ 62/\Q (.ok (rngL 0 j.toNat))
|_=>False
theorem qi3{tg:Expr}(hg:Gl X "range")(hm:X.mg "range" = none)(h:VE X EX a ta)(hp:qaq a=true:=by rfl):VI X EX tg (.Call (.Name "range" p) [a] [] pos) (qkm ta) :=
 let ⟨_,a1,a2⟩:=h.u;⟨_,q3y hg hm (qac a1 qeg hp) hp,λH0 B H τ σ Q Qd s S h xc k=>a2 H0 B H τ σ _ _ s S h (xno λ_ q=>q) λr v B' H' q hr hq=>by
  split at hq
  ·rename_i j ej
   exact⟨j,by rw[hr.pk.scal (z:=.int j) (by rw[ej];rfl)],hq.1,hq.2.1,k _ _ B' H' q (q0e 0 j.toNat) hq.2.2⟩
  ·exact hq.elim⟩
def qza(ta tb:TV):TVA:=λτ Q=>ta τ λrx=>exR rx (λ_=>False) <| tb τ λry=>match rx.d,ry.d with
|.int i,.int j=>(-(2 ^ 62)<=i/\i<2 ^ 62/\-(2 ^ 62)<=j/\j<2 ^ 62)/\Q (.ok (rngL i (j-i).toNat))
|_,_=>False
def forW(g:TVG)(tb:TVS)(Dv:VEnds):List D->VSt->Prop
|[],τ=>Dv.nx τ
|d::ds,τ=>g d τ λτ'=>tb { Dv with nx:=forW g tb Dv ds,ct:=forW g tb Dv ds,bk:=Dv.nx } τ'
def exI(τ:VSt)(Dv:VEnds):AR->(List D->Prop)->Prop
|.ok ds,k=>k ds
|.exc n,_=>Dv.xc τ n
def vFor(vi:TVA)(g:TVG)(tb:TVS):TVS:=λDv τ=>vi τ λa=>exI τ Dv a λds=>forW g tb Dv ds τ
theorem q2d{wi:TI}{g:TG}{tb:TS}{vi:TVA}{gv:TVG}{bv:TVS}(hi:RfI K EX wi vi)(hg:RfG K g gv)(hb:RfS K EX tb bv):RfS K EX (tFor wi g tb) (vFor vi gv bv):=λB0 H0 B H τ σ Dv Dh p S h E =>
 hi H0 B H τ σ _ _ p.s S h (E.raised p S) λJ ds B1 H1 q ok hw=>by
  have pq:=p.trans q
  have E1:=E.base pq
  refine⟨λi m σ H=>m=ds.length-i/\i<=ds.length/\∃B2 τ,Stp B1 H0 B2 H/\Slots K H0 B2 H τ σ/\forW gv bv Dv (ds.drop i) τ,⟨ds.length,by lia,Nat.zero_le _,B1,τ,pq.here,S.step q,hw⟩,?_⟩
  rintro i m σ2 H2 ⟨rfl,hi,B2,τ2,p2,S2,w⟩
  by_cases hlt:i<ds.length
  ·have ei:ds[i]?=some ds[i]:=List.getElem?_eq_getElem hlt
   rw[List.drop_eq_getElem_cons hlt] at w
   obtain⟨go,yl⟩:=(ok i B2 H2 p2.b p2.s).1 _ ei
   refine .inr ⟨go,λσ' H'=>∃B2 τ,Stp B1 H0 B2 H'/\Slots K H0 B2 H' τ σ'/\forW gv bv Dv (ds.drop (i+1)) τ,λσ' H' ⟨B3,τ3,a1,a2,a3⟩=>⟨ds.length-(i+1),by lia,rfl,by lia,B3,τ3,a1,a2,a3⟩,λy H' hy=>?_⟩
   obtain⟨B3,q3,rp⟩:=yl y H' hy
   refine hg H0 B3 H' τ2 σ2 y _ _ _ q3.s (S2.step q3) rp w λτ' σ' S' _ h'=>?_
   exact hb B1 H0 B3 H' τ' σ' _ _ (p2.trans q3) S' h' ⟨λB H τ σ a1 a2 a3=>⟨B,τ,a1,a2,a3⟩,E1.rt,λB H τ σ a1 a2 a3=>E1.nx B H τ σ a1 a2 a3,λB H τ σ a1 a2 a3=>⟨B,τ,a1,a2,a3⟩,E1.xc,E1.ro⟩
  ·have ei:ds[i]?=none:=List.getElem?_eq_none (by lia)
   rw[List.drop_eq_nil_of_le (by lia)] at w
   exact .inl ⟨(ok i B2 H2 p2.b p2.s).2 ei,E1.nx B2 H2 τ2 σ2 p2 S2 w⟩
theorem qgz{tg iter:Expr}{body:List Stmt}{vi:TVA}{g:TVG}(hp:PassesOwn (model X.prog X.w) X.A X.env X.xe)(hc:X.calm=true)(hi:VI X EX tg iter vi)(hg:VG X tg g)(hb:VSs X EX body t)
  (hs:∀x,foldedSetIterable iter X.env x=pure x:=by intro _;rfl):VS X EX (.For tg iter body [] pos) (vFor vi g t) :=
 let ⟨_,a1,a2⟩:=hi.u;let ⟨_,b1,b2⟩:=hg.u;let ⟨_,c1,c2⟩:=hb.u;⟨_,qvq hp hc a1 b1 c1 hs,q2d a2 b2 c2⟩
def qv2(c:TVT)(tb:TVS):TVS:=λDv τ=>∃W:Nat->VSt->Prop,(∃m,W m τ)/\∀m τ,W m τ->c τ λb=>if b=true then tb { Dv with nx:=λτ'=>∃m',m'<m/\W m' τ',ct:=λτ'=>∃m',m'<m/\W m' τ',bk:=Dv.nx } τ else Dv.nx τ
theorem qu3{body:List Stmt}(hp:PassesOwn (model X.prog X.w) X.A X.env X.xe)(hc:VT X EX c tT)(hb:VSs X EX body t):VS X EX (.While c body [] pos) (qv2 tT t) :=
 let ⟨_,a1,a2⟩:=hc.u;let ⟨_,b1,b2⟩:=hb.u;⟨_,qt6 hp a1 b1,λB0 H0 B H τ σ Dv Dh p S h E=>by
  obtain⟨W,⟨m0,w0⟩,turn⟩:=h
  refine⟨λm σ H=>∃B2 τ,Stp B0 H0 B2 H/\Slots X.K H0 B2 H τ σ/\W m τ,⟨m0,B,τ,p,S,w0⟩,?_⟩
  rintro m σ2 H2 ⟨B2,τ2,p2,S2,w⟩
  refine a2 H0 B2 H2 τ2 σ2 _ _ p2.s S2 (turn m τ2 w) λb B3 H3 q hq=>?_
  cases b with
 |true =>
   refine iteT ⟨λσ' H'=>∃m',m'<m/\∃B2 τ,Stp B0 H0 B2 H'/\Slots X.K H0 B2 H' τ σ'/\W m' τ,λσ' H' z=>z,?_⟩
   rw[if_pos rfl] at hq
   exact b2 B0 H0 B3 H3 τ2 σ2 _ _ (p2.trans q) (S2.step q) hq ⟨λB H τ σ a1 a2 ⟨m',l,a3⟩=>⟨m',l,B,τ,a1,a2,a3⟩,E.rt,λB H τ σ a1 a2 a3=>E.nx B H τ σ a1 a2 a3,λB H τ σ a1 a2 ⟨m',l,a3⟩=>⟨m',l,B,τ,a1,a2,a3⟩,E.xc,E.ro⟩
 |false =>
   rw[if_neg Bool.false_ne_true] at hq
   exact iteF (E.nx B3 H3 τ2 σ2 (p2.trans q) (S2.step q) hq)⟩
theorem qfh:VFs X EX [] (λ_ Q=>Q true):=⟨_,qyk,λH0 B H τ σ Y N Qd s S h k=>by have:=k true B H (.refl s) h;rw[if_pos rfl] at this;exact this⟩
def qjk(τ:VSt)(k:Nat)(g:TVG)(ti:TVT)(te:TV)(Q:R->Prop):List D->List D->Prop
|[],acc=>Q (.own (.lst acc))
|d::ds,acc=>g d (τ++List.replicate k none) λτ2=>(τ2.take τ.length=τ/\τ2.length=τ.length+k)/\ti τ2 λb=>if b=true then te τ2 λr=>pubR r λd'=>acc.length<sizeLine/\qjk τ k g ti te Q ds (acc++[d']) else qjk τ k g ti te Q ds acc
def qfs(vi:TVA)(g:TVG)(ti:TVT)(te:TV)(k:Nat):TV:=λτ Q=>vi τ λa=>exA a Q λds=>qjk τ k g ti te Q ds []
theorem Slots.more(S:Slots K H0 B H τ σ)(k:Nat):Slots K H0 B H (τ++List.replicate k none) (σ++List.replicate k none):=by
 have get:∀(i:Nat) (r:R),(τ++List.replicate k none)[i]?=some (some r)->τ[i]?=some (some r)/\(σ++List.replicate k (none:Option V))[i]?=σ[i]?:=λi r h=>by
  by_cases l:i<τ.length
  ·rw[List.getElem?_append_left l] at h
   exact⟨h,List.getElem?_append_left (by rw[S.len];exact l)⟩
  ·rw[List.getElem?_append_right (by lia)] at h
   by_cases l2:i-τ.length<k
   ·rw[List.getElem?_replicate_of_lt l2] at h;cases h
   ·rw[List.getElem?_eq_none (by rw[List.length_replicate];lia)] at h;cases h
 refine⟨by rw[List.length_append,List.length_append,S.len,List.length_replicate,List.length_replicate],λi d h=>?_,λi d h=>?_,λi d h=>?_,λi j d e a h1 h2 h3 h4=>?_⟩
 ·obtain⟨g1,g2⟩:=get i _ h
  rw[g2]
  exact S.val i d g1
 ·obtain⟨g1,g2⟩:=get i _ h
  rw[g2]
  exact S.fz i d g1
 ·obtain⟨g1,g2⟩:=get i _ h
  rw[g2]
  exact S.own i d g1
 ·obtain⟨g1,g2⟩:=get i _ h1
  obtain⟨g3,g4⟩:=get j _ h2
  rw[g2] at h3
  rw[g4] at h4
  exact S.sep i j d e a g1 g3 h3 h4
theorem Slots.less{τ2:VSt}{k:Nat}(S:Slots K H0 B H τ2 σ)(h1:τ2.take τ.length=τ)(h2:τ2.length=τ.length+k):Slots K H0 B H (τ++List.replicate k none) σ/\∀(j:Nat) (e:D),(τ++List.replicate k none)[j]?=some (some (R.own e))->τ2[j]?=some (some (R.own e)):=by
 have get:∀(i:Nat) (r:R),(τ++List.replicate k none)[i]?=some (some r)->τ2[i]?=some (some r):=λi r h=>by
  by_cases l:i<τ.length
  ·rw[List.getElem?_append_left l,←h1,List.getElem?_take_of_lt l] at h
   exact h
  ·rw[List.getElem?_append_right (by lia)] at h
   by_cases l2:i-τ.length<k
   ·rw[List.getElem?_replicate_of_lt l2] at h;cases h
   ·rw[List.getElem?_eq_none (by rw[List.length_replicate];lia)] at h;cases h
 exact⟨⟨by rw[S.len,h2,List.length_append,List.length_replicate],λi d h=>S.val i d (get i _ h),λi d h=>S.fz i d (get i _ h),λi d h=>S.own i d (get i _ h),λi j d e a q1 q2=>S.sep i j d e a (get i _ q1) (get j _ q2)⟩,λj e=>get j _⟩
theorem Slots.heap(S:Slots K H0 B H τ σ)(h:∀(i:Nat) (d:D) (a:Addr),τ[i]?=some (some (R.own d))->σ[i]?=some (some (.ref a))->H' a=H a):Slots K H0 B H' τ σ :=
 ⟨S.len,S.val,S.fz,λi d e=>let ⟨a,q1,q2,q3,q4⟩:=S.own i d e;⟨a,q1,q2,q3,q4.step (Same.refl _) (h i d a e q1)⟩,S.sep⟩
abbrev EX0:St->XK:=λ_ _ _ _=>False
theorem qyx{wi:TI}{g:TG}{ti:TF}{ee:TE}{vi:TVA}{gv:TVG}{tv:TVT}{k:Nat}(hi:RfI K EX wi vi)(hg:RfG K g gv)(hf:RfF K ti tv)(he:RfE K EX0 ee te):RfE K EX (qy6 wi g ti ee k) (qfs vi gv tv te k):=λH0 B H τ σ Q Qd s S h xc kk =>
 hi H0 B H τ σ _ _ s S h xc λJ ds B1 H1 q ok hw p hp=>by
  have S1:=S.step q
  refine⟨λi m σ' xs H'=>m=ds.length-i/\i<=ds.length/\∃B2 acc,Stp B1 H1 B2 H'/\H' p=some (.lst xs)/\B2 p=none/\Reps K B2 acc xs/\Slots K H0 B2 H' (τ++List.replicate k none) σ' /\
    (∀(j:Nat) (e:D),(τ++List.replicate k none)[j]?=some (some (R.own e))->σ'[j]?≠some (some (.ref p)))/\qjk τ k gv tv te Qd (ds.drop i) acc,
   ⟨ds.length,by lia,Nat.zero_le _,B1,[],.grow q.s (qak hp _),qa0,q.s.free hp,.nil,(S1.more k).heap λi d a h1 h2=>?_,λj e h1 h2=>?_,hw⟩,?_⟩
  ·obtain⟨c,q1,_,_,ow⟩:=(S1.more k).own i d h1
   rw[h2] at q1
   cases q1
   exact qau λz=>ow.some (z▸hp)
  ·obtain⟨c,q1,_,_,ow⟩:=(S1.more k).own j e h1
   rw[h2] at q1
   cases q1
   exact ow.some hp
  rintro i m σ2 xs H2 ⟨rfl,hle,B2,acc,p2,hx,hb,rp,S2,fr,w⟩
  by_cases hlt:i<ds.length
  ·have ei:ds[i]?=some ds[i]:=List.getElem?_eq_getElem hlt
   rw[List.drop_eq_getElem_cons hlt] at w
   obtain⟨go,yl⟩:=(ok i B2 H2 p2.b p2.s).1 _ ei
   refine .inr ⟨go,λy H' hy=>?_⟩
   obtain⟨B3,q3,ry⟩:=yl y H' hy
   replace hb:=q3.keep hb (by rw[hx];exact λz=>by cases z) (by rw[hx];exact λ_ z=>by cases z)
   replace hx:=q3.h _ _ hx
   replace rp:=rp.same q3.b
   replace p2:=p2.trans q3
   replace S2:=S2.step q3
   clear q3
   refine hg H0 B3 H' _ σ2 y _ _ _ p2.s S2 ry w λτ3 σ3 S3 kp h3=>?_
   obtain⟨⟨e1,e2⟩,h3⟩:=h3
   obtain⟨S3',ow3⟩:=S3.less e1 e2
   have fr3:∀(j:Nat) (e:D),(τ++List.replicate k none)[j]?=some (some (R.own e))->σ3[j]?≠some (some (.ref p)):=λj e h z=>by
    obtain⟨g1,g2⟩:=kp j e (ow3 j e h)
    rw[g2] at z
    exact fr j e g1 z
   refine hf H0 B3 H' τ3 σ3 _ _ _ p2.s S3 h3 λb B4 H4 q4 hq4=>?_
   have hx4:H4 p=some (.lst xs):=q4.h _ _ hx
   have hb4:B4 p=none:=q4.keep hb (by rw[hx];exact λz=>by cases z) (by rw[hx];exact λ_ z=>by cases z)
   cases b with
  |false =>
    rw[if_neg Bool.false_ne_true] at hq4 ⊢
    exact⟨ds.length-(i+1),by lia,rfl,by lia,B4,acc,p2.trans q4,hx4,hb4,rp.same q4.b,S3'.step q4,fr3,hq4⟩
  |true =>
    rw[if_pos rfl] at hq4 ⊢
    refine he H0 B4 H4 τ3 σ3 _ _ q4.s (S3.step q4) hq4 (xno λ_ q=>q) λr v B5 H5 q5 hr hq5=>?_
    obtain⟨d',B6,q6,_,rd,hz,hq6⟩:=pub q5 hr hq5
    have hx6:H5 p=some (.lst xs):=q6.h _ _ hx4
    have hb6:B6 p=none:=q6.keep hb4 (by rw[hx4];exact λz=>by cases z) (by rw[hx4];exact λ_ z=>by cases z)
    have qq:=q4.trans q6
    refine⟨hx6,by rw[←rp.length];exact hz,ds.length-(i+1),by lia,rfl,by lia,B6,acc++[d'],(p2.trans qq).upd hp hb6,qa0,hb6,(rp.same qq.b).append (.one rd),(S3'.step qq).heap λj d a h1 h2=>?_,fr3,hq6⟩
    exact qau λz=>fr3 j d h1 (z▸h2)
  ·have ei:ds[i]?=none:=List.getElem?_eq_none (by lia)
   rw[List.drop_eq_nil_of_le (by lia)] at w
   exact .inl ⟨(ok i B2 H2 p2.b p2.s).2 ei,kk (.own (.lst acc)) _ B2 H2 (q.trans p2) ⟨p,rfl,q.h.free hp,hb,xs,hx,rp⟩ w⟩
def canE(K:PySem.W.Frag)(t:TV):TE:=λσ H Q=>∃H0 B τ Qd,Same B H/\Slots K H0 B H τ σ/\t τ Qd/\(∀n C B' H',Stp B H B' H'->clsOf K n C->Qd (.exc n)->EX0 σ (.ref C) none H')/\∀r v B' H',Stp B H B' H'->RepR K B' H H' r v->Qd r->Q v H'
def canG(K:PySem.W.Frag)(g:TVG):TG:=λv σ H Q=>∃H0 B τ d Qd,Same B H/\Slots K H0 B H τ σ/\Rep K B d v/\g d τ Qd/\∀τ' σ',Slots K H0 B H τ' σ'->Kp τ σ τ' σ'->Qd τ'->Q σ' H
def canF(K:PySem.W.Frag)(t:TVT):TF:=λσ H Y N=>∃H0 B τ Qd,Same B H/\Slots K H0 B H τ σ/\t τ Qd/\∀b B' H',Stp B H B' H'->Qd b->if b=true then Y H' else N H'
theorem VE.can(h:VE X EX0 e te):QE X e (canE X.K te):=let ⟨_,a1,a2⟩:=h.u;⟨λpins s σ H Q I ⟨H0,B,τ,Qd,q1,q2,q3,q4,q5⟩=>a1.u pins s σ H Q I (a2 H0 B H τ σ Q Qd q1 q2 q3 q4 q5)⟩
theorem VG.can{g:TVG}(h:VG X e g):QG X e (canG X.K g):=let ⟨_,a1,a2⟩:=h.u;⟨λpins s σ H v u Q I r ⟨H0,B,τ,d,Qd,q1,q2,q3,q4,q5⟩=>a1.u pins s σ H v u Q I r (a2 H0 B H τ σ v d Q Qd q1 q2 q3 q4 q5)⟩
theorem VFs.can(h:VFs X EX es tT):QF X es (canF X.K tT):=let ⟨_,a1,a2⟩:=h.u;⟨λpins s σ H Y N I ⟨H0,B,τ,Qd,q1,q2,q3,q4⟩=>a1.u pins s σ H Y N I (a2 H0 B H τ σ Y N Qd q1 q2 q3 q4)⟩
theorem qfg{tg iter elt:Expr}{ifs:List Expr}{csc:Scope}{NB M:List Str}{vi:TVA}{g:TVG}{ti:TVT}(hi:VI X EX tg iter vi)(hc:X.calm=true)(S:CompScope X.env.scope X.N NB M csc)
  (hg:∀cl C s₀ H₀ fp pn,VG (cxC X NB csc cl C s₀ H₀ fp pn) tg g) (hf:∀cl C s₀ H₀ fp pn,VFs (cxC X NB csc cl C s₀ H₀ fp pn) EX0 ifs ti)
  (he:∀cl C s₀ H₀ fp pn,VE (cxC X NB csc cl C s₀ H₀ fp pn) EX0 elt te) (hs:∀x,foldedSetIterable iter X.env x=pure x:=by intro _;rfl):VC X EX (.ListComp elt [⟨tg,iter,ifs,0⟩] csc pos) (qfs vi g ti te M.length) :=
 let ⟨_,a1,a2⟩:=hi.u;⟨_,qyc (g:=canG X.K g) (ti:=canF X.K ti) (te:=canE X.K te) a1 hc S (λcl C s₀ H₀ fp pn=>(hg cl C s₀ H₀ fp pn).can) (λcl C s₀ H₀ fp pn=>(hf cl C s₀ H₀ fp pn).can) (λcl C s₀ H₀ fp pn=>(he cl C s₀ H₀ fp pn).can) hs,
  qyx a2 (λH0 B H τ σ v d Q Qd q1 q2 q3 q4 q5=>⟨H0,B,τ,d,Qd,q1,q2,q3,q4,q5⟩) (λH0 B H τ σ Y N Qd q1 q2 q3 q4=>⟨H0,B,τ,Qd,q1,q2,q3,q4⟩) (λH0 B H τ σ Q Qd q1 q2 q3 q4 q5=>⟨H0,B,τ,Qd,q1,q2,q3,q4,q5⟩)⟩
theorem vc_e(h:VC X EX e te):VE X EX e te:=let ⟨_,a1,a2⟩:=h.u;⟨_,qc_e a1,a2⟩
def ownL(τ:VSt)(i:Nat)(Q:List D->Prop):Prop:=match τ[i]? with
|some (some (.own (.lst ds)))=>Q ds
|_=>False
theorem qxq{i:Nat}{Q:List D->Prop}(h:ownL τ i Q):∃ds,τ[i]?=some (some (.own (.lst ds)))/\Q ds:=by
 unfold ownL at h
 split at h
 ·exact⟨_,by assumption,h⟩
 ·exact h.elim
theorem Slots.lst{i:Nat}{ds es:List D}{ad:Addr}{ys:List V}(S:Slots K H0 B H τ σ)(p:Stp B0 H0 B H)(hi:τ[i]?=some (some (.own (.lst ds))))(ha:σ[i]?=some (some (.ref ad)))(r:Reps K B es ys) :
  Stp B0 H0 B (L2.upd H ad (.lst ys))/\Slots K H0 B (L2.upd H ad (.lst ys)) (τ.set i (some (.own (.lst es)))) σ:=by
 obtain⟨c,q,h0,hb,_⟩:=S.own i _ hi
 rw[ha] at q
 cases q
 exact⟨p.upd h0 hb,S.upd hi ha (qbt r)⟩
theorem Slots.ownL{i:Nat}{Q:List D->Prop}(S:Slots K H0 B H τ σ)(h:L2.ownL τ i Q):∃ds ad xs,τ[i]?=some (some (.own (.lst ds)))/\Q ds/\σ[i]?=some (some (.ref ad))/\H ad=some (.lst xs)/\Reps K B ds xs:=by
 obtain⟨ds,e,q⟩:=qxq h
 obtain⟨a,q1,_,_,xs,q2,q3⟩:=S.own i _ e
 exact⟨ds,a,xs,e,q,q1,q2,q3⟩
def qgw(i:Nat)(te:TV):TVS:=λDv τ=>ownL τ i λds=>te τ λr=>exS τ Dv r (pubR r λd=>ds.length<sizeLine/\Dv.nx (τ.set i (some (.own (.lst (ds++[d]))))))
theorem qsd(i:Nat)(h:VE X EX e te)(hN:X.N[i]?=some x:=by rfl)(hv:Vis X.env.scope x:=by first|exact Or.inl rfl|exact Or.inr (Or.inl rfl)|exact Or.inr (Or.inr rfl))(hd:(x==("__debug__" : Str))=false:=by decide)
  (hcd:(x==("__classdict__" : Str))=false:=by decide) (hp:qaq e=true:=by rfl)
  (hbase:attributeBase (.Name x p) "append" X.env (eval (.Name x p) X.env)=eval (.Name x p) X.env:=by rfl) (hline:(apos.endLine==cpos.line)=true:=by rfl)
  (hs:swapsWith (.Call (.Attribute (.Name x p) "append" apos) [e] [] cpos) none pos.line X.env=pure false:=by rfl) :
  VS X EX (.Expr (.Call (.Attribute (.Name x p) "append" apos) [e] [] cpos) pos) (qgw i te) :=
 let ⟨_,a1,a2⟩:=h.u;⟨_,qis (qbm PySem.F.plainAttrs_list PySem.F.slot_list_append PySem.F.type_list_append qjz (qv i hN hv hd hcd) (qac a1 qeg hp) (by simp[hp]) rfl hbase hline) hs,λB0 H0 B H τ σ Dv Dh p S h E=>by
  obtain⟨ds,ad,xs,e1,h,e2,e3,_⟩:=S.ownL h
  refine⟨.ref ad,e2,.inl ⟨rfl,xs,SqL.of e3⟩,a2 H0 B H τ σ _ _ p.s S h (E.raised p S) λr v B' H' q hr hq=>?_⟩
  obtain⟨d,B2,q2,_,rp,hz,hn⟩:=pub q hr (hr.okS hq)
  have S2:=S.step q2
  obtain⟨a',q1,_,_,xs2,q4,q3⟩:=S2.own i _ e1
  rw[e2] at q1
  cases q1
  refine⟨ad,xs2,v,rfl,rfl,q4,by rw[←q3.length];exact hz,?_⟩
  obtain⟨p3,S3⟩:=S2.lst (p.trans q2) e1 e2 (q3.append (.one rp))
  exact E.nx B2 _ _ σ p3 S3 hn⟩
def qr3(i:Nat)(tk te:TV):TVS:=λDv τ=>ownL τ i λds=>te τ λr=>exS τ Dv r <| pubR r λd=>tk τ λrk=>match rk.d with
|.int k=>∃j,ixN ds.length k=some j/\Dv.nx (τ.set i (some (.own (.lst (ds.set j d)))))
|_=>False
theorem qzk{ek:Expr}{tk:TV}(i:Nat)(hk:VE X EX ek tk)(h:VE X EX e te)(hN:X.N[i]?=some x:=by rfl)(hv:Vis X.env.scope x:=by first|exact Or.inl rfl|exact Or.inr (Or.inl rfl)|exact Or.inr (Or.inr rfl))(hd:(x==("__debug__" : Str))=false:=by decide)
  (hcd:(x==("__classdict__" : Str))=false:=by decide)
  (ha:∀v,assign (.Subscript (.Name x p) ek p2) X.env v=(do
   let ov ←holding [v] (eval (.Name x p) X.env)
   let iv ←holding [v,ov] (eval ek X.env)
   standAt p2
   holding [v,ov,iv] (setItem ov iv v)
   release [v,ov,iv] []):=by intro _;rfl)
  (hs:swapsWithSole [.Subscript (.Name x p) ek p2] e pos.line X.env=pure false:=by rfl) (hw:swappedStores [.Subscript (.Name x p) ek p2] e X.env=pure none:=by rfl)
  (h1:(assignEach [.Subscript (.Name x p) ek p2] X.env).map (·.2)=[assign (.Subscript (.Name x p) ek p2) X.env]:=by rfl):VS X EX (.Assign [.Subscript (.Name x p) ek p2] e pos) (qr3 i tk te) :=
 let ⟨_,a1,a2⟩:=h.u;let ⟨_,b1,b2⟩:=hk.u;⟨_,qvp a1 (qvn (qv i hN hv hd hcd) b1 set_list ha) hs hw h1,λB0 H0 B H τ σ Dv Dh p S h E=>by
  obtain⟨ds,ad,xs,e1,h,e2,e3,_⟩:=S.ownL h
  refine a2 H0 B H τ σ _ _ p.s S h (E.raised p S) λr v B' H' q hr hq=>?_
  obtain⟨d,B2,q2,_,rp,hn⟩:=pub q hr (hr.okS hq)
  refine⟨.ref ad,e2,b2 H0 B2 H' τ σ _ _ q2.s (S.step q2) hn (xno λ_ q=>q) λrk vk B3 H3 q3 hk hh=>?_⟩
  split at hh
  ·rename_i k ek
   obtain⟨j,hj,hn⟩:=hh
   have qq:=q2.trans q3
   have S3:=S.step qq
   obtain⟨a',f1,_,_,xs2,f4,f3⟩:=S3.own i _ e1
   rw[e2] at f1
   cases f1
   refine⟨ad,xs2,k,j,rfl,hk.pk.scal (by rw[ek];rfl),f4,by rw[←f3.length];exact hj,?_⟩
   obtain⟨p4,S4⟩:=S3.lst (p.trans qq) e1 e2 (f3.set j (rp.same q3.b))
   exact E.nx B3 _ _ σ p4 S4 hn
  ·exact hh.elim⟩
def qba(N:List Str)(ds:List D):VSt:=ds.map (λd=>some (R.val d))++List.replicate (N.length-ds.length) none
theorem qeb:∀ {ds:List D} {vs:List V},Reps K B ds vs->Slots K H0 B H (ds.map λd=>some (R.val d)) (vs.map some)
|[],_,h=>by
  unfold Reps at h
  subst h
  exact⟨rfl,λi d e=>by simp at e,λi d e=>by simp at e,λi d e=>by simp at e,λi j d e a h=>by simp at h⟩
|d::ds,_,h=>by
  unfold Reps at h
  obtain⟨v,vs,rfl,h1,h2⟩:=h
  have S:=qeb h2
  refine⟨by have:=S.len;simp at this ⊢;exact this,λi f e=>?_,λi f e=>?_,λi f e=>?_,λi j f g ad e=>?_⟩
  ·cases i with
  |zero=>simp at e;subst e;exact⟨v,rfl,h1⟩
  |succ i=>simpa using S.val i f (by simpa using e)
  ·cases i with
  |zero=>simp at e
  |succ i=>simpa using S.fz i f (by simpa using e)
  ·cases i with
  |zero=>simp at e
  |succ i=>simpa using S.own i f (by simpa using e)
  ·cases i with
  |zero=>simp at e
  |succ i =>
    simp at e
theorem Fun.okV{P:Program}{w:World}{mg:Str->Option Value}{base:Heap}{x qual:Str}{st:Stmt}{f:Addr}{fd:FuncData}{N ps:List Str}{k:Nat}{g:DP}(F:Fun K x qual st f fd)(S:FnScope N ps (qab st))(len:∀ds Q,g ds Q->ds.length=ps.length)
  (hbody:∀(cdv:Value) (A:Around) (outer:List Env) (s:Shared) (H:Hp) (E:XK),Room k (A.deeper (envOfC qual (qab st) s.heap.objs.size f cdv)) ->
   ∃t,VSs (cxOf CX0 P w K mg base N qual (qab st) f cdv A outer s H E).nox EX0 (qal st) t/\∀ds Q,g ds Q->t { nx:=λ_=>Q (.val .non),rt:=Q } (qba N ds)):FnOk P w K mg base CX0 (k+1) f fd ps (spOf K g):=by
 refine F.okQ S (λvs H Q E h=>?_) (λcdv A outer s H vs Q E hr h=>?_)
 ·obtain⟨ds,B,Qd,_,rp,hg,_,_⟩:=h
  rw[←rp.length]
  exact len ds Qd hg
 ·obtain⟨ds,B,Qd,sm,rp,hg,_,kk⟩:=h
  obtain⟨t,⟨ts,q1,q2⟩,ht⟩:=hbody cdv A outer s H E hr
  refine⟨ts,q1,q2 B H B H (qba N ds) (start N vs) _ _ (.refl sm) ?_ (ht ds Qd hg) ⟨λB' H' τ σ p S h=>kk (.val .non) .non B' H' h p (repV rfl),λr v B' H' p hr h=>kk r v B' H' h p hr,λ_ _ _ _ _ _ h=>h.elim,λ_ _ _ _ _ _ h=>h.elim,λ_ _ _ _ _ _ _ _ _ h=>h.elim,λ_ _ _ _ _ _ _ _ _ _ h=>h.elim⟩⟩
  unfold qba start
  rw[rp.length]
  exact(qeb rp).more _
end
end L2
namespace L2
open PySem PySem.Spec PyProof.Rows
section
variable {X:Cx} {EX:St->XK} {K:PySem.W.Frag} {e a b c o:Expr} {te ta tb tc to:TV} {pos p apos cpos:Pos} {x:Str}
def vNeg(ta:TV):TV:=λτ Q=>ta τ λr=>match r.d with
|.int i=>Q (.val (.int (-i)))
|_=>False
theorem qr5(ha:VE X EX a ta):VE X EX (.UnaryOp .USub a pos) (vNeg ta) :=
 let ⟨_,a1,a2⟩:=ha.u;⟨_,q3x q2t a1,λH0 B H τ σ Q Qd s S h xc k=>a2 H0 B H τ σ _ _ s S h (xno λ_ q=>q) λr v B' H' p q h1=>by
  split at h1
  ·rename_i i e
   exact⟨i,q.pk.scal (by rw[e];rfl),k (.val (.int (-i))) _ B' H' p (repV rfl) h1⟩
  ·exact h1.elim⟩
def vIsN(g:Bool->Bool)(rx ry:R)(Q:R->Prop):Prop:=match ry.d with
|.non=>Q (.val (.bl (g (match rx.d with|.non=>true|_=>false))))
|_=>False
def qhv(rd rd':R->R->(R->Prop)->Prop)(ta tb tc:TV):TV:=λτ Q=>ta τ λrx=>exR rx (λ_=>False) <| tb τ λry=>exR ry (λ_=>False) <| rd rx ry λrz=>match rz.d with
|.bl k=>if k=true then tc τ λrw=>exR rw (λ_=>False) (rd' ry rw Q) else Q (.val (.bl false))
|_=>False
theorem qtf:MtM X "str.join" (λx vs H Q=>∃(sep:Str) (l:Addr) (ys:List Str),x=.str sep/\vs=[.ref l]/\SqT X.K H l (ys.map V.str)/\(ys.map (·.length)).sum+ys.length*sep.length<=16777216/\Q (.str (glue sep ys)) H):=by
 intro pins s σ H x vs v us Q I rx rv h
 obtain⟨sep,l,ys,rfl,rfl,hq,hz,q⟩:=h
 obtain⟨t,rfl⟩:=rx
 obtain⟨u,rfl,ru⟩:=rv.one
 cases ru
 obtain⟨its,r,pl,_⟩:=I.tuple hq
 obtain⟨ts,rfl,rfl⟩:=qmc r
 have fit:Builtin.Str.tooLong ((ts.map (·.1)).toArray.foldl (·+·.length+sep.length) 0)=false:=by
  rw[StrLaws.joinTotal]
  unfold Builtin.Str.tooLong
  rw[sizeLine_eq]
  exact decide_eq_false (by lia)
 exact call_meets F.slot_str_join (typeIs_str _ _ _) F.entry_str_join (F.args_str_join_2 _ _) (meets_str_join_tuple sep t l ts fit) ⟨(let ⟨o,h1,h2,n,h3⟩:=pl;⟨o,n,h1,h2,h3⟩),post_join ts ⟨joinFit_length fit,λt' k=>⟨.str (glue sep (ts.map (·.1))),H,I.tok k,⟨t',rfl⟩,q⟩⟩⟩
def qmf(to te:TV):TV:=λτ Q=>to τ λrs=>match rs.d with
|.str sep=>te τ λrl=>∃ys:List Str,(rl.d=.lst (ys.map D.str)\/rl.d=.tup (ys.map D.str))/\(ys.map (·.length)).sum+ys.length*sep.length<=16777216/\Q (.val (.str (glue sep ys)))
|_=>False
theorem qmi(ho:VE X EX o to)(h:VE X EX e te)(hp:qaq e=true:=by rfl)
  (hbase:attributeBase o "join" X.env (eval o X.env)=eval o X.env:=by rfl) (hline:(apos.endLine==cpos.line)=true:=by rfl):VE X EX (.Call (.Attribute o "join" apos) [e] [] cpos) (qmf to te) :=
 let ⟨_,o1,o2⟩:=ho.u;let ⟨_,a1,a2⟩:=h.u;⟨_,qbm PySem.F.plainAttrs_str PySem.F.slot_str_join PySem.F.type_str_join (MtR.or qxf qtf) o1 (qac a1 qeg hp) (by simp[hp]) rfl hbase hline,λH0 B H τ σ Q Qd s S h xc k =>
  o2 H0 B H τ σ _ _ s S h (xno λ_ q=>q) λrs vs B1 H1 p1 q1 h1=>by
   split at h1
   ·rename_i sep es
    cases q1.pk.scal (z:=.str sep) (by rw[es];rfl)
    refine⟨rfl,a2 H0 B1 H1 τ σ _ _ p1.s (S.step p1) h1 (xno λ_ ⟨_,q,_⟩=>by rcases q with q|q<;>cases q) λrl vl B2 H2 p2 q2 h2=>?_⟩
    obtain⟨ys,el,hz,hq⟩:=h2
    rcases el with el|el
    ·obtain⟨ad,xs,rfl,hx,rx⟩:=q2.pk.lst p2.s el
     exact .inl ⟨sep,ad,ys,rfl,rfl,SqL.of (by rw[hx,rx.strs]),hz,k _ _ B2 H2 (p1.trans p2) (repV rfl) hq⟩
    ·obtain⟨ad,xs,rfl,hx,rx⟩:=q2.pk.tup el
     cases rx.strs
     exact .inr ⟨sep,ad,ys,rfl,rfl,p2.s.sqT hx.sq,hz,k _ _ B2 H2 (p1.trans p2) (repV rfl) hq⟩
   ·exact h1.elim⟩
theorem qud{r r':R2}{rd rd':R->R->(R->Prop)->Prop}{ea eb ec:TE}(hr:RfO K r rd)(hr':RfO K r' rd')(ha:RfE K EX ea ta)(hb:RfE K EX eb tb)(hc:RfE K EX ec tc):RfE K EX (qrp r r' ea eb ec) (qhv rd rd' ta tb tc):=λH0 B H τ σ Q Qd s S h xc k =>
 ha H0 B H τ σ _ _ s S h (xno λ_ q=>q) λrx x B1 H1 p1 q1 h1=>hb H0 B1 H1 τ σ _ _ p1.s (S.step p1) (q1.ok h1) (xno λ_ q=>q) λry y B2 H2 p2 q2 h2 =>
  hr B2 H2 x y rx ry _ _ p2.s (q1.pk.step p2) q2.pk (q2.ok h2) λrz z B3 H3 p3 q3 h3=>by
   split at h3
   ·rename_i kk ek
    refine⟨kk,q3.pk.scal (by rw[ek];rfl),?_⟩
    have p13:=p1.trans (p2.trans p3)
    cases kk with
   |true =>
     rw[if_pos rfl] at h3 ⊢
     exact hc H0 B3 H3 τ σ _ _ p3.s (S.step p13) h3 (xno λ_ q=>q) λrw' w B4 H4 p4 q4 h4=>hr' B4 H4 y w ry rw' _ _ p4.s ((q2.pk.step p3).step p4) q4.pk (q4.ok h4) λr v B5 H5 p5 q5 h5=>k r v B5 H5 (p13.trans (p4.trans p5)) (q5.back (p13.trans p4).h) h5
   |false =>
     rw[if_neg Bool.false_ne_true] at h3 ⊢
     exact k (.val (.bl false)) _ B3 H3 p13 (repV rfl) h3
   ·exact h3.elim
theorem qu4{op op':CmpOp}{rd rd':R->R->(R->Prop)->Prop}(hr:VO X (compareOp op) rd)(hr':VO X (compareOp op') rd')(ha:VE X EX a ta)(hb:VE X EX b tb)(hc:VE X EX c tc)(hm:lastMarks [op,op'] [b,c]=false:=by with_unfolding_all rfl) :
  VT X EX (.Compare a [op,op'] [b,c] pos) (vBl (qhv rd rd' ta tb tc)) :=
 let ⟨_,r1,r2⟩:=hr.u;let ⟨_,s1,s2⟩:=hr'.u;let ⟨_,a1,a2⟩:=ha.u;let ⟨_,b1,b2⟩:=hb.u;let ⟨_,c1,c2⟩:=hc.u;⟨_,qt8 r1 s1 a1 b1 c1 hm,quc (qud r2 s2 a2 b2 c2)⟩
def strsOf:List D->Option (List Str)
|[]=>some []
|.str s::ds=>(strsOf ds).map (s::·)
|_::_=>none
theorem qfc(ss:List Str):strsOf (ss.map D.str)=some ss:=by
 induction ss with
|nil=>rfl
|cons s ss ih=>rw[List.map_cons,strsOf,ih];rfl
theorem qd3:∀ {ds:List D} {ss:List Str},strsOf ds=some ss->ds=ss.map D.str
|[],ss,h=>by cases h;rfl
|d::ds,ss,h=>by
  cases d<;>first|(unfold strsOf at h;cases h;done)|skip
  rename_i s
  unfold strsOf at h
  cases q:strsOf ds with
 |none=>rw[q] at h;cases h
 |some r =>
   rw[q] at h
   cases h
   rw[qd3 q]
   rfl
def vIn(g:Bool->Bool)(rx ry:R)(Q:R->Prop):Prop:=match rx.d,ry.d with
|.str x,.str y=>Q (.val (.bl (g (!(Builtin.Str.occurrences y x 0 y.length 1).isEmpty))))
|.str x,.tup ds=>∃ss,strsOf ds=some ss/\Q (.val (.bl (g (decide (x∈ss)))))
|.str x,.lst ds=>∃ss,strsOf ds=some ss/\Q (.val (.bl (g (decide (x∈ss)))))
|.str x,.kt ss=>Q (.val (.bl (g (decide (x∈ss)))))
|_,_=>False
theorem qdu(x:Str):∀(ss:List Str),inV (.str x) (ss.map V.str)=decide (x∈ss)
|[]=>rfl
|y::ss=>by
  have:=qdu x ss
  unfold inV at this ⊢
  rw[List.map_cons,List.any_cons,this]
  apply qa3
  rw[Bool.or_eq_true,decide_eq_true_iff,decide_eq_true_iff,List.mem_cons]
  rw[show eqV (V.str y) (V.str x)=(y==x) from rfl,beq_iff_eq]
  exact⟨λh=>h.imp Eq.symm id,λh=>h.imp Eq.symm id⟩
theorem qde(ss:List Str):(ss.map V.str).all qfq=true:=by rw[List.all_map];simp[qfq]
theorem Pk.kt{B H:Hp}{r:R}{v:V}{ss:List Str}(h:Pk K B H r v)(e:r.d=.kt ss):∃a,v=.ref a/\SqT K (λ_=>none) a (ss.map V.str):=by
 cases r with
|val d =>
  cases (show d=_ from e)
  have h':Rep K B (.kt ss) v:=h
  unfold Rep at h'
  exact h'
|own d=>cases (show d=_ from e);obtain⟨_,_,_,q⟩:=h;exact q.elim
|peek d=>cases (show d=_ from e);obtain⟨_,_,_,q⟩:=h;exact q.elim
|exc n=>exact h.elim
theorem qzf:VO X (compareOp .In) (vIn id):=by
 refine⟨_,op_in_str.or qq3,λB H x y rx ry Q Qd s px py h k=>?_⟩
 unfold vIn at h
 split at h
 ·rename_i u w e1 e2
  exact .inl ⟨u,w,px.scal (by rw[e1];rfl),py.scal (by rw[e2];rfl),k _ _ B H (.refl s) (repV rfl) h⟩
 ·rename_i u ds e1 e2
  obtain⟨ss,hs,q⟩:=h
  cases qd3 hs
  cases px.scal (z:=.str u) (by rw[e1];rfl)
  obtain⟨a,xs,rfl,h1,r1⟩:=py.tup e2
  cases r1.strs
  have q':Qd (.val (.bl (decide (u∈ss)))):=q
  rw[←qdu] at q'
  exact .inr ⟨a,_,rfl,.inr (s.sqT h1.sq),rfl,qde ss,k _ _ B H (.refl s) (repV rfl) q'⟩
 ·rename_i u ds e1 e2
  obtain⟨ss,hs,q⟩:=h
  cases qd3 hs
  cases px.scal (z:=.str u) (by rw[e1];rfl)
  obtain⟨a,xs,rfl,h1,r1⟩:=py.lst s e2
  cases r1.strs
  have q':Qd (.val (.bl (decide (u∈ss)))):=q
  rw[←qdu] at q'
  exact .inr ⟨a,_,rfl,.inl (SqL.of h1),rfl,qde ss,k _ _ B H (.refl s) (repV rfl) q'⟩
 ·rename_i u ss e1 e2
  cases px.scal (z:=.str u) (by rw[e1];rfl)
  obtain⟨a,rfl,h1⟩:=py.kt e2
  have q':Qd (.val (.bl (decide (u∈ss)))):=h
  rw[←qdu] at q'
  exact .inr ⟨a,_,rfl,.inr ((Same.emp H).sqT h1),rfl,qde ss,k _ _ B H (.refl s) (repV rfl) q'⟩
 ·exact h.elim
theorem quz:VO X (compareOp .NotIn) (vIn (!·)):=by
 refine⟨_,op_notin_str.or qj4,λB H x y rx ry Q Qd s px py h k=>?_⟩
 unfold vIn at h
 split at h
 ·rename_i u w e1 e2
  exact .inl ⟨u,w,px.scal (by rw[e1];rfl),py.scal (by rw[e2];rfl),k _ _ B H (.refl s) (repV rfl) h⟩
 ·rename_i u ds e1 e2
  obtain⟨ss,hs,q⟩:=h
  cases qd3 hs
  cases px.scal (z:=.str u) (by rw[e1];rfl)
  obtain⟨a,xs,rfl,h1,r1⟩:=py.tup e2
  cases r1.strs
  have q':Qd (.val (.bl (!decide (u∈ss)))):=q
  rw[←qdu] at q'
  exact .inr ⟨a,_,rfl,.inr (s.sqT h1.sq),rfl,qde ss,k _ _ B H (.refl s) (repV rfl) q'⟩
 ·rename_i u ds e1 e2
  obtain⟨ss,hs,q⟩:=h
  cases qd3 hs
  cases px.scal (z:=.str u) (by rw[e1];rfl)
  obtain⟨a,xs,rfl,h1,r1⟩:=py.lst s e2
  cases r1.strs
  have q':Qd (.val (.bl (!decide (u∈ss)))):=q
  rw[←qdu] at q'
  exact .inr ⟨a,_,rfl,.inl (SqL.of h1),rfl,qde ss,k _ _ B H (.refl s) (repV rfl) q'⟩
 ·rename_i u ss e1 e2
  cases px.scal (z:=.str u) (by rw[e1];rfl)
  obtain⟨a,rfl,h1⟩:=py.kt e2
  have q':Qd (.val (.bl (!decide (u∈ss)))):=h
  rw[←qdu] at q'
  exact .inr ⟨a,_,rfl,.inr ((Same.emp H).sqT h1),rfl,qde ss,k _ _ B H (.refl s) (repV rfl) q'⟩
 ·exact h.elim
end
end L2
namespace L2
open PySem PySem.Spec PyProof.Rows
theorem v_cut{t u:TVS}{Dv:VEnds}{τ:VSt}(Pv:VSt->Prop)(rest:∀τ,Pv τ->u Dv τ)(now:∀nx:VSt->Prop,(∀τ,Pv τ->nx τ)->t { nx:=nx,rt:=Dv.rt,bk:=Dv.bk,ct:=Dv.ct,xc:=Dv.xc,ro:=Dv.ro } τ):vSeq t u Dv τ:=now (u Dv) rest
section
variable {g:TVG} {tb:TVS} {Dv:VEnds} {τ:VSt}
theorem qwv{ds:List D}(Pv:Nat->VSt->Prop)(h0:Pv 0 τ)(hn:∀(i:Nat) (d:D) (τ:VSt),ds[i]?=some d->Pv i τ->∀nx:VSt->Prop,(∀τ',Pv (i+1) τ'->nx τ')->g d τ λτ'=>tb { nx:=nx,rt:=Dv.rt,bk:=Dv.nx,ct:=nx,xc:=Dv.xc,ro:=Dv.ro } τ')
  (he:∀τ,Pv ds.length τ->Dv.nx τ):forW g tb Dv ds τ:=by
 have key:∀(n i:Nat) (τ:VSt),ds.length-i=n->i<=ds.length->Pv i τ->forW g tb Dv (ds.drop i) τ:=λn=>by
  induction n with
 |zero =>
   intro i τ h1 h2 h3
   have e:i=ds.length:=by lia
   subst e
   rw[List.drop_length]
   exact he τ h3
 |succ n ih =>
   intro i τ h1 h2 h3
   have l:i<ds.length:=by lia
   rw[List.drop_eq_getElem_cons l]
   exact hn i ds[i] τ (List.getElem?_eq_getElem l) h3 _ λτ' h=>ih (i+1) τ' (by lia) (by lia) h
 have:=key ds.length 0 τ (by lia) (Nat.zero_le _) h0
 rw[List.drop_zero] at this
 exact this
theorem qic{α:Type}{f:α->D}{xs:List α}(Pv:Nat->VSt->Prop)(h0:Pv 0 τ)(hn:∀(i:Nat) (x:α) (τ:VSt),xs[i]?=some x->Pv i τ->∀nx:VSt->Prop,(∀τ',Pv (i+1) τ'->nx τ')->g (f x) τ λτ'=>tb { nx:=nx,rt:=Dv.rt,bk:=Dv.nx,ct:=nx,xc:=Dv.xc,ro:=Dv.ro } τ')
  (he:∀τ,Pv xs.length τ->Dv.nx τ):forW g tb Dv (xs.map f) τ:=by
 refine qwv Pv h0 (λi d τ e=>?_) (by rw[List.length_map];exact he)
 rw[List.getElem?_map] at e
 cases q:xs[i]? with
|none=>rw[q] at e;cases e
|some x =>
  rw[q] at e
  cases e
  exact hn i x τ q
theorem qid{lo:Int}{n:Nat}(Pv:Nat->VSt->Prop)(h0:Pv 0 τ)(hn:∀(i:Nat) (τ:VSt),i<n->Pv i τ->∀nx:VSt->Prop,(∀τ',Pv (i+1) τ'->nx τ')->g (.int (lo+i)) τ λτ'=>tb { nx:=nx,rt:=Dv.rt,bk:=Dv.nx,ct:=nx,xc:=Dv.xc,ro:=Dv.ro } τ')
  (he:∀τ,Pv n τ->Dv.nx τ):forW g tb Dv (rngL lo n) τ:=by
 unfold rngL
 refine qic Pv h0 (λi x τ e=>?_) (by rw[List.length_range];exact he)
 by_cases l:i<n
 ·rw[List.getElem?_range l] at e
  cases e
  exact hn i τ l
 ·rw[List.getElem?_eq_none (by rw[List.length_range];lia)] at e
  cases e
end
theorem qn4{α:Type}(xs:List α):xs.filter (λ_=>true)=xs:=List.filter_eq_self.mpr λ_ _=>rfl
section
variable {α:Type} {f:α->D} {τ:VSt} {k:Nat} {g:TVG} {ti:TVT} {te:TV} {Q:R->Prop}
theorem qsy(P:α->D->Prop)(p:α->Bool)(xs:List α)(hz:xs.length<=sizeLine)
  (ok:∀x∈xs,∀(Y:R->Prop) (N:Prop),(p x=true->∀d,P x d->Y (.val d))->(p x=false->N)->g (f x) (τ++List.replicate k none) λτ2=>(τ2.take τ.length=τ/\τ2.length=τ.length+k)/\ti τ2 λb=>if b=true then te τ2 Y else N)
  (fin:∀es:List D,es.length=(xs.filter p).length->(∀(j:Nat) (x:α) (e:D),(xs.filter p)[j]?=some x->es[j]?=some e->P x e)->Q (.own (.lst es))):qjk τ k g ti te Q (xs.map f) []:=by
 have key:∀(ys zs:List α) (acc:List D),xs=zs++ys->acc.length=(zs.filter p).length->(∀(j:Nat) (x:α) (e:D),(zs.filter p)[j]?=some x->acc[j]?=some e->P x e)->qjk τ k g ti te Q (ys.map f) acc:=by
  intro ys
  induction ys with
 |nil =>
   intro zs acc e h1 h2
   rw[List.append_nil] at e
   subst e
   exact fin acc h1 h2
 |cons y ys ih =>
   intro zs acc e h1 h2
   have hl:acc.length<sizeLine:=by
    have h3:=List.length_filter_le p zs
    have h4:xs.length=zs.length+(ys.length+1):=by rw[e,List.length_append,List.length_cons]
    lia
   refine ok y (by rw[e];simp) _ _ (λhp d hd=>⟨hl,ih (zs++[y]) (acc++[d]) (by rw[e];simp) ?_ λj x e' q1 q2=>?_⟩) (λhp=>ih (zs++[y]) acc (by rw[e];simp) ?_ λj x e' q1 q2=>?_)
   ·rw[List.filter_append,List.length_append,List.length_append,h1]
    simp[hp]
   ·rw[List.filter_append] at q1
    have ef:[y].filter p=[y]:=by simp[hp]
    rw[ef] at q1
    by_cases l:j<(zs.filter p).length
    ·rw[List.getElem?_append_left l] at q1
     rw[List.getElem?_append_left (by lia)] at q2
     exact h2 j x e' q1 q2
    ·rw[List.getElem?_append_right (by lia)] at q1
     rw[List.getElem?_append_right (by lia)] at q2
     have ej:j-(zs.filter p).length=0:=by
      have:=(List.getElem?_eq_some_iff.mp q1).1
      simp at this
      lia
     rw[ej] at q1
     rw[h1,ej] at q2
     cases q1
     cases q2
     exact hd
   ·rw[List.filter_append,List.length_append,h1]
    simp[hp]
   ·rw[List.filter_append] at q1
    have ef:[y].filter p=[]:=by simp[hp]
    rw[ef,List.append_nil] at q1
    exact h2 j x e' q1 q2
 exact key xs [] [] rfl rfl (λj x e q=>by simp at q)
theorem qk3(h:α->D)(p:α->Bool)(xs:List α)(hz:xs.length<=sizeLine)
  (ok:∀x∈xs,∀(Y:R->Prop) (N:Prop),(p x=true->Y (.val (h x)))->(p x=false->N)->g (f x) (τ++List.replicate k none) λτ2=>(τ2.take τ.length=τ/\τ2.length=τ.length+k)/\ti τ2 λb=>if b=true then te τ2 Y else N)
  (fin:Q (.own (.lst ((xs.filter p).map h)))):qjk τ k g ti te Q (xs.map f) []:=by
 refine qsy (λx d=>d=h x) p xs hz (λx hx Y N h1 h2=>ok x hx Y N (λz=>h1 z _ rfl) h2) λes hl he=>?_
 have:es=(xs.filter p).map h:=List.ext_getElem (by rw[hl,List.length_map]) λj h1 h2=>by
  rw[List.length_map] at h2
  rw[List.getElem_map]
  exact he j _ _ (List.getElem?_eq_getElem h2) (List.getElem?_eq_getElem h1)
 rw[this]
 exact fin
theorem qd5(h:α->D)(xs:List α)(hz:xs.length<=sizeLine)
  (ok:∀x∈xs,∀(Y:R->Prop) (N:Prop),Y (.val (h x))->g (f x) (τ++List.replicate k none) λτ2=>(τ2.take τ.length=τ/\τ2.length=τ.length+k)/\ti τ2 λb=>if b=true then te τ2 Y else N)
  (fin:Q (.own (.lst (xs.map h)))):qjk τ k g ti te Q (xs.map f) []:=by
 refine qk3 h (λ_=>true) xs hz (λx hx Y N h1 _=>ok x hx Y N (h1 rfl)) ?_
 rw[qn4]
 exact fin
end
def wayD(ws:List Str):D:=.tup (ws.map D.str)
def q2j(ws:List Str):D:=.lst (ws.map D.str)
theorem qmu:∀(ss ts:List Str),qcl (ss.map D.str) (ts.map D.str)=true
|[],_=>by unfold qcl;rfl
|_::_,[]=>by unfold qcl;rfl
|s::ss,t::ts=>by
  show qcl (.str s::ss.map D.str) (.str t::ts.map D.str)=true
  unfold qcl
  rw[qmu ss ts]
  rfl
theorem qh7:∀(ss:List Str),qb2 (ss.map D.str)=0
|[]=>rfl
|s::ss=>by
  show qb2 (.str s::ss.map D.str)=0
  unfold qb2
  rw[qh7 ss]
  rfl
theorem qls{ss ts:List Str}(h:ss.map D.str=ts.map D.str):ss=ts:=by
 induction ss generalizing ts with
|nil=>cases ts with
 |nil=>rfl
 |cons t ts=>cases h
|cons s ss ih=>cases ts with
 |nil=>cases h
 |cons t ts =>
   injection h with h1 h2
   injection h1 with h1
   rw[h1,ih h2]
theorem eq_int(i j:Int):eqD (.int i) (.int j)=decide (i=j):=qa3 (by
 rw[eqD_iff,decide_eq_true_iff]
 exact⟨λh=>D.int.inj h,λh=>h▸rfl⟩)
theorem eq_str(i j:Str):eqD (.str i) (.str j)=decide (i=j):=qa3 (by
 rw[eqD_iff,decide_eq_true_iff]
 exact⟨λh=>D.str.inj h,λh=>h▸rfl⟩)
theorem qpu(i j:Int):cmpD (.int i) (.int j)=true:=rfl
theorem qk2(i j:Str):cmpD (.str i) (.str j)=true:=rfl
theorem qpz(i:Int):depD (.int i)=0:=rfl
theorem qp0(i:Str):depD (.str i)=0:=rfl
theorem qpo{α β:Type}(f:α->β)(xs:List α)(k:Int):atI (xs.map f) k=(atI xs k).map f:=by
 unfold atI
 rw[List.length_map]
 cases ixN xs.length k with
|none=>rfl
|some j=>simp
theorem qh5{α β:Type}(f:α->β)(xs:List α)(lo hi:Option Int):cutL (xs.map f) lo hi=(cutL xs lo hi).map f:=by
 unfold cutL
 rw[List.length_map,List.map_take,List.map_drop]
theorem quk{K:PySem.W.Frag}{H:Hp}{a:Addr}{ns:List Int}{g:DP}(h:g [.scr ns] (λr=>r=.val (.bl true)))(hS:SqL K H a (ns.map V.int)){E:XK}:spOf K g [.ref a] H (λv _=>v=.bl true) E :=
 ⟨[.scr ns],H,_,Same.refl H,.one (by unfold Rep;exact⟨a,rfl,hS⟩),h,(λn C B' H' e _ _=>by cases e),λr v B' H' e p rr=>by
  subst e
  have rr':Rep K B' (.bl true) v:=rr
  unfold Rep at rr'
  exact rr'⟩
theorem qek(ss ts:List Str):(ss.map D.str=ts.map D.str)=(ss=ts):=propext ⟨qls,λh=>h▸rfl⟩
theorem qgl(ss ts:List Int):(ss.map D.int=ts.map D.int)=(ss=ts):=propext ⟨λh=>by
 induction ss generalizing ts with
|nil=>cases ts with
 |nil=>rfl
 |cons t ts=>cases h
|cons s ss ih=>cases ts with
 |nil=>cases h
 |cons t ts =>
   injection h with h1 h2
   injection h1 with h1
   rw[h1,ih _ h2],λh=>h▸rfl⟩
theorem qm7{α:Type}(f:α->D)(xs:List α)(x:α):xs.map f++[f x]=(xs++[x]).map f:=by rw[List.map_append];rfl
theorem qnj(xs:List Str)(x:Str):xs.map D.str++[.str x]=(xs++[x]).map D.str:=qm7 _ xs x
theorem qni(xs:List Int)(x:Int):xs.map D.int++[.int x]=(xs++[x]).map D.int:=qm7 _ xs x
theorem qps(xs ys:List Str):xs.map D.str++ys.map D.str=(xs++ys).map D.str:=(List.map_append ..).symm
theorem qmx(xs:List Str):(xs.map D.str).dropLast=xs.dropLast.map D.str:=by
 rw[←qes,←qes,qh5]
theorem ql8(d:D)(Q:D->Prop):pubR (.val d) Q=Q d:=rfl
theorem ql7(d:D)(Q:D->Prop):pubR (.own d) Q=Q d:=rfl
theorem qno(k:Nat)(xs:List Str):(xs.map D.str).take k=(xs.take k).map D.str:=(List.map_take ..).symm
theorem qjm(k:Nat)(xs:List Str):(xs.map D.str).drop k=(xs.drop k).map D.str:=(List.map_drop ..).symm
theorem qpn{α:Type}(xs:List α)(n:Nat):atI xs (no_index (OfNat.ofNat n:Int))=xs[n]?:=by
 show atI xs (n:Int)=xs[n]?
 unfold atI ixN
 rw[if_pos (by lia)]
 by_cases h:(n:Int)<xs.length
 ·rw[if_pos h]
  simp
 ·rw[if_neg h]
  simp
  lia
theorem qmq{α:Type}(xs:List α):atI xs (-1)=xs.getLast?:=by
 unfold atI ixN
 rw[if_neg (by decide)]
 cases xs with
|nil=>rfl
|cons x xs =>
  rw[if_pos (by rw[List.length_cons];lia)]
  rw[List.getLast?_eq_getElem?]
  show (x::xs)[(-1+((x::xs).length:Int)).toNat]?=_
  congr 1
  lia
theorem qp8(d:D)(Q:R->Prop)(k:Prop):exR (.val d) Q k=k:=rfl
theorem qp7(d:D)(Q:R->Prop)(k:Prop):exR (.own d) Q k=k:=rfl
theorem qlc(d:D)(Q:R->Prop)(k:Prop):exR (.peek d) Q k=k:=rfl
theorem qp6(n:Str)(Q:R->Prop)(k:Prop):exR (.exc n) Q k=Q (.exc n):=rfl
theorem qk7(d:D)(Q:AR->Prop)(k:Prop):excA (.val d) Q k=k:=rfl
theorem qk6(d:D)(Q:AR->Prop)(k:Prop):excA (.own d) Q k=k:=rfl
theorem qh9(d:D)(Q:AR->Prop)(k:Prop):excA (.peek d) Q k=k:=rfl
theorem qk5(n:Str)(Q:AR->Prop)(k:Prop):excA (.exc n) Q k=Q (.exc n):=rfl
theorem qlb(τ:VSt)(Dv:VEnds)(d:D)(k:Prop):exS τ Dv (.val d) k=k:=rfl
theorem qla(τ:VSt)(Dv:VEnds)(d:D)(k:Prop):exS τ Dv (.own d) k=k:=rfl
theorem qia(τ:VSt)(Dv:VEnds)(d:D)(k:Prop):exS τ Dv (.peek d) k=k:=rfl
theorem qk9(τ:VSt)(Dv:VEnds)(n:Str)(k:Prop):exS τ Dv (.exc n) k=Dv.xc τ n:=rfl
theorem qp4(ds:List D)(Q:R->Prop)(k:List D->Prop):exA (.ok ds) Q k=k ds:=rfl
theorem qgd(n:Str)(Q:R->Prop)(k:List D->Prop):exA (.exc n) Q k=Q (.exc n):=rfl
theorem qp5(τ:VSt)(Dv:VEnds)(ds:List D)(k:List D->Prop):exI τ Dv (.ok ds) k=k ds:=rfl
theorem qk8(τ:VSt)(Dv:VEnds)(n:Str)(k:List D->Prop):exI τ Dv (.exc n) k=Dv.xc τ n:=rfl
theorem qly(d:D)(ds:List D):qxe d (.ok ds)=.ok (d::ds):=rfl
theorem qil(d:D)(n:Str):qxe d (.exc n)=.exc n:=rfl
theorem qrh(d:D):(R.val d).d=d:=rfl
theorem qrg(d:D):(R.own d).d=d:=rfl
theorem ql9(d:D):(R.peek d).d=d:=rfl
theorem qrf(n:Str):(R.exc n).d=.scr []:=rfl
theorem qft{t u:TVS}{Dv:VEnds}{τ:VSt}(h:t { nx:=u Dv,rt:=Dv.rt,bk:=Dv.bk,ct:=Dv.ct,xc:=Dv.xc,ro:=Dv.ro } τ):vSeq t u Dv τ:=h
end L2
namespace L2
open PySem PySem.Spec PyProof.Rows
def lkD:List (List Str)->List D->List Str->Option D
|k::ks,d::ds,w=>if k=w then some d else lkD ks ds w
|_,_,_=>none
def lkK:List Str->List D->Str->Option D
|k::ks,d::ds,w=>if k=w then some d else lkK ks ds w
|_,_,_=>none
def rpD:List (List Str)->List D->List Str->D->List D
|k::ks,e::ds,w,d=>(if k=w then d else e)::rpD ks ds w d
|_,_,_,_=>[]
def putD(ks:List (List Str))(ds:List D)(w:List Str)(d:D):D:=if w∈ks then .dT ks (rpD ks ds w d) else .dT (ks++[w]) (ds++[d])
theorem qsh{a b:List Str}(h:wK a=wK b):a=b:=by
 unfold wK at h
 induction a generalizing b with
|nil=>cases b with
 |nil=>rfl
 |cons _ _=>cases h
|cons x a ih=>cases b with
 |nil=>cases h
 |cons y b =>
   injection h with h1 h2
   injection h1 with h1
   rw[h1,ih h2]
theorem qo4(w:List Str):(wK w).map kV=w.map V.str:=by
 unfold wK
 rw[List.map_map]
 rfl
section
variable {K:PySem.W.Frag} {B H:Hp} {d:D} {r:R} {v:V}
theorem DGet.tR{H:Hp}{a b:Addr}{kvs:List (List Key×V)}{k:List Key}(e:Rd H a (.dT kvs))(eb:H b=some (.tup (k.map kV))):DGet H a (.ref b) (valV kvs k):=.inr ⟨kvs,k,b,e,rfl,eb,rfl⟩
theorem Pk.dT{ks:List (List Str)}{ds:List D}(s:Same B H)(h:Pk K B H r v)(e:r.d=.dT ks ds):∃a kvs,v=.ref a/\Rd H a (.dT kvs)/\kvs.map (·.1)=ks.map wK/\Reps K B ds (kvs.map (·.2)):=by
 cases r with
|val d =>
  cases (show d=_ from e)
  have h':Rep K B (.dT ks ds) v:=h
  unfold Rep at h'
  obtain⟨a,xs,rfl,q,k,rp⟩:=h'
  exact⟨a,xs,rfl,q.elim (λq=>.inl (s _ _ q)) λ⟨o,q⟩=>.inr ⟨o,s _ _ q⟩,k,rp⟩
|own d=>cases (show d=_ from e);obtain⟨a,rfl,_,xs,q,k,rp⟩:=h;exact⟨a,xs,rfl,.inl q,k,rp⟩
|peek d=>cases (show d=_ from e);obtain⟨a,rfl,_,xs,q,k,rp⟩:=h;exact⟨a,xs,rfl,.inl q,k,rp⟩
|exc n=>exact h.elim
theorem Pk.dK{ks:List Str}{ds:List D}(s:Same B H)(h:Pk K B H r v)(e:r.d=.dK ks ds):∃a kvs,v=.ref a/\H a=some (.dK kvs)/\kvs.map (·.1)=ks.map Sum.inr/\Reps K B ds (kvs.map (·.2)):=by
 cases r with
|val d =>
  cases (show d=_ from e)
  have h':Rep K B (.dK ks ds) v:=h
  unfold Rep at h'
  obtain⟨a,xs,rfl,q,k,rp⟩:=h'
  exact⟨a,xs,rfl,s _ _ q,k,rp⟩
|own d=>cases (show d=_ from e);obtain⟨a,rfl,_,xs,q,k,rp⟩:=h;exact⟨a,xs,rfl,q,k,rp⟩
|peek d=>cases (show d=_ from e);obtain⟨a,rfl,_,xs,q,k,rp⟩:=h;exact⟨a,xs,rfl,q,k,rp⟩
|exc n=>exact h.elim
theorem qwk{w:List Str}(t:w.map D.str=[.str "folder",.str ""]):w=(["folder",""]:List Str):=by
 cases w with
|nil=>cases t
|cons x w =>
  cases w with
 |nil=>cases t
 |cons y w =>
   cases w with
  |nil =>
    simp only[List.map_cons,List.map_nil,List.cons.injEq,D.str.injEq,and_true] at t
    rw[t.1,t.2]
  |cons z w=>cases t
theorem Pk.wayN{w:List Str}(h:Pk K B H r v)(e:r.d=.tup (w.map D.str))(n:w≠(["folder",""]:List Str)):∃a,v=.ref a/\B a=some (.tup (w.map V.str)):=by
 obtain⟨a,xs,rfl,t,rp⟩:=h.tup e
 refine⟨a,rfl,?_⟩
 rw[←rp.strs]
 rcases t with t|⟨_,t⟩
 ·exact t
 ·exact absurd (qwk t) n
theorem Pk.way{w:List Str}(h:Pk K B H r v)(e:r.d=.tup (w.map D.str))(n:("" : Str)∉w):∃a,v=.ref a/\B a=some (.tup (w.map V.str)):=h.wayN e λq=>n (by rw[q];simp)
theorem qqm:∀ {ks:List (List Str)} {ds:List D} {kvs:List (List Key×V)} (w:List Str),kvs.map (·.1)=ks.map wK->Reps K B ds (kvs.map (·.2))->(lkD ks ds w=none/\valV kvs (wK w)=none)\/∃d v,lkD ks ds w=some d/\valV kvs (wK w)=some v/\Rep K B d v
|[],ds,kvs,w,h1,h2=>by
  have e:kvs=[]:=by simpa using h1
  subst e
  exact .inl ⟨by unfold lkD;rfl,rfl⟩
|k::ks,ds,[],w,h1,h2=>by cases h1
|k::ks,[],p::kvs,w,h1,h2=>by
  unfold Reps at h2
  cases h2
|k::ks,d::ds,p::kvs,w,h1,h2=>by
  injection h1 with e1 e2
  have e1:p.1=wK k:=e1
  unfold Reps at h2
  obtain⟨x,r,q,r1,r2⟩:=h2
  injection q with q1 q2
  subst q1 q2
  unfold lkD
  by_cases e:k=w
  ·rw[if_pos e,qe1 (by rw[e1,e])]
   exact .inr ⟨d,p.2,rfl,rfl,r1⟩
  ·rw[if_neg e,qe0 (λz=>e (qsh (e1.symm.trans z)))]
   exact qqm w e2 r2
theorem qlr:∀ {ks:List Str} {ds:List D} {kvs:List (Key×V)} (w:Str),kvs.map (·.1)=ks.map Sum.inr->Reps K B ds (kvs.map (·.2))->(lkK ks ds w=none/\valV kvs (Sum.inr w)=none)\/∃d v,lkK ks ds w=some d/\valV kvs (Sum.inr w)=some v/\Rep K B d v
|[],ds,kvs,w,h1,h2=>by
  have e:kvs=[]:=by simpa using h1
  subst e
  exact .inl ⟨by unfold lkK;rfl,rfl⟩
|k::ks,ds,[],w,h1,h2=>by cases h1
|k::ks,[],p::kvs,w,h1,h2=>by
  unfold Reps at h2
  cases h2
|k::ks,d::ds,p::kvs,w,h1,h2=>by
  injection h1 with e1 e2
  have e1:p.1=Sum.inr k:=e1
  unfold Reps at h2
  obtain⟨x,r,q,r1,r2⟩:=h2
  injection q with q1 q2
  subst q1 q2
  unfold lkK
  by_cases e:k=w
  ·rw[if_pos e,qe1 (by rw[e1,e])]
   exact .inr ⟨d,p.2,rfl,rfl,r1⟩
  ·rw[if_neg e,qe0 (λz=>e (Sum.inr.inj (e1.symm.trans z)))]
   exact qlr w e2 r2
theorem qrb{ks:List (List Str)}{ds:List D}{kvs:List (List Key×V)}(w:List Str){d:D}{v:V}(h1:kvs.map (·.1)=ks.map wK)(h2:Reps K B ds (kvs.map (·.2)))(hd:Rep K B d v) :
  ∃ks' ds',putD ks ds w d=.dT ks' ds'/\(putK kvs (wK w) v).map (·.1)=ks'.map wK/\Reps K B ds' ((putK kvs (wK w) v).map (·.2)):=by
 have hany:(kvs.any λkv=>decide (kv.1=wK w))=decide (w∈ks):=by
  apply qa3
  rw[List.any_eq_true,decide_eq_true_iff]
  constructor
  ·rintro⟨p,hp,e⟩
   have:p.1∈kvs.map (·.1):=List.mem_map_of_mem hp
   rw[h1,of_decide_eq_true e] at this
   obtain⟨k,hk,ek⟩:=List.mem_map.mp this
   rw[←qsh ek]
   exact hk
  ·intro hw
   have:wK w∈kvs.map (·.1):=by rw[h1];exact List.mem_map_of_mem hw
   obtain⟨p,hp,e⟩:=List.mem_map.mp this
   exact⟨p,hp,decide_eq_true e⟩
 unfold putD putK
 rw[hany]
 by_cases hw:w∈ks
 ·rw[if_pos hw,if_pos (decide_eq_true hw)]
  refine⟨ks,_,rfl,?_,?_⟩
  ·rw[←h1,List.map_map]
   refine List.map_congr_left λp _=>?_
   show (if p.1=wK w then (p.1,v) else p).1=p.1
   split<;>rfl
  ·clear hany hw
   induction kvs generalizing ks ds with
  |nil =>
    have e:ks=[]:=by simpa using h1.symm
    subst e
    unfold rpD
    exact .nil
  |cons p kvs ih =>
    cases ks with
   |nil=>cases h1
   |cons k ks =>
     cases ds with
    |nil=>unfold Reps at h2;cases h2
    |cons e ds =>
      injection h1 with e1 e2
      have e1:p.1=wK k:=e1
      unfold Reps at h2
      obtain⟨x,r,q,r1,r2⟩:=h2
      injection q with q1 q2
      subst q1 q2
      unfold rpD
      refine .cons ?_ (ih e2 r2)
      by_cases ek:k=w
      ·rw[if_pos ek]
       show Rep K B d (if p.1=wK w then (p.1,v) else p).2
       rw[if_pos (by rw[e1,ek])]
       exact hd
      ·rw[if_neg ek]
       show Rep K B e (if p.1=wK w then (p.1,v) else p).2
       rw[if_neg (λz=>ek (qsh (e1.symm.trans z)))]
       exact r1
 ·rw[if_neg hw,if_neg (by simpa using hw)]
  refine⟨_,_,rfl,?_,?_⟩
  ·rw[List.map_append,List.map_append,h1]
   rfl
  ·rw[List.map_append]
   exact h2.append (.one hd)
end
section
variable {X:Cx} {EX:St->XK} {e a o i:Expr} {te ta to ti:TV} {pos pos' p p2 apos cpos:Pos} {x:Str} {f:Expr} {tf:TV}
def qrz(to ti:TV):TV:=λτ Q=>to τ λrx=>exR rx (λ_=>False) <| ti τ λry=>match rx.d,ry.d with
|.dT ks ds,.tup es=>∃w d,es=w.map D.str/\("" : Str)∉w/\lkD ks ds w=some d/\Q (.val d)
|.dK ks ds,.str z=>∃d,lkK ks ds z=some d/\Q (.val d)
|_,_=>False
theorem qzc(hu:X.A.units+64<cLine)(ho:VE X EX o to)(hi:VE X EX i ti)(hs:NoSl i:=by exact λ_ _=>rfl):VE X EX (.Subscript o i pos) (qrz to ti) :=
 let ⟨_,a1,a2⟩:=ho.u;let ⟨_,b1,b2⟩:=hi.u;⟨_,qyg (by lia) a1 b1 hs,λH0 B H τ σ Q Qd s S h xc k=>a2 H0 B H τ σ _ _ s S h (xno λ_ q=>q) λrx x B1 H1 p1 q1 h1=>b2 H0 B1 H1 τ σ _ _ p1.s (S.step p1) (q1.ok h1) (xno λ_ q=>by revert q;cases rx.d<;>exact λz=>z) λry y B2 H2 p2 q2 h2=>by
  have px:=q1.pk.step p2
  split at h2
  ·rename_i ks ds es e1 e2
   obtain⟨w,d,rfl,hn,hl,hq⟩:=h2
   obtain⟨ad,kvs,rfl,hd,hk,hr⟩:=px.dT p2.s e1
   obtain⟨b,rfl,hb⟩:=q2.pk.way e2 hn
   rcases qqm w hk hr with ⟨z,_⟩|⟨d',v,z,hv,rp⟩
   ·rw[z] at hl;cases hl
   ·rw[z] at hl;cases hl
    exact⟨ad,v,rfl,hv▸DGet.tR hd (by rw[qo4];exact p2.s _ _ hb),k (.val d) _ B2 H2 (p1.trans p2) rp hq⟩
  ·rename_i ks ds z e1 e2
   obtain⟨d,hl,hq⟩:=h2
   obtain⟨ad,kvs,rfl,hd,hk,hr⟩:=px.dK p2.s e1
   cases q2.pk.scal (z:=.str z) (by rw[e2];rfl)
   rcases qlr z hk hr with ⟨w,_⟩|⟨d',v,w,hv,rp⟩
   ·rw[w] at hl;cases hl
   ·rw[w] at hl;cases hl
    exact⟨ad,v,rfl,hv▸DGet.k (k:=Sum.inr z) hd,k (.val d) _ B2 H2 (p1.trans p2) rp hq⟩
  ·exact h2.elim⟩
def vDIn(g:Bool->Bool)(ti to:TV):TV:=λτ Q=>ti τ λry=>exR ry (λ_=>False) <| to τ λrx=>match rx.d,ry.d with
|.dT ks ds,.tup es=>∃w,es=w.map D.str/\("" : Str)∉w/\Q (.val (.bl (g (lkD ks ds w).isSome)))
|.dK ks ds,.str z=>Q (.val (.bl (g (lkK ks ds z).isSome)))
|_,_=>False
theorem qgk{K:PySem.W.Frag}{B:Hp}{ks:List (List Str)}{ds:List D}{kvs:List (List Key×V)}(w:List Str)(h1:kvs.map (·.1)=ks.map wK)(h2:Reps K B ds (kvs.map (·.2))):(valV kvs (wK w)).isSome=(lkD ks ds w).isSome:=by
 rcases qqm w h1 h2 with ⟨z,y⟩|⟨d',v,z,y,_⟩<;>rw[z,y]<;>rfl
theorem qn8{K:PySem.W.Frag}{B:Hp}{ks:List Str}{ds:List D}{kvs:List (Key×V)}(w:Str)(h1:kvs.map (·.1)=ks.map Sum.inr)(h2:Reps K B ds (kvs.map (·.2))):(valV kvs (Sum.inr w)).isSome=(lkK ks ds w).isSome:=by
 rcases qlr w h1 h2 with ⟨z,y⟩|⟨d',v,z,y,_⟩<;>rw[z,y]<;>rfl
theorem q2b{K:PySem.W.Frag}{eo ei:TE}(g:Bool->Bool)(ho:RfE K EX eo to)(hi:RfE K EX ei ti):RfE K EX (λσ H Q=>ei σ H λy H1=>eo σ H1 λx H2=>∃a o,x=.ref a/\DGet H2 a y o/\Q (.bl (g o.isSome)) H2) (vDIn g ti to):=λH0 B H τ σ Q Qd s S h xc k =>
 hi H0 B H τ σ _ _ s S h (xno λ_ q=>q) λry y B1 H1 p1 q1 h1=>ho H0 B1 H1 τ σ _ _ p1.s (S.step p1) (q1.ok h1) (xno λ_ q=>q) λrx x B2 H2 p2 q2 h2=>by
  have py:=q1.pk.step p2
  split at h2
  ·rename_i ks ds es e1 e2
   obtain⟨w,rfl,hn,hq⟩:=h2
   obtain⟨ad,kvs,rfl,hd,hk,hr⟩:=q2.pk.dT p2.s e1
   obtain⟨b,rfl,hb⟩:=py.way e2 hn
   refine⟨ad,_,rfl,DGet.tR (k:=wK w) hd (by rw[qo4];exact p2.s _ _ hb),?_⟩
   rw[qgk w hk hr]
   exact k _ _ B2 H2 (p1.trans p2) (repV rfl) hq
  ·rename_i ks ds z e1 e2
   obtain⟨ad,kvs,rfl,hd,hk,hr⟩:=q2.pk.dK p2.s e1
   cases py.scal (z:=.str z) (by rw[e2];rfl)
   refine⟨ad,_,rfl,DGet.k (k:=Sum.inr z) hd,?_⟩
   rw[qn8 z hk hr]
   exact k _ _ B2 H2 (p1.trans p2) (repV rfl) h2
  ·exact h2.elim
theorem qku(hu:X.A.units+64<cLine)(hi:VE X EX i ti)(ho:VE X EX o to)(hm:behindInMarks .NotIn o=false:=by with_unfolding_all rfl):VT X EX (.Compare i [.NotIn] [o] pos) (vBl (vDIn (!·) ti to)) :=
 let ⟨_,a1,a2⟩:=ho.u;let ⟨_,b1,b2⟩:=hi.u;⟨_,qre (by lia) b1 a1 hm,quc (q2b (!·) a2 b2)⟩
def qr0(to ti:TV):TV:=λτ Q=>to τ λrx=>match rx.d with
|.dT ks ds=>ti τ λry=>∃w,ry.d=.tup (w.map D.str)/\("" : Str)∉w/\Q (.val ((lkD ks ds w).getD .non))
|.dK ks ds=>ti τ λry=>∃z,ry.d=.str z/\Q (.val ((lkK ks ds z).getD .non))
|_=>False
def qkh:TV:=λ_ Q=>Q (.own (.dT [] []))
theorem qut:VE X EX (.Dict [] [] pos) qkh:=⟨_,qt1,λ_ B H _ _ _ _ s _ h _ k p hp=>k (.own (.dT [] [])) _ B _ (.grow s (qak hp _)) ⟨p,rfl,hp,s.free hp,[],qa0,rfl,.nil⟩ h⟩
def ownT(τ:VSt)(i:Nat)(Q:List (List Str)->List D->Prop):Prop:=match τ[i]? with
|some (some (.own (.dT ks ds)))=>Q ks ds
|_=>False
theorem qq5{τ:VSt}{i:Nat}{Q:List (List Str)->List D->Prop}(h:ownT τ i Q):∃ks ds,τ[i]?=some (some (.own (.dT ks ds)))/\Q ks ds:=by
 unfold ownT at h
 split at h
 ·exact⟨_,_,by assumption,h⟩
 ·exact h.elim
def qo0(i:Nat)(tk te:TV):TVS:=λDv τ=>ownT τ i λks ds=>te τ λr=>exS τ Dv r <| pubR r λd=>tk τ λrk=>match rk.d with
|.tup es=>∃w,es=w.map D.str/\("" : Str)∉w/\ks.length<sizeLine/\Dv.nx (τ.set i (some (.own (putD ks ds w d))))
|_=>False
theorem qse{ek:Expr}{tk:TV}(i:Nat)(hu:X.A.units+64<cLine)(hk:VE X EX ek tk)(h:VE X EX e te)(hN:X.N[i]?=some x:=by rfl)(hv:Vis X.env.scope x:=by first|exact Or.inl rfl|exact Or.inr (Or.inl rfl)|exact Or.inr (Or.inr rfl))(hd:(x==("__debug__" : Str))=false:=by decide)
  (hcd:(x==("__classdict__" : Str))=false:=by decide) (hs:swapsWith e (some (.Subscript (.Name x p) ek p2)) pos.line X.env=pure false:=by rfl):VS X EX (.Assign [.Subscript (.Name x p) ek p2] e pos) (qo0 i tk te) :=
 let ⟨_,a1,a2⟩:=h.u;let ⟨_,b1,b2⟩:=hk.u;⟨_,qyn (by lia) (qv i hN hv hd hcd) b1 a1 hs,λB0 H0 B H τ σ Dv Dh p S h E=>by
  obtain⟨ks,ds,e1,h⟩:=qq5 h
  obtain⟨ad,e2,_,_,_⟩:=S.own i _ e1
  refine a2 H0 B H τ σ _ _ p.s S h (E.raised p S) λr v B' H' q hr hq=>?_
  obtain⟨d,B2,q2,_,rp,hn⟩:=pub q hr (hr.okS hq)
  refine⟨.ref ad,e2,b2 H0 B2 H' τ σ _ _ q2.s (S.step q2) hn (xno λ_ q=>q) λrk vk B3 H3 q3 hk hh=>?_⟩
  split at hh
  ·rename_i es ek
   obtain⟨w,rfl,hne,hz,hn⟩:=hh
   obtain⟨b,rfl,hb⟩:=hk.pk.way ek hne
   have qq:=q2.trans q3
   have S3:=S.step qq
   obtain⟨a',f1,h0,hbb,kvs,f4,f5,f6⟩:=S3.own i _ e1
   rw[e2] at f1
   cases f1
   have hl:kvs.length<sizeLine:=by
    have:kvs.length=ks.length:=by simpa using congrArg List.length f5
    lia
   refine⟨ad,_,rfl,DPut.t (k:=wK w) f4 (by rw[qo4];exact q3.s _ _ hb) hl,?_⟩
   obtain⟨ks',ds',ep,g1,g2⟩:=qrb w f5 f6 (rp.same q3.b)
   rw[ep] at hn
   exact E.nx B3 _ _ σ ((p.trans qq).upd h0 hbb) (S3.upd (d:=.dT ks' ds') e1 e2 ⟨_,qa0,g1,g2⟩) hn
  ·exact hh.elim⟩
end
def qbr(kds:List (List Str×D)):D:=.dT (kds.map (·.1)) (kds.map (·.2))
def lkP(kds:List (List Str×D))(w:List Str):Option D:=(kds.find? λp=>decide (p.1=w)).map (·.2)
def insP(kds:List (List Str×D))(w:List Str)(d:D):List (List Str×D):=if w∈kds.map (·.1) then kds.map (λp=>if p.1=w then (p.1,d) else p) else kds++[(w,d)]
theorem qet(kds:List (List Str×D))(w:List Str):lkD (kds.map (·.1)) (kds.map (·.2)) w=lkP kds w:=by
 induction kds with
|nil=>unfold lkP;simp[lkD]
|cons p kds ih =>
  rw[List.map_cons,List.map_cons]
  unfold lkD
  unfold lkP at ih ⊢
  by_cases e:p.1=w
  ·rw[if_pos e,List.find?_cons,decide_eq_true e]
   rfl
  ·rw[if_neg e,ih,List.find?_cons,decide_eq_false e]
theorem qe7(kds:List (List Str×D))(w:List Str)(d:D):putD (kds.map (·.1)) (kds.map (·.2)) w d=qbr (insP kds w d):=by
 unfold putD insP qbr
 by_cases h:w∈kds.map (·.1)
 ·rw[if_pos h,if_pos h]
  congr 1
  ·rw[List.map_map]
   refine(List.map_congr_left λp _=>?_).symm
   show (if p.1=w then (p.1,d) else p).1=p.1
   split<;>rfl
  ·clear h
   induction kds with
  |nil=>rfl
  |cons p kds ih =>
    rw[List.map_cons,List.map_cons,List.map_cons,List.map_cons]
    unfold rpD
    rw[ih]
    congr 1
    split<;>rfl
 ·rw[if_neg h,if_neg h,List.map_append,List.map_append]
  rfl
end L2
namespace PySem
open PySem Calls PyProof.Rows PyProof.V PySem.Spec
def RawD(h:Heap)(d:Addr)(es:Array DictEntry)(ep:Nat):Prop:=∃o,h.get? d=some o/\o.ExactDict/\o.data=.dict es ep
section
variable {prog:Program} {w:World} {A:Around} {E:Value->Shared->Prop} {s:Shared} {d it:Addr} {es:Array DictEntry} {ep i:Nat}
theorem RawD.typeIs(x:RawD s.heap d es ep):s.TypeIs (.ref d) "dict" := let ⟨o,h1,h2,_⟩:=x;⟨o,h1,h2.1⟩
theorem RawD.keep{h h':Heap}(x:RawD h d es ep)(k:∀o,h.get? d=some o->h'.get? d=some o):RawD h' d es ep:=let ⟨o,h1,r⟩:=x;⟨o,k o h1,r⟩
theorem qub{Q:Value->Shared->Prop}(no:(d==sysModules)=false)(x:RawD s.heap d es ep)
  (fin:Q (.ref s.heap.objs.size) { s with heap:=s.heap.push { cls:=.type "dict_keyiterator",data:=.fields #[.ref d,.int 0 0,.int es.size 0,.int ep 0] } }):wpAny (model prog w) A (pyIter (.ref d)) Q E s:=by
 have T:=x.typeIs
 obtain⟨o,h1,_,h2⟩:=x
 refine wpAny_pyIter_slot T F.slot_dict_iter (wpAny_call_entry F.slot_dict_iter T F.entry_dict_iter ?_ (F.args_dict_iter_1 _))
 unfold Builtin.«dict.__iter__» Builtin.Dict.dictSlotNone
 refine wpAny_bind (wpAny_bind (wpAny_notOrdered_dict T (show wpAny _ _ (pure (Value.ref d)) _ _ s from wpAny_pure ?_)))
 show wpAny _ _ (Builtin.Dict.showsAll d >>= λ_=>_) _ _ s
 unfold Builtin.Dict.showsAll
 rw[no,if_neg Bool.false_ne_true]
 refine wpAny_bind (wpAny_pure (wpAny_bind (wpAny_dictEntries h1 h2 (wpAny_bind (wpAny_dictEpoch h1 h2 (wpAny_bind (wpAny_newObj_type (wpAny_pure ⟨_,rfl,"dict_keyiterator",_,⟨_,Heap.get?_push_size _ rfl,rfl⟩,F.slot_dict_keyiterator_next.lookup,?_⟩))))))))
 simpa [rawInt] using fin
theorem qd7{Q:String->Shared->Prop}(h:s.TypeIs (.ref it) "dict_keyiterator")(q:Q "dict_keyiterator" s):wpAny (model prog w) A (typeNameOfWhole (.ref it)) Q E s:=wpAny_typeNameOfWhole_keyiter h q
theorem qua{Q:Option Value->Shared->Prop}{ky:Value}(K:s.heap.IsKeyIter it d i es.size ep)(x:RawD s.heap d es ep)(hk:es[i]?.map (·.key)=some ky)
  (fin:∀h',h'.IsKeyIter it d (i+1) es.size ep->Heap.SameBut it s.heap h'->Q (some ky) { s with heap:=h' }):wpAny (model prog w) A (pyNext (.ref it)) Q E s:=by
 have T:=K.typeIs
 obtain⟨oi,g1,g2,g3⟩:=K
 obtain⟨o,h1,_,h2⟩:=x
 have lt:i<es.size:=by
  apply Classical.byContradiction
  intro z
  rw[Array.getElem?_eq_none (by lia)] at hk
  cases hk
 have ek:es[i].key=ky:=by
  rw[Array.getElem?_eq_getElem lt] at hk
  exact Option.some.inj hk
 have no:Builtin.Dict_items.ownsTuple "dict_keyiterator" = false:=by decide
 unfold pyNext
 refine wpAny_bind (wpAny_attempt (wpAny_callSpecial?_slot (name:=Str.ofString "__next__") T F.slot_dict_keyiterator_next (wpAny_call_entry F.slot_dict_keyiterator_next T F.entry_dict_keyiterator_next (wpAny_bind (wpAny_pure (wpAny_bind (wpAny_bind ?_)))) (F.args_dict_keyiterator_next_1 _))))
 refine wpAny_bind (qd7 T (wpAny_pure (wpAny_bind (wpAny_fieldsOf g1 g3 ?_))))
 simp only[no,Bool.false_eq_true,if_false]
 show wpAny _ _ (ite ((Value.ref d==Value.none)=true) _ _) _ _ s
 rw[if_neg (show ¬ (Value.ref d==Value.none)=true from λz=>by cases z)]
 refine wpAny_bind (wpAny_pure (wpAny_bind (wpAny_dictEntries h1 h2 ?_)))
 rw[if_neg (λz=>by simp at z)]
 refine wpAny_bind (wpAny_pure (wpAny_bind (wpAny_dictEpoch h1 h2 ?_)))
 rw[if_neg (λz=>by simp at z)]
 refine wpAny_pure ?_
 simp only[show ¬ (i:Int)<0 from by lia,if_false,Int.toNat_natCast,Array.getElem?_eq_getElem lt]
 refine wpAny_bind (wpAny_bind (qd7 T (wpAny_pure (wpAny_bind (wpAny_isOneOf_keyiter T ?_)))))
 show wpAny _ _ (setField (.ref it) 1 (rawInt ((i:Int)+1)) >>= λ_=>_) _ _ s
 have K2:(s.heap.update it (Obj.mapFields (·.setIfInBounds 1 (rawInt ((i:Int)+1))))).IsKeyIter it d (i+1) es.size ep:=⟨_,Heap.get?_update_self _ g1 (Obj.isFreed_of_fields (Obj.data_mapFields g3 _)),(Obj.cls_mapFields ..).trans g2,by
  rw[Obj.data_mapFields g3]
  simp[rawInt]⟩
 refine wpAny_bind (wpAny_setField g1 g3 (by simp) (wpAny_bind (wpAny_holding (wpAny_bind (wpAny_isOneOf_keyiter (s:={ s with heap:=s.heap.update it (Obj.mapFields (·.setIfInBounds 1 (rawInt ((i:Int)+1)))) }) K2.typeIs ?_)))))
 show wpAny _ _ (pure (es[i].key)) _ _ _
 rw[ek]
 exact wpAny_pure (wpAny_pure ⟨_,rfl,wpAny_pure (fin _ K2 (Heap.SameBut.update ..))⟩)
theorem qyv{Q:Option Value->Shared->Prop}(hh:A.handled=none)(K:s.heap.IsKeyIter it d i es.size ep)(x:RawD s.heap d es ep)(ge:es.size<=i)(fin:∀h',Heap.ExtBut it s.heap h'->Q none { s with heap:=h' }) :
  wpAny (model prog w) A (pyNext (.ref it)) Q E s:=by
 have T:=K.typeIs
 obtain⟨oi,g1,g2,g3⟩:=K
 obtain⟨o,h1,_,h2⟩:=x
 have no:Builtin.Dict_items.ownsTuple "dict_keyiterator" = false:=by decide
 unfold pyNext
 refine wpAny_bind (wpAny_attempt (wpAny_callSpecial?_slot (name:=Str.ofString "__next__") T F.slot_dict_keyiterator_next (wpAny_call_entry F.slot_dict_keyiterator_next T F.entry_dict_keyiterator_next (wpAny_bind (wpAny_pure (wpAny_bind (wpAny_bind ?_)))) (F.args_dict_keyiterator_next_1 _))))
 refine wpAny_bind (qd7 T (wpAny_pure (wpAny_bind (wpAny_fieldsOf g1 g3 ?_))))
 simp only[no,Bool.false_eq_true,if_false]
 show wpAny _ _ (ite ((Value.ref d==Value.none)=true) _ _) _ _ s
 rw[if_neg (show ¬ (Value.ref d==Value.none)=true from λz=>by cases z)]
 refine wpAny_bind (wpAny_pure (wpAny_bind (wpAny_dictEntries h1 h2 ?_)))
 rw[if_neg (λz=>by simp at z)]
 refine wpAny_bind (wpAny_pure (wpAny_bind (wpAny_dictEpoch h1 h2 ?_)))
 rw[if_neg (λz=>by simp at z)]
 refine wpAny_pure ?_
 simp only[show ¬ (i:Int)<0 from by lia,if_false,Int.toNat_natCast,Array.getElem?_eq_none ge]
 refine wpAny_bind (wpAny_bind (qd7 T (wpAny_pure ?_)))
 show wpAny _ _ (setField (.ref it) 0 .none >>= λ_=>_) _ _ s
 refine wpAny_bind (wpAny_setField g1 g3 (by simp) ?_)
 show wpAny _ _ (newExc (.type "StopIteration") [] >>= λ_=>_) _ _ _
 refine wpAny_bind ?_
 simp only[newExc,newTuple]
 refine wpAny_bind (wpAny_newObj_type (wpAny_bind (m:=firstArgMember _ _) (wpAny_of_eq (a:=Value.none) (by first|rfl|(simp only[firstArgMember];rfl)) (wpAny_newObj_type ?_ (by size_fits)))) (by size_fits))
 simp only[raiseNew]
 refine(wpAny_bind (wpAny_handled ?_))
 rw[(show A.in1.handled=none from hh)]
 refine(wpAny_bind (wpAny_pure (wpAny_throw ?_)))
 exact wpAny_bind (wpAny_isInstance (T:="StopIteration") (b:=true) ⟨_,Heap.get?_push_size _ rfl,rfl⟩ isSubtype_stop (wpAny_pure (fin _ (((Heap.SameBut.update ..).extBut.push _).push _))))
theorem qsq(hh:A.handled=none)(I d:Addr)(ne:d≠I)(es:Array DictEntry)(ep:Nat) :
  Walks prog w A I [I,d] [I] es.size (λi v=>es[i]?.map (·.key)=some v) (λi h=>h.IsKeyIter I d i es.size ep/\RawD h d es ep) where
 sub:=λb hb=>by
  cases List.mem_singleton.mp hb
  exact List.mem_cons_self ..
 frame:=λ_ _ _ st k=>⟨st.1.at λo e=>k I (List.mem_cons_self ..) o e,st.2.keep λo e=>k d (by simp) o e⟩
 item:=λi s Q E lt st fin=>by
  have e:es[i]?.map (·.key)=some es[i].key:=by rw[Array.getElem?_eq_getElem lt];rfl
  exact qua st.1 st.2 e λh' K' sb=>fin _ h' s.toks e ⟨K',st.2.keep λo z=>sb.extBut d o ne z⟩ λb o nb z=>sb.extBut b o (λy=>nb (by simp[y])) z
 done:=λs Q E st fin=>qyv hh st.1 st.2 (Nat.le_refl _) λh' x=>fin h' s.toks λb o nb z=>x b o (λy=>nb (by simp[y])) z
 self:=λ_ _ _ _ st q=>wpAny_pyIter_keyiter st.1 q
theorem qy3(no:(d==sysModules)=false):PySem.W.KdlSrc prog w "dict" d d es.size (λi v=>es[i]?.map (·.key)=some v) (λh=>RawD h d es ep) where
 type:=λ_ x=>x.typeIs
 there:=λ_ x=>let ⟨_,e,_⟩:=x;⟨Heap.lt_size e,Heap.lt_size e⟩
 keep:=λ_ _ x k=>x.keep λo e=>k d (.inl rfl) o e
 notList:=by decide
 notTuple:=by decide
 hint:=λ_ _ _ _ x q=>PySem.W.kdl_hint_dict x.typeIs q
 iter:=λ_ _ hh x=>⟨_,_,(λ_ _ q=>qub no x q),qsq hh _ d (let ⟨_,e,_⟩:=x;Nat.ne_of_lt (Heap.lt_size e)) es ep,⟨⟨_,Heap.get?_push_size _ rfl,rfl,rfl⟩,x.keep λ_ e=>Heap.get?_push_of_some _ e⟩⟩
end
end PySem
namespace L2
open PySem PySem.Spec PyProof.Rows
section
variable {X:Cx}
theorem qj5{α β:Type}{F:α->β->Prop}:∀ {l:List α} {m:List β} {i:Nat} {b:β},Paired F l m->m[i]?=some b->∃a,l[i]?=some a/\F a b
|_,_,_,_,.nil,e=>by simp at e
|_,_,0,_,.cons h _,e=>by
  have e':=Option.some.inj e
  subst e'
  exact⟨_,rfl,h⟩
|_,_,i+1,b,.cons _ t,e=>by
  obtain⟨a,h1,h2⟩:=qj5 (i:=i) (b:=b) t (by simpa using e)
  exact⟨a,by simpa using h1,h2⟩
theorem qz7{P:Program}{w:World}{H:Hp}{h:Heap}{a:Addr}{kvs:List (List Key×V)}(ok:HOk P w H h)(e:Rd H a (.dT kvs)):kvs.length<=sizeLine/\(a==sysModules)=false/\∃es ep,RawD h a es ep/\es.size=kvs.length /\
  ∀(i:Nat) (u:Value),es[i]?.map (·.key)=some u->∃(b:Addr) (k:List Key),u=.ref b/\kvs[i]?.map (·.1)=some k/\H b=some (.tup (k.map kV)):=by
 obtain⟨z,y,xs,r,o,es,ep,h1,h2,h3,h4,_⟩:=qn3 ok e
 have hl:es.size=xs.length:=by rw[←Array.length_toList,h4,List.length_map]
 refine⟨z,y,es,ep,⟨o,h1,h2,h3⟩,by rw[hl,←Paired.length r],λi u q=>?_⟩
 have ei:es[i]?=(xs[i]?).map (entryOfKey (tupleKind (qbs P w))):=by rw[←Array.getElem?_toList,h4,List.getElem?_map]
 rw[ei] at q
 cases hx:xs[i]? with
|none=>rw[hx] at q;cases q
|some p =>
  rw[hx] at q
  have eu:Value.ref p.2.1=u:=Option.some.inj q
  obtain⟨kv,hkv,e1,e2,_⟩:=qj5 r hx
  exact⟨p.2.1,kv.1,eu.symm,by rw[hkv];rfl,by rw[e1] at e2 ⊢;exact e2⟩
theorem qjh(hh:X.A.handled=none):CallR X (.type "list") (λxs H Q=>∃a kvs,xs=[.ref a]/\Rd H a (.dT kvs)/\∀(l:Addr) (bs:List Addr),H l=none->bs.length=kvs.length ->
  (∀(i:Nat) (b:Addr),bs[i]?=some b->∃k,kvs[i]?.map (·.1)=some k/\H b=some (.tup (k.map kV)))->Q (.ref l) (upd H l (.lst (bs.map V.ref)))):=by
 intro pins s σ H xs us Q I r h
 obtain⟨a,kvs,rfl,e,q⟩:=h
 obtain⟨u,rfl,ru⟩:=vals1 r
 cases ru
 obtain⟨z,no,es,ep,raw,hs,hk⟩:=qz7 I.hok e
 refine PySem.W.kdl_call (qy3 (ep:=ep) (es:=es) no) hh raw (by rw[hs];exact z) λh' tk acc c keep new its=>?_
 have refs:∀vs:List Value,(∀v∈vs,∃b,v=Value.ref b)->∃bs:List Addr,vs=bs.map Value.ref:=λvs=>by
  induction vs with
 |nil=>exact λ_=>⟨[],rfl⟩
 |cons v vs ih =>
   intro hv
   obtain⟨b,rfl⟩:=hv v (List.mem_cons_self ..)
   obtain⟨bs,rfl⟩:=ih λy hy=>hv y (List.mem_cons_of_mem _ hy)
   exact⟨b::bs,rfl⟩
 obtain⟨hsz,hP⟩:=its
 obtain⟨bs,hbs⟩:=refs acc.toList λv hv=>by
  obtain⟨j,hj⟩:=List.mem_iff_getElem?.mp hv
  obtain⟨b,k,eb,_⟩:=hk j v (hP j v (by simpa using hj))
  exact⟨b,eb⟩
 have hacc:acc=(bs.map Value.ref).toArray:=by rw[←hbs]
 have hlen:bs.length=kvs.length:=by
  have:acc.size=bs.length:=by rw[hacc];simp
  lia
 have rel:∀bs:List Addr,Vals (bs.map V.ref) (bs.map Value.ref):=λbs=>by
  induction bs with
 |nil=>exact .nil
 |cons b bs ih=>exact .cons rfl ih
 refine⟨.ref s.heap.objs.size,upd H s.heap.objs.size (.lst (bs.map V.ref)),I.laid (t':=tk) keep (Nat.le_refl _) ⟨by rw[List.length_map];lia,bs.map Value.ref,c,rel bs,by rw[←hacc];exact new⟩,rfl,q _ bs (I.hok.fresh (Nat.le_refl _)) hlen λi b hb=>?_⟩
 obtain⟨b',k,eb,h1,h2⟩:=hk i (.ref b) (hP i (.ref b) (by rw[hacc];simp[hb]))
 cases eb
 exact⟨k,h1,h2⟩
end
section
variable {X:Cx} {K:PySem.W.Frag} {B H:Hp}
theorem Stp.tups(s:Same B H)(bs:List Addr)(h:∀b∈bs,∃xs,H b=some (.tup xs)):Stp B H (λa=>if a∈bs then H a else B a) H:=by
 refine⟨λa o e=>?_,Same.refl _,λa o e=>?_,λa z=>?_⟩
 ·show (if a∈bs then H a else B a)=some o
  split
  ·exact s _ _ e
  ·exact e
 ·have e':(if a∈bs then H a else B a)=some o:=e
  split at e'
  ·exact e'
  ·exact s _ _ e'
 ·by_cases q:a∈bs
  ·exact .inr (.inr (h a q))
  ·have z':(if a∈bs then H a else B a)≠none:=z
   rw[if_neg q] at z'
   exact .inl z'
theorem qj9:∀ {ks:List (List Str)} {bs:List Addr},bs.length=ks.length->(∀(i:Nat) (b:Addr) (k:List Str),bs[i]?=some b->ks[i]?=some k->B b=some (.tup (k.map V.str)))->Reps K B (ks.map λw=>.tup (w.map D.str)) (bs.map V.ref)
|[],[],_,_=>.nil
|[],_::_,h,_=>by simp at h
|_::_,[],h,_=>by simp at h
|k::ks,b::bs,h,q=>by
  refine .cons ?_ (qj9 (by simpa using h) λi b' k' h1 h2=>q (i+1) b' k' (by simpa using h1) (by simpa using h2))
  unfold Rep
  exact⟨b,_,rfl,.inl (q 0 b k rfl rfl),by
   have:∀ss:List Str,Reps K B (ss.map D.str) (ss.map V.str):=λss=>by
    induction ss with
   |nil=>exact .nil
   |cons s ss ih=>exact .cons (qgq (d:=.str s) rfl) ih
   exact this k⟩
def qhx(rx:R)(Q:R->Prop):Prop:=match rx.d with
|.dT ks _=>Q (.own (.lst (ks.map λw=>.tup (w.map D.str))))
|_=>False
theorem quw(hh:X.A.handled=none):VF X (.type "list") qhx:=by
 refine⟨_,qjh hh,λB H x rx Q Qd s px h k=>?_⟩
 unfold qhx at h
 split at h
 ·rename_i ks ds e1
  obtain⟨ad,kvs,rfl,hd,hk,hr⟩:=px.dT s e1
  refine⟨ad,kvs,rfl,hd,λl bs hl hlen hb=>?_⟩
  have hkl:ks.length=kvs.length:=by simpa using (congrArg List.length hk).symm
  have key:∀(i:Nat) (b:Addr) (k:List Str),bs[i]?=some b->ks[i]?=some k->H b=some (.tup (k.map V.str)):=λi b k h1 h2=>by
   obtain⟨k',h3,h4⟩:=hb i b h1
   have e:(kvs.map (·.1))[i]?=(ks.map wK)[i]?:=by rw[hk]
   rw[List.getElem?_map,List.getElem?_map,h3,h2] at e
   cases e
   rw[qo4] at h4
   exact h4
  have T:=Stp.tups s bs λb hm=>by
   obtain⟨i,hi⟩:=List.mem_iff_getElem?.mp hm
   obtain⟨k',_,h4⟩:=hb i b hi
   exact⟨_,h4⟩
  have hlB:(λa=>if a∈bs then H a else B a) l=none:=by
   show (if l∈bs then H l else B l)=none
   split
   ·exact hl
   ·exact s.free hl
  refine k (.own _) _ _ _ (T.trans (.grow T.s (qak hl (.lst (bs.map V.ref))))) ⟨l,rfl,hl,hlB,qbt (qj9 (by lia) λi b w h1 h2=>?_)⟩ h
  show (if b∈bs then H b else B b)=_
  rw[if_pos (List.mem_of_getElem? h1)]
  exact key i b w h1 h2
 ·exact h.elim
end
end L2
namespace L2
open PySem PySem.Spec PyProof.Rows
section
variable {X:Cx} {EX:St->XK} {K:PySem.W.Frag} {B H B' H' H0 B0:Hp} {e a:Expr} {es:List Expr} {te ta:TV} {tA:TVA} {pos p np cpos:Pos} {x:Str} {t:TVS} {τ:VSt} {σ:St}
theorem clsOf.inj{n:Str}{C C':Addr}(h:clsOf K n C)(h':clsOf K n C'):C=C':=by
 unfold clsOf at h h'
 rw[h] at h'
 cases h'
 rfl
theorem qzb{k:Nat}{ps:List Str}{g:DP}(C:CalX X.prog X.w X.K X.mg X.base k x ps (spOf X.K g))(o:Out X EX)(hr:Room k X.A)(hg:Gl X x)(ha:VA X EX (e::es) tA)(hx:X.ex=[]:=by rfl)(hp:(e::es).all qaq=true:=by rfl)(hdb:(x==("__debug__" : Str))=false:=by decide) :
  VE X EX (.Call (.Name x p) (e::es) [] pos) (qry g tA) :=
 let ⟨_,a1,a2⟩:=ha.u;⟨_,qye C o hr hg a1 hx hp hdb,λH0 B H τ σ Q Qd s S h xc k=>a2 H0 B H τ σ _ _ s S h xc λds vs B1 H1 p q h1 =>
  ⟨ds,B1,Qd,p.s,by rw[List.append_nil];exact q,h1,λn C B' H' hq p2 c=>xc n C B' H' (p.trans p2) c hq,λr v B2 H2 hq p2 q2=>k r v B2 H2 (p.trans p2) (q2.back p.h) hq⟩⟩
def XCls(K:PySem.W.Frag)(mg:Str->Option Value)(n:Str):Prop:=∃C,mg n=some (.ref C)/\clsOf K n C/\OwnX K C
def qhy(n:Str)(tA:TVA):TVS:=λDv τ=>tA τ λa=>exI τ Dv a λds=>ds.length<=sizeLine/\Dv.xc τ n
theorem qu1(u:XCls X.K X.mg x)(hg:Gl X x)(hc:X.calm=true)(o:Out X EX)(ha:VA X EX (e::es) tA)(hx:X.ex=[]:=by rfl)(hp:(e::es).all qaq=true:=by rfl)(hdb:(x==("__debug__" : Str))=false:=by decide) :
  VS X EX (.Raise (some (.Call (.Name x np) (e::es) [] cpos)) none pos) (qhy x tA):=by
 obtain⟨C,hm,hk,q⟩:=u
 obtain⟨_,a1,a2⟩:=ha.u
 exact⟨_,qt5 q hm hg hc o a1 hx hp hdb,λB0 H0 B H τ σ Dv Dh p S h E=>a2 H0 B H τ σ _ _ p.s S h (E.raised p S) λds vs B1 H1 p1 q1 h1 =>
  ⟨by rw[←q1.length];exact h1.1,E.xc B1 H1 τ σ x C (p.trans p1) (S.step p1) hk h1.2⟩⟩
def canS(K:PySem.W.Frag)(EX:St->XK)(t:TVS):TS:=λDh σ H=>∃B0 H0 B τ Dv,Stp B0 H0 B H/\Slots K H0 B H τ σ/\t Dv τ/\EndsOk K EX B0 H0 Dv Dh
theorem VSs.can{st:List Stmt}(h:VSs X EX st t):QSs X st (canS X.K EX t):=let ⟨_,a1,a2⟩:=h.u;⟨λpins s σ H D I ⟨B0,H0,B,τ,Dv,q1,q2,q3,q4⟩=>a1.u pins s σ H D I (a2 B0 H0 B H τ σ Dv D q1 q2 q3 q4)⟩
abbrev THD:=Str->TVS
def RfH(K:PySem.W.Frag)(EX:St->XK)(th:TH)(td:THD):Prop:=∀(B0 H0 B H:Hp) (τ:VSt) (σ:St) (n:Str) (C:Addr) (Dv:VEnds) (Dh:Ends),Stp B0 H0 B H->Slots K H0 B H τ σ->clsOf K n C->td n Dv τ->EndsOk K EX B0 H0 Dv Dh->th (.ref C) Dh σ H
structure VH(X:Cx)(EX:St->XK)(hs:List ExceptHandler)(td:THD):Prop where
 u:∃th,QH X hs th/\RfH X.K EX th td
def vTry(t:TVS)(td:THD):TVS:=λDv τ=>t { nx:=Dv.nx,rt:=Dv.rt,bk:=Dv.bk,ct:=Dv.ct,xc:=λτ' n=>td n Dv τ' } τ
theorem q2z{body:List Stmt}{h0:ExceptHandler}{rest:List ExceptHandler}{td:THD}(hb:∀pn E EX',PassesOwn (model X.prog X.w) X.A X.env E->Out (X.tryB pn E) EX'->VSs (X.tryB pn E) EX' body t)(hh:VH X EX (h0::rest) td)(hst:X.stack=X.env::X.outer:=by rfl)
  (hfr:X.env.frame=some X.env.locals:=by rfl) (hx:X.ex=[]:=by rfl):VS X EX (.Try body (h0::rest) [] [] pos) (vTry t td) :=
 let ⟨_,a1,a2⟩:=hh.u;⟨_,q13 (tb:=λEX'=>canS X.K EX' t) (λpn E EX' po o=>(hb pn E EX' po o).can) a1 hst hfr hx,λB0 H0 B H τ σ Dv Dh p S h E =>
  ⟨B0,H0,B,τ,_,p,S,h,E.nx,E.rt,E.bk,E.ct,λB1 H1 τ1 σ1 n C q1 q2 q3 q4=>a2 B0 H0 B1 H1 τ1 σ1 n C Dv Dh q1 q2 q3 q4 E,λ_ _ _ _ _ _ _ _ _ _ h=>h.elim⟩⟩
def q2u:THD:=λ_ _ _=>False
theorem q2v:VH X EX [] q2u:=⟨_,q10,λ_ _ _ _ _ _ _ _ _ _ _ _ _ h=>h.elim⟩
def q26(K:PySem.W.Frag)(mg:Str->Option Value)(x:Str)(yes no:List Str):Prop:=∃c,mg x=some c/\(∀n∈yes,∀C,clsOf K n C->PySem.W.exmOne K (.ref C) c=some true)/\∀n∈no,∀C,clsOf K n C->PySem.W.exmOne K (.ref C) c=some false
def VEnds.calm(Dv:VEnds):VEnds:={ nx:=Dv.nx,rt:=Dv.rt,bk:=Dv.bk,ct:=Dv.ct }
theorem EndsOk.calm{Dv:VEnds}{Dh:Ends}(E:EndsOk K EX B0 H0 Dv Dh):EndsOk K EX0 B0 H0 Dv.calm Dh:=⟨E.nx,E.rt,E.bk,E.ct,λ_ _ _ _ _ _ _ _ _ h=>h.elim,λ_ _ _ _ _ _ _ _ _ _ h=>h.elim⟩
def qv4(yes no:List Str)(t:TVS)(td:THD):THD:=λn Dv τ=>(n∈yes/\t Dv.calm τ)\/(n∈no/\td n Dv τ)
theorem qzd{b0:Stmt}{suite:List Stmt}{rest:List ExceptHandler}{td:THD}{yes no:List Str}(u:q26 X.K X.mg x yes no)(hg:Gl X x)(hs:∀e pn E,VSs (X.hand e pn E) EX0 (b0::suite) t)(hr:VH X EX rest td)(hdb:(x==("__debug__" : Str))=false:=by decide) :
  VH X EX (.ExceptHandler (some (.Name x np)) none (b0::suite) pos::rest) (qv4 yes no t td):=by
 obtain⟨c,hm,hy,hn⟩:=u
 obtain⟨_,a1,a2⟩:=hr.u
 refine⟨_,qyj (t:=canS X.K EX0 t) hm hg (λe pn E=>(hs e pn E).can) a1 hdb,λB0 H0 B H τ σ n C Dv Dh p S hc h E=>?_⟩
 rcases h with ⟨h1,h2⟩|⟨h1,h2⟩
 ·exact⟨true,hy n h1 C hc,iteT ⟨B0,H0,B,τ,_,p,S,h2,E.calm⟩⟩
 ·exact⟨false,hn n h1 C hc,iteF (a2 B0 H0 B H τ σ n C Dv Dh p S hc h2 E)⟩
def VEnds.wiped(Dv:VEnds):VEnds:={ nx:=λτ=>Dv.nx (List.replicate τ.length none),rt:=Dv.rt,bk:=λτ=>Dv.bk (List.replicate τ.length none),ct:=λτ=>Dv.ct (List.replicate τ.length none) }
theorem Fun.okVX{P:Program}{w:World}{mg:Str->Option Value}{base:Heap}{x qual:Str}{st:Stmt}{f:Addr}{fd:FuncData}{N ps:List Str}{k:Nat}{g:DP}(F:Fun K x qual st f fd)(S:FnScope N ps (qab st))(len:∀ds Q,g ds Q->ds.length=ps.length)
  (hbody:∀(cdv:Value) (A:Around) (outer:List Env) (s:Shared) (H:Hp) (E:XK),Room k (A.deeper (envOfC qual (qab st) s.heap.objs.size f cdv))->Out (cxOf (CXR P w) P w K mg base N qual (qab st) f cdv A outer s H E) (λ_=>E) ->
   ∃t,VSs (cxOf (CXR P w) P w K mg base N qual (qab st) f cdv A outer s H E) (λ_=>E) (qal st) t/\∀ds Q,g ds Q->t { nx:=λ_=>Q (.val .non),rt:=Q,xc:=λ_ n=>Q (.exc n) } (qba N ds)):FnOk P w K mg base (CXR P w) (k+1) f fd ps (spOf K g):=by
 refine F.okX S (λvs H Q E h=>?_) (λcdv A outer s H vs Q E hr h o=>?_)
 ·obtain⟨ds,B,Qd,_,rp,hg,_,_⟩:=h
  rw[←rp.length]
  exact len ds Qd hg
 ·obtain⟨ds,B,Qd,sm,rp,hg,kx,kk⟩:=h
  obtain⟨t,⟨ts,q1,q2⟩,ht⟩:=hbody cdv A outer s H E hr o
  refine⟨ts,q1,q2 B H B H (qba N ds) (start N vs) _ _ (.refl sm) ?_ (ht ds Qd hg) ⟨λB' H' τ σ p S h=>kk (.val .non) .non B' H' h p (repV rfl),λr v B' H' p hr h=>kk r v B' H' h p hr,λ_ _ _ _ _ _ h=>h.elim,λ_ _ _ _ _ _ h=>h.elim,λB' H' τ σ n C p S c h=>kx n C B' H' h p c,λ_ _ _ _ _ _ _ _ _ _ h=>h.elim⟩⟩
  unfold qba start
  rw[rp.length]
  exact(qeb rp).more _
theorem qva{P:Addr->Prop}:∀n∈([]:List Str),∀C,clsOf K n C->P C:=λ_ h=>by cases h
theorem qwi{P:Addr->Prop}{m:Str}{E:Addr}{l:List Str}(k:clsOf K m E)(q:P E)(r:∀n∈l,∀C,clsOf K n C->P C):∀n∈m::l,∀C,clsOf K n C->P C:=λn h C c=>by
 rcases List.mem_cons.mp h with rfl|h
 ·cases clsOf.inj c k
  exact q
 ·exact r n h C c
end
end L2
namespace L2
open PySem PySem.Spec PyProof.Rows Builtin.Str
section
variable {X:Cx}
theorem qkq:∀(l:List (Str×Tok)),Vals ((l.map (·.1)).map V.str) (strValues l)
|[]=>.nil
|p::l=>.cons ⟨p.2,rfl⟩ (qkq l)
theorem qim:MtM X "str.startswith" (λx vs H Q=>∃a b,x=.str a/\vs=[.str b]/\Q (.bl (Txt.startswith a b)) H):=by
 intro pins s σ H x vs v us Q I rx rv h
 obtain⟨a,b,rfl,rfl,q⟩:=h
 obtain⟨t,rfl⟩:=rx
 obtain⟨u,rfl,⟨t',rfl⟩⟩:=rv.one
 exact SC.startswith ⟨.bl _,H,I,rfl,q⟩
theorem qth:MtM X "str.split" (λx vs H Q=>∃a b,x=.str a/\vs=[.str b]/\(b.length==0)=false/\a.length<=sizeLine/\(Txt.split a b).length<=sizeLine/\∀l,H l=none->Q (.ref l) (upd H l (.lst ((Txt.split a b).map V.str)))):=by
 intro pins s σ H x vs v us Q I rx rv h
 obtain⟨a,b,rfl,rfl,hb,ha,hz,q⟩:=h
 obtain⟨t,rfl⟩:=rx
 obtain⟨u,rfl,⟨t',rfl⟩⟩:=rv.one
 cases h1:(decide (a.length<b.length)||decide (strKind a<strKind b))
 ·cases hf:(occurrences a b 0 a.length (a.length+1)).isEmpty
  ·have e:Txt.split a b=partsBetween a (occurrences a b 0 a.length (a.length+1)) b.length:=by
    unfold Txt.split
    rw[h1,hf,if_neg Bool.false_ne_true,if_neg Bool.false_ne_true]
   refine call_meets F.slot_str_split (typeIs_str _ _ _) F.entry_str_split (F.args_str_split_2 _ _) (meets_str_split_sep a b t t' h1 hb hf ha (by rw[←e];exact hz)) ?_
   rw[strsFrom_eq,←e]
   have r:=qkq (numbered s.toks (Txt.split a b))
   rw[numbered_texts] at r
   exact⟨.ref _,_,I.lnew (t':=_) r (by rw[List.length_map];exact hz),rfl,q _ I.fresh⟩
  ·have e:Txt.split a b=[a]:=by
    unfold Txt.split
    rw[h1,hf,if_neg Bool.false_ne_true,if_pos rfl]
   rw[e] at q
   exact call_meets F.slot_str_split (typeIs_str _ _ _) F.entry_str_split (F.args_str_split_2 _ _) (meets_str_split_not_found a b t t' h1 hb hf) ⟨.ref _,_,I.lnew (t':=s.toks) (ys:=[.str a]) (its:=[.str a t]) (.cons ⟨t,rfl⟩ .nil) (show 1<=sizeLine by decide),rfl,q _ I.fresh⟩
 ·have e:Txt.split a b=[a]:=by
   unfold Txt.split
   rw[h1,if_pos rfl]
  rw[e] at q
  exact call_meets F.slot_str_split (typeIs_str _ _ _) F.entry_str_split (F.args_str_split_2 _ _) (meets_str_split_cannot_occur a b t t' h1) ⟨.ref _,_,I.lnew (t':=s.toks) (ys:=[.str a]) (its:=[.str a t]) (.cons ⟨t,rfl⟩ .nil) (show 1<=sizeLine by decide),rfl,q _ I.fresh⟩
end
section
variable {X:Cx} {EX:St->XK} {o e:Expr} {to te:TV} {apos cpos:Pos}
def qgy(to te:TV):TV:=λτ Q=>to τ λrs=>match rs.d with
|.str a=>te τ λrt=>∃b,rt.d=.str b/\Q (.val (.bl (Txt.startswith a b)))
|_=>False
theorem qr6(ho:VE X EX o to)(h:VE X EX e te)(hp:qaq e=true:=by rfl)(hbase:attributeBase o "startswith" X.env (eval o X.env)=eval o X.env:=by rfl)(hline:(apos.endLine==cpos.line)=true:=by rfl) :
  VE X EX (.Call (.Attribute o "startswith" apos) [e] [] cpos) (qgy to te) :=
 let ⟨_,o1,o2⟩:=ho.u;let ⟨_,a1,a2⟩:=h.u;⟨_,qbm PySem.F.plainAttrs_str PySem.F.slot_str_startswith PySem.F.type_str_startswith qim o1 (qac a1 qeg hp) (by simp[hp]) rfl hbase hline,λH0 B H τ σ Q Qd s S h xc k =>
  o2 H0 B H τ σ _ _ s S h (xno λ_ q=>q) λrs vs B1 H1 p1 q1 h1=>by
   split at h1
   ·rename_i a es
    cases q1.pk.scal (z:=.str a) (by rw[es];rfl)
    refine⟨rfl,a2 H0 B1 H1 τ σ _ _ p1.s (S.step p1) h1 (xno λ_ ⟨_,q,_⟩=>by cases q) λrl vl B2 H2 p2 q2 h2=>?_⟩
    obtain⟨b,el,hq⟩:=h2
    cases q2.pk.scal (z:=.str b) (by rw[el];rfl)
    exact⟨a,b,rfl,rfl,k _ _ B2 H2 (p1.trans p2) (repV rfl) hq⟩
   ·exact h1.elim⟩
def qko(to te:TV):TV:=λτ Q=>to τ λrs=>match rs.d with
|.str a=>te τ λrt=>∃b,rt.d=.str b/\(b.length==0)=false/\a.length<=sizeLine/\(Txt.split a b).length<=sizeLine/\Q (.own (.lst ((Txt.split a b).map D.str)))
|_=>False
theorem qj8{K:PySem.W.Frag}{B:Hp}:∀ss:List Str,Reps K B (ss.map D.str) (ss.map V.str)
|[]=>.nil
|s::ss=>.cons (qgq (d:=.str s) rfl) (qj8 ss)
theorem quv(ho:VE X EX o to)(h:VE X EX e te)(hp:qaq e=true:=by rfl)(hbase:attributeBase o "split" X.env (eval o X.env)=eval o X.env:=by rfl)(hline:(apos.endLine==cpos.line)=true:=by rfl) :
  VE X EX (.Call (.Attribute o "split" apos) [e] [] cpos) (qko to te) :=
 let ⟨_,o1,o2⟩:=ho.u;let ⟨_,a1,a2⟩:=h.u;⟨_,qbm PySem.F.plainAttrs_str PySem.F.slot_str_split PySem.F.type_str_split qth o1 (qac a1 qeg hp) (by simp[hp]) rfl hbase hline,λH0 B H τ σ Q Qd s S h xc k =>
  o2 H0 B H τ σ _ _ s S h (xno λ_ q=>q) λrs vs B1 H1 p1 q1 h1=>by
   split at h1
   ·rename_i a es
    cases q1.pk.scal (z:=.str a) (by rw[es];rfl)
    refine⟨rfl,a2 H0 B1 H1 τ σ _ _ p1.s (S.step p1) h1 (xno λ_ ⟨_,q,_⟩=>by cases q) λrl vl B2 H2 p2 q2 h2=>?_⟩
    obtain⟨b,el,hb,ha,hz,hq⟩:=h2
    cases q2.pk.scal (z:=.str b) (by rw[el];rfl)
    have pp:=p1.trans p2
    exact⟨a,b,rfl,rfl,hb,ha,hz,λl hl=>k (.own _) _ B2 _ (pp.trans (.grow p2.s (qak hl _))) ⟨l,rfl,pp.h.free hl,p2.s.free hl,qbt (qj8 _)⟩ hq⟩
   ·exact h1.elim⟩
end
def sp(c:Nat):List Nat->List (List Nat)
|[]=>[[]]
|x::xs=>if x=c then []::sp c xs else match sp c xs with
 |[]=>[[x]]
 |p::ps=>(x::p)::ps
theorem q37(c:Nat):∀xs,sp c xs≠[]
|[]=>by unfold sp;exact λh=>by cases h
|x::xs=>by
  unfold sp
  split
  ·exact λh=>by cases h
  ·split<;>exact λh=>by cases h
theorem qmb(c:Nat):∀xs:List Nat,c∉xs->sp c xs=[xs]
|[],_=>rfl
|x::xs,h=>by
  unfold sp
  rw[if_neg (λe=>h (by simp[e])),qmb c xs λz=>h (List.mem_cons_of_mem _ z)]
theorem qro(c:Nat):∀(pre post:List Nat),c∉pre->sp c (pre++c::post)=pre::sp c post
|[],post,_=>by
  show sp c (c::post)=_
  rw[sp,if_pos rfl]
|x::pre,post,h=>by
  show sp c (x::(pre++c::post))=_
  rw[sp,if_neg (λe=>h (by simp[e])),qro c pre post λz=>h (List.mem_cons_of_mem _ z)]
theorem qio(s:Str)(c n lim:Nat)(hn:s.length=n):∀(l:List Nat) (a:Nat) (st:Array Nat×Nat),l=List.range' a (n+1-a)->a<=n+1->st.2<=a->st.1.size+(n+1-a)<=lim ->
  (forIn l st (StrLaws.occBody s ⟨#[c]⟩ n lim)).run.fst.toList=st.1.toList++((List.range' a (n-a)).filter λi=>s.cps[i]?==some c)
|[],a,st,hl,ha,h2,h3=>by
  have e:n+1-a=0:=by simpa using congrArg List.length hl.symm
  have e2:n-a=0:=by lia
  rw[e2]
  simp
|x::l,a,st,hl,ha,h2,h3=>by
  have ea:n+1-a=(n-a)+1:=by
   have:=congrArg List.length hl
   simp at this
   lia
  rw[ea,List.range'_succ] at hl
  injection hl with e1 e2
  subst e1
  rw[List.forIn_cons]
  have el:l=List.range' (x+1) (n+1-(x+1)):=by rw[e2];congr 1;lia
  have one:(⟨#[c]⟩:Str).length=1:=rfl
  by_cases hx:x<n
  ·have er:List.range' x (n-x)=x::List.range' (x+1) (n-(x+1)):=by
    have:n-x=(n-(x+1))+1:=by lia
    rw[this,List.range'_succ]
   have hs:x<s.cps.size:=by show x<s.length;lia
   have sub:subAt s ⟨#[c]⟩ x=(s.cps[x]?==some c):=by
    unfold subAt
    rw[one]
    have:s.cps.extract x (x+1)=#[s.cps[x]]:=by
     apply Array.ext
     ·simp;lia
     ·intro i h1 h2
      have:i=0:=by simp at h2;lia
      subst this
      simp
    rw[this,Array.getElem?_eq_getElem hs]
    apply qa3
    simp
   rw[er,List.filter_cons]
   unfold StrLaws.occBody
   rw[sub,one]
   by_cases hc:(s.cps[x]?==some c)=true
   ·rw[if_pos ⟨⟨⟨by lia,h2⟩,by lia⟩,hc⟩,if_pos hc]
    show (forIn l (st.1.push x,x+1) (StrLaws.occBody s ⟨#[c]⟩ n lim)).run.fst.toList=_
    rw[qio s c n lim hn l (x+1) (st.1.push x,x+1) el (by lia) (Nat.le_refl _) (by simp;lia)]
    simp
   ·rw[if_neg (λz=>hc z.2),if_neg hc]
    show (forIn l (st.1,st.2) (StrLaws.occBody s ⟨#[c]⟩ n lim)).run.fst.toList=_
    rw[qio s c n lim hn l (x+1) (st.1,st.2) el (by lia) (by show st.2<=x+1;lia) (by show st.1.size+_<=lim;lia)]
  ·have ex:x=n:=by lia
   have er:List.range' x (n-x)=[]:=by rw[show n-x=0 by lia];rfl
   rw[er]
   unfold StrLaws.occBody
   rw[one,if_neg (λz=>by have:=z.1.2;lia)]
   show (forIn l (st.1,st.2) (StrLaws.occBody s ⟨#[c]⟩ n lim)).run.fst.toList=_
   rw[qio s c n lim hn l (x+1) (st.1,st.2) el (by lia) (by show st.2<=x+1;lia) (by show st.1.size+_<=lim;lia)]
   rw[show n-(x+1)=0 by lia]
   rfl
theorem qxj(s:Str)(c:Nat):occurrences s ⟨#[c]⟩ 0 s.length (s.length+1)=(List.range' 0 s.length).filter λi=>s.cps[i]?==some c:=by
 rw[StrLaws.occ_eq,qio s c s.length (s.length+1) rfl _ 0 (#[],0) rfl (Nat.zero_le _) (Nat.le_refl _) (by simp)]
 simp
theorem qix(s:Str)(a k:Nat):(strSub s a k).cps.toList=(s.cps.toList.drop a).take (k-a):=by
 unfold strSub
 simp[Array.toList_extract,List.extract]
theorem qir(s:Str)(c:Nat):∀(m a:Nat),s.length-a=m->a<=s.length->∀(b:Nat),b<=a->c∉(s.cps.toList.drop b).take (a-b) ->
  (StrLaws.partsFrom s 1 b ((List.range' a m).filter λi=>s.cps[i]?==some c)).map (·.cps.toList)=sp c (s.cps.toList.drop b)
|0,a,hm,ha,b,hb,hf=>by
  have e:a=s.length:=by lia
  have el:s.cps.toList.length=s.length:=rfl
  show [(strSub s b s.length).cps.toList]=_
  rw[qix,qmb]
  ·rw[List.take_of_length_le (by rw[List.length_drop,el];exact Nat.le_refl _)]
  ·rw[e,List.take_of_length_le (by rw[List.length_drop,el];exact Nat.le_refl _)] at hf
   exact hf
|m+1,a,hm,ha,b,hb,hf=>by
  have hs:a<s.cps.toList.length:=by show a<s.length;lia
  have hs':a<s.cps.size:=hs
  have ed:s.cps.toList.drop a=s.cps.toList[a]::s.cps.toList.drop (a+1):=List.drop_eq_getElem_cons hs
  have eb:s.cps.toList.drop b=(s.cps.toList.drop b).take (a-b)++s.cps.toList.drop a:=by
   have:(s.cps.toList.drop b).drop (a-b)=s.cps.toList.drop a:=by rw[List.drop_drop];congr 1;lia
   rw[←this,List.take_append_drop]
  have eg:s.cps[a]?=some s.cps.toList[a]:=by rw[Array.getElem?_eq_getElem hs'];rfl
  rw[List.range'_succ,List.filter_cons]
  by_cases hc:s.cps.toList[a]=c
  ·rw[if_pos (by rw[eg,hc];simp)]
   show (strSub s b a).cps.toList::(StrLaws.partsFrom s 1 (a+1) _).map (·.cps.toList)=_
   rw[qir s c m (a+1) (by lia) (by lia) (a+1) (Nat.le_refl _) (by simp),qix]
   conv=>rhs;rw[eb,ed,hc,qro c _ _ hf]
  ·rw[if_neg (by rw[eg];simpa using hc)]
   refine qir s c m (a+1) (by lia) (by lia) b (by lia) ?_
   have e2:(s.cps.toList.drop b).take (a+1-b)=(s.cps.toList.drop b).take (a-b)++[s.cps.toList[a]]:=by
    rw[show a+1-b=(a-b)+1 by lia,List.take_succ]
    congr 1
    rw[List.getElem?_drop,show b+(a-b)=a by lia,List.getElem?_eq_getElem hs]
    rfl
   rw[e2,List.mem_append]
   rintro (z|z)
   ·exact hf z
   ·exact hc (List.mem_singleton.mp z).symm
theorem qs9{c:Nat}(h:c<256):Builtin.Str.strKind (⟨#[c]⟩:Str)=1:=by
 unfold Builtin.Str.strKind
 rw[if_pos (by simpa using h)]
theorem qw5(s:Str):1<=Builtin.Str.strKind s:=by
 unfold Builtin.Str.strKind
 repeat' split
 all_goals lia
theorem qum(s:Str){c:Nat}(h:c<256):(Txt.split s ⟨#[c]⟩).map (·.cps.toList)=sp c s.cps.toList:=by
 have one:(⟨#[c]⟩:Str).length=1:=rfl
 unfold Txt.split
 by_cases h0:s.length=0
 ·rw[if_pos (by rw[one,h0];rfl)]
  have e:s.cps.toList=[]:=List.eq_nil_of_length_eq_zero h0
  show [s.cps.toList]=_
  rw[e]
  rfl
 ·rw[if_neg (by
   rw[one,qs9 h]
   have:=qw5 s
   simp
   lia),qxj]
  have hp:=qir s c s.length 0 (by lia) (Nat.zero_le _) 0 (Nat.le_refl _) (by simp)
  rw[List.drop_zero] at hp
  by_cases he:((List.range' 0 s.length).filter λi=>s.cps[i]?==some c).isEmpty=true
  ·rw[if_pos he]
   rw[List.isEmpty_iff.mp he] at hp
   rw[←hp]
   show [s.cps.toList]=[(strSub s 0 s.length).cps.toList]
   rw[qix,List.drop_zero,List.take_of_length_le (show s.cps.toList.length<=s.length-0 from Nat.le_refl _)]
  ·rw[if_neg he,one,StrLaws.partsBetween_eq]
   exact hp
theorem qy0(a b:Nat):sliceRange a b 1=List.range' a (b-a):=by
 unfold sliceRange
 have e:(if (1:Int)>0 then (if (a:Int)<b then ((b:Int)-a+1-1) / 1 else 0) else (if (a:Int)>b then ((a:Int)-b-1-1) / (-1) else 0)).toNat=b-a:=by
  rw[if_pos (by decide)]
  split
  ·rw[Int.ediv_one];lia
  ·lia
 show (List.range _).map _=_
 rw[e,List.range'_eq_map_range]
 refine List.map_congr_left λk _=>?_
 lia
theorem qwy(l u:Option Int)(n:Nat):strSliceIndices l u 1 n=List.range' (HT.sIx n 0 l) (HT.sIx n n u-HT.sIx n 0 l):=by
 rw[←qy0]
 unfold strSliceIndices
 have c:∀(v:Int),max 0 (min (if v<0 then v+(n:Int) else v) n)=((HT.sIx n 0 (some v):Nat):Int):=λv=>by
  show _=(((if v<0 then (v+(n:Int)).toNat else min v.toNat n):Nat):Int)
  split<;>lia
 have c2:∀(v:Int),HT.sIx n n (some v)=HT.sIx n 0 (some v):=λ_=>rfl
 have go:∀(a b:Int) (x y:Nat),a=x->b=y->sliceRange a b 1=sliceRange x y 1:=λa b x y h1 h2=>by rw[h1,h2]
 cases l with
|none =>
  cases u with
 |none=>exact go _ _ _ _ rfl rfl
 |some v=>exact go _ _ _ _ rfl (by rw[c2,←c v];rfl)
|some v =>
  cases u with
 |none=>exact go _ _ _ _ (by rw[←c v];rfl) rfl
 |some w=>exact go _ _ _ _ (by rw[←c v];rfl) (by rw[c2,←c w];rfl)
theorem qm0(xs:Array Nat):∀(m a:Nat),a+m<=xs.size->(List.range' a m).filterMap (xs[·]?)=(xs.toList.drop a).take m
|0,a,_=>by simp
|m+1,a,h=>by
  have hs:a<xs.toList.length:=by show a<xs.size;lia
  rw[List.range'_succ,List.filterMap_cons,Array.getElem?_eq_getElem (show a<xs.size by lia)]
  show xs[a]::_=_
  rw[qm0 xs m (a+1) (by lia),List.drop_eq_getElem_cons hs,List.take_succ_cons]
  rfl
theorem slice_list(z:Str)(l u:Option Int):(Txt.slice z l u).cps.toList=cutL z.cps.toList l u:=by
 unfold Txt.slice cutL
 have el:z.cps.toList.length=z.length:=rfl
 have h1:=HT.sIx_le z.length 0 (Nat.zero_le _) l
 have h2:=HT.sIx_le z.length z.length (Nat.le_refl _) u
 rw[qwy,el]
 by_cases h:HT.sIx z.length z.length u-HT.sIx z.length 0 l=z.length
 ·rw[if_pos (by simpa using h),h]
  have e0:HT.sIx z.length 0 l=0:=by lia
  rw[e0,List.drop_zero,List.take_of_length_le (Nat.le_of_eq el)]
 ·rw[if_neg (by simpa using h)]
  show List.filterMap _ _=_
  by_cases hz:HT.sIx z.length 0 l<=HT.sIx z.length z.length u
  ·exact qm0 z.cps _ _ (by show _<=z.length;lia)
  ·rw[show HT.sIx z.length z.length u-HT.sIx z.length 0 l=0 by lia]
   simp
def mkS(l:List Nat):Str:=⟨l.toArray⟩
theorem qb1(z:Str):mkS z.cps.toList=z:=by unfold mkS;simp
theorem qqu(l:List Nat):(mkS l).length=l.length:=by unfold mkS Str.length;simp
theorem qdc{a b:Str}(h:a.cps.toList=b.cps.toList):a=b:=by rw[←qb1 a,←qb1 b,h]
theorem qnm(s:Str){c:Nat}(h:c<256):Txt.split s ⟨#[c]⟩=(sp c s.cps.toList).map mkS:=by
 rw[←qum s h,List.map_map]
 refine(List.map_id _).symm.trans (List.map_congr_left λz _=>?_)
 exact(qb1 z).symm
theorem qot(s:Str)(c:Nat):Txt.startswith s ⟨#[c]⟩=(s.cps.toList.head?==some c):=by
 unfold Txt.startswith
 have one:(⟨#[c]⟩:Str).length=1:=rfl
 rw[one]
 cases hl:s.cps.toList with
|nil =>
  have e:s=mkS []:=by rw[←hl,qb1]
  rw[e]
  rfl
|cons x xs =>
  have e:s=mkS (x::xs):=by rw[←hl,qb1]
  have hsz:s.length=xs.length+1:=by rw[e,qqu];rfl
  rw[decide_eq_true (by lia:0+1<=s.length),Bool.true_and]
  unfold subAt
  rw[one]
  have ex:s.cps.extract 0 (0+1)=#[x]:=by
   apply Array.toList_inj.mp
   rw[Array.toList_extract,hl]
   simp[List.extract]
  rw[ex]
  apply qa3
  simp
theorem qvv(c:Nat):∀xs:List Nat,(sp c xs).length<=xs.length+1
|[]=>Nat.le_refl _
|x::xs=>by
  have:=qvv c xs
  unfold sp
  split
  ·simp;lia
  ·split
   ·simp
   ·rename_i h
    rw[h] at this
    simp at this ⊢
    lia
theorem qnk(c:Nat):∀(xs:List Nat),∀p∈sp c xs,p.length<=xs.length
|[],p,h=>by
  have:p=[]:=by simpa [sp] using h
  rw[this]
  exact Nat.le_refl _
|x::xs,p,h=>by
  have ih:=qnk c xs
  unfold sp at h
  split at h
  ·rcases List.mem_cons.mp h with rfl|h
   ·simp
   ·have:=ih p h
    simp;lia
  ·split at h
   ·rename_i e
    exact absurd e (q37 c xs)
   ·rename_i q qs e
    rw[e] at ih
    rcases List.mem_cons.mp h with rfl|h
    ·have:=ih q (List.mem_cons_self ..)
     simp;lia
    ·have:=ih p (List.mem_cons_of_mem _ h)
     simp;lia
end L2
namespace L2
open PySem PySem.Spec PyProof.Rows
section
variable {X:Cx} {EX:St->XK} {K:PySem.W.Frag} {o e:Expr} {to te:TV} {apos cpos:Pos} {τ:VSt} {σ:St} {B H H0:Hp}
def q32:R2:=λx y H Q=>∃a n,x=.str a/\y=.int n/\MulOk a n/\Q (.str (Txt.mul a n)) H
theorem qxo:OpR X (binaryOp .Mult) q32:=by
 intro pins s σ H x y v u Q I rx ry h
 obtain⟨a,n,rfl,rfl,hok,q⟩:=h
 obtain⟨t1,rfl⟩:=rx
 obtain⟨t2,rfl⟩:=ry
 exact SB.mul hok λt' k=>⟨.str _,H,I.tok _,⟨_,rfl⟩,q⟩
def qmh(rx ry:R)(Q:R->Prop):Prop:=match rx.d,ry.d with
|.str a,.int n=>MulOk a n/\Q (.val (.str (Txt.mul a n)))
|_,_=>False
theorem qsb:VO X (binaryOp .Mult) qmh:=⟨_,qxo,λB H x y rx ry Q Qd s hx hy h k=>by
 unfold qmh at h
 split at h
 ·rename_i a n e1 e2
  cases hx.scal (z:=.str a) (by rw[e1];rfl)
  cases hy.scal (z:=.int n) (by rw[e2];rfl)
  exact⟨a,n,rfl,rfl,h.1,k _ _ B H (.refl s) (repV rfl) h.2⟩
 ·exact h.elim⟩
end
end L2
namespace L2
open PySem PySem.W PyProof.Rows
structure LtOk(n:Nat)(lt:Nat->Nat->Bool):Prop where
 tr:∀a b c,a<n->b<n->c<n->lt b a=false->lt c b=false->lt c a=false
 as:∀a b,a<n->b<n->lt a b=true->lt b a=false
def qb6:Bool->Keyed->Array Keyed->Nat->Nat->Nat->StateT SortSt Sem (Option Nat):=sortPriv% PySem.Builtin.gallop
def qei(left:Bool)(key:Keyed)(arr:Array Keyed)(base i:Nat):StateT SortSt Sem (Option Bool):=do
 let x ←elem' arr (base+i)
 if left then lt' x key else return (←lt' key x).map (!·)
def qie(left:Bool)(key:Keyed)(arr:Array Keyed)(base n lo hi:Nat):StateT SortSt Sem (Option Nat):=do
 let mut lo:=lo
 let mut hi:=hi
 for _ in [0:n] do
  if lo≥hi then break
  let m:=lo+(hi-lo) / 2
  let some more ←qei left key arr base m|return none
  if more then lo:=m+1 else hi:=m
 return some hi
theorem qn5(left:Bool)(key:Keyed)(arr:Array Keyed)(base n hint:Nat):qb6 left key arr base n hint=(do
 let mut lastofs:=0
 let mut ofs:=1
 let mut lo:=0
 let mut hi:=0
 let some right ←qei left key arr base hint|return none
 if right then
  let maxofs:=n-hint
  for _ in [0:n] do
   if ofs≥maxofs then break
   let some more ←qei left key arr base (hint+ofs)|return none
   if !more then break
   lastofs:=ofs
   ofs:=2*ofs+1
  lo:=hint+lastofs+1
  hi:=hint+min ofs maxofs
 else
  let maxofs:=hint+1
  for _ in [0:n] do
   if ofs≥maxofs then break
   let some found ←qei left key arr base (hint-ofs)|return none
   if found then break
   lastofs:=ofs
   ofs:=2*ofs+1
  lo:=hint+1-min ofs maxofs
  hi:=hint-lastofs
 for _ in [0:n] do
  if lo≥hi then break
  let m:=lo+(hi-lo) / 2
  let some more ←qei left key arr base m|return none
  if more then lo:=m+1 else hi:=m
 return some hi):=rfl
section
variable {M:Model} {A:Around} {E:Value->Shared->Prop} {s:Shared} {st:SortSt} {left:Bool} {key:Keyed} {arr:Array Keyed} {base n hint:Nat} {B:Nat->Bool} {Q:Option Nat->SortSt->Prop}
def qpb(M:Model)(A:Around)(E:Value->Shared->Prop)(s:Shared)(st:SortSt)(left:Bool)(key:Keyed)(arr:Array Keyed)(base n:Nat)(B:Nat->Bool):Prop :=
 ∀i,i<n->∀Q:Option Bool->SortSt->Prop,Q (some (B i)) st->wpS M A E s (qei left key arr base i) Q st
theorem qhl(hB:qpb M A E s st left key arr base n B)(mono:∀i j,i<=j->j<n->B j=true->B i=true)
  (h:∀k,k<=n->(∀i,i<k->B i=true)->(∀i,k<=i->i<n->B i=false)->Q (some k) st) (lo hi:Nat) (h1:lo<=hi) (h2:hi<=n) (h3:∀i,i<lo->B i=true) (h4:∀i,hi<=i->i<n->B i=false):wpS M A E s (qie left key arr base n lo hi) Q st:=by
 unfold qie
 dsimp only
 refine wpS_bind (wpS_forRange (λk c st'=>st'=st/\∃lo hi,c=(none,lo,hi)/\lo<=hi/\hi-lo<=n-k/\hi<=n/\(∀i,i<lo->B i=true)/\(∀i,hi<=i->i<n->B i=false)) ?_ ?_ ⟨rfl,lo,hi,rfl,h1,by lia,h2,h3,h4⟩)
 ·rintro k c st' - hk ⟨rfl,lo,hi,rfl,a1,a2,a3,a4,a5⟩
  dsimp only
  by_cases hlt:lo≥hi
  ·rw[if_pos hlt]
   have:lo=hi:=by lia
   subst this
   exact wpS_pure (wpS_pure (h lo a3 a4 a5))
  ·rw[if_neg hlt]
   refine wpS_bind (hB _ (by lia) _ ?_)
   dsimp only
   cases hb:B (lo+(hi-lo) / 2) with
  |true =>
    rw[if_pos rfl]
    exact wpS_pure ⟨rfl,_,_,rfl,by lia,by lia,a3,λi hi'=>mono i _ (by lia) (by lia) hb,a5⟩
  |false =>
    rw[if_neg (by simp)]
    refine wpS_pure ⟨rfl,_,_,rfl,by lia,by lia,by lia,a4,λi h1 h2=>?_⟩
    cases hc:B i with
   |false=>rfl
   |true=>rw[mono _ i h1 h2 hc] at hb;cases hb
 ·rintro c st' ⟨rfl,lo,hi,rfl,a1,a2,a3,a4,a5⟩
  have:lo=hi:=by lia
  subst this
  exact wpS_pure (h lo a3 a4 a5)
theorem qp9(hB:qpb M A E s st left key arr base n B)(mono:∀i j,i<=j->j<n->B j=true->B i=true)(hh:hint<n)
  (h:∀k,k<=n->(∀i,i<k->B i=true)->(∀i,k<=i->i<n->B i=false)->Q (some k) st):wpS M A E s (qb6 left key arr base n hint) Q st:=by
 have mono':∀i j,i<=j->j<n->B i=false->B j=false:=λi j h1 h2 h3=>by
  cases hc:B j with
 |false=>rfl
 |true=>rw[mono i j h1 h2 hc] at h3;cases h3
 rw[qn5]
 dsimp only
 refine wpS_bind (hB hint hh _ ?_)
 dsimp only
 cases hb:B hint with
|true =>
  rw[if_pos rfl]
  have fin:∀lastofs ofs,lastofs<ofs->hint+lastofs<n->B (hint+lastofs)=true->(ofs≥n-hint\/B (hint+ofs)=false)->wpS M A E s (qie left key arr base n (hint+lastofs+1) (hint+min ofs (n-hint))) Q st:=λlastofs ofs a1 a2 a3 a4=>by
   refine qhl hB mono h _ _ (by lia) (by lia) (λi hi=>mono i _ (by lia) a2 a3) λi h1 h2=>?_
   rcases a4 with a4|a4
   ·lia
   ·by_cases z:ofs≥n-hint
    ·lia
    ·exact mono' _ _ (by lia) h2 a4
  refine wpS_bind (wpS_forRange (λk c st'=>st'=st/\∃lastofs ofs,c=(none,lastofs,ofs)/\lastofs<ofs/\k<ofs/\hint+lastofs<n/\B (hint+lastofs)=true) ?_ ?_ ⟨rfl,0,1,rfl,by lia,by lia,by lia,hb⟩)
  ·rintro k c st' - hk ⟨rfl,lastofs,ofs,rfl,a1,a2,a3,a4⟩
   dsimp only
   by_cases hlt:ofs≥n-hint
   ·rw[if_pos hlt]
    exact wpS_pure (fin lastofs ofs a1 a3 a4 (.inl hlt))
   ·rw[if_neg hlt]
    refine wpS_bind (hB _ (by lia) _ ?_)
    dsimp only
    cases hc:B (hint+ofs) with
   |true =>
     rw[if_neg (by simp)]
     exact wpS_pure ⟨rfl,_,_,rfl,by lia,by lia,by lia,hc⟩
   |false =>
     rw[if_pos (by simp)]
     exact wpS_pure (fin lastofs ofs a1 a3 a4 (.inr hc))
  ·rintro c st' ⟨rfl,lastofs,ofs,rfl,a1,a2,a3,a4⟩
   exact fin lastofs ofs a1 a3 a4 (.inl (by lia))
|false =>
  rw[if_neg (by simp)]
  have fin:∀lastofs ofs,lastofs<ofs->lastofs<=hint->B (hint-lastofs)=false->(ofs≥hint+1\/B (hint-ofs)=true)->wpS M A E s (qie left key arr base n (hint+1-min ofs (hint+1)) (hint-lastofs)) Q st:=λlastofs ofs a1 a2 a3 a4=>by
   refine qhl hB mono h _ _ (by lia) (by lia) (λi hi=>?_) λi h1 h2=>mono' _ _ h1 h2 a3
   rcases a4 with a4|a4
   ·lia
   ·exact mono _ _ (by lia) (by lia) a4
  refine wpS_bind (wpS_forRange (λk c st'=>st'=st/\∃lastofs ofs,c=(none,lastofs,ofs)/\lastofs<ofs/\k<ofs/\lastofs<=hint/\B (hint-lastofs)=false) ?_ ?_ ⟨rfl,0,1,rfl,by lia,by lia,by lia,hb⟩)
  ·rintro k c st' - hk ⟨rfl,lastofs,ofs,rfl,a1,a2,a3,a4⟩
   dsimp only
   by_cases hlt:ofs≥hint+1
   ·rw[if_pos hlt]
    exact wpS_pure (fin lastofs ofs a1 a3 a4 (.inl hlt))
   ·rw[if_neg hlt]
    refine wpS_bind (hB _ (by lia) _ ?_)
    dsimp only
    cases hc:B (hint-ofs) with
   |true =>
     rw[if_pos rfl]
     exact wpS_pure (fin lastofs ofs a1 a3 a4 (.inr hc))
   |false =>
     rw[if_neg (by simp)]
     exact wpS_pure ⟨rfl,_,_,rfl,by lia,by lia,by lia,hc⟩
  ·rintro c st' ⟨rfl,lastofs,ofs,rfl,a1,a2,a3,a4⟩
   exact fin lastofs ofs a1 a3 a4 (.inl (by lia))
end
end L2
namespace L2
open PySem PySem.W PyProof.Rows
abbrev Up(lt:Nat->Nat->Bool)(l:List Nat):Prop:=l.Pairwise λa b=>lt b a=false
section
variable {prog:Program} {w:World} {A:Around} {E:Value->Shared->Prop} {s:Shared} {κ:SortKind} {f:Nat->Keyed} {n:Nat} {lt:Nat->Nat->Bool} {st:SortSt}
def Asks(prog:Program)(w:World)(A:Around)(s:Shared)(κ:SortKind)(f:Nat->Keyed)(n:Nat)(lt:Nat->Nat->Bool):Prop :=
 ∀i j,i<n->j<n->∀Q:Bool->Shared->Prop,Q (lt i j) s->wpAny (model prog w) A (keyLt' κ (f i).1 (f j).1) Q (λ_ _=>False) s
theorem qg5(hc:Asks prog w A s κ f n lt)(hk:kindOf st=κ){i j:Nat}(hi:i<n)(hj:j<n){Q:Option Bool->SortSt->Prop}(h:Q (some (lt i j)) st):wpS (model prog w) A E s (lt' (f i) (f j)) Q st:=by
 rw[lt'_eq]
 refine wpS_bind (wpS_get ?_)
 rw[hk]
 refine wpS_bind (wpS_lift (wpAny_attempt (wpAny_mono (hc i j hi hj (λb s'=>b=lt i j/\s'=s) ⟨rfl,rfl⟩) (λb s' hb=>?_) λ_ _ e=>e.elim)))
 obtain⟨rfl,rfl⟩:=hb
 exact⟨rfl,wpS_pure h⟩
def ar(f:Nat->Keyed)(l:List Nat):Array Keyed:=(l.map f).toArray
theorem qb4(l:List Nat):(ar f l).size=l.length:=by simp[ar]
theorem qf2(l:List Nat)(x:Nat):(ar f l).push (f x)=ar f (l++[x]):=by simp[ar]
theorem qeq(l m:List Nat):ar f l++ar f m=ar f (l++m):=by simp[ar]
theorem qzu{l m:List Nat}{x:Nat}:(ar f (l++x::m))[l.length]?=some (f x):=by simp[ar]
theorem qpl(l m:List Nat){k:Nat}(hk:k=l.length){z:Nat}(hz:z=l.length+m.length):(ar f (l++m)).extract k z=ar f m:=by
 subst hk hz
 simp[ar,List.take_of_length_le]
theorem qf1(l m r:List Nat){k:Nat}(hk:k=l.length){z:Nat}(hz:z=l.length+m.length):(ar f (l++(m++r))).extract k z=ar f m:=by
 subst hk hz
 simp[ar,List.take_append]
theorem qwe(l:List Nat){k z:Nat}(hk:l.length<=k):(ar f l).extract k z=#[]:=by
 apply Array.ext'
 simp[ar,hk]
theorem qda{l m:List Nat}{x k:Nat}(hk:k=l.length){Q:Keyed->SortSt->Prop}{M:Model}(h:Q (f x) st):wpS M A E s (elem' (ar f (l++x::m)) k) Q st:=by
 subst hk
 rw[elem'_eq,qzu]
 exact wpS_pure h
def gB(left:Bool)(lt:Nat->Nat->Bool)(y x:Nat):Bool:=if left=true then lt y x else !(lt x y)
theorem q3b(L:LtOk n lt){left:Bool}{x y:Nat}(hx:x<n)(hy:y<n)(h:gB left lt y x=true):lt x y=false:=by
 unfold gB at h
 cases left with
|true=>exact L.as _ _ hy hx (by simpa using h)
|false=>simpa using h
theorem q3a(L:LtOk n lt){left:Bool}{x y:Nat}(hx:x<n)(hy:y<n)(h:gB left lt y x=false):lt y x=false:=by
 unfold gB at h
 cases left with
|true=>simpa using h
|false=>exact L.as _ _ hx hy (by simpa using h)
theorem qlg(hc:Asks prog w A s κ f n lt)(hk:kindOf st=κ){left:Bool}{pre l post:List Nat}{x:Nat}(hl:∀y∈l,y<n)(hx:x<n) :
  qpb (model prog w) A E s st left (f x) (ar f (pre++(l++post))) pre.length l.length λi=>gB left lt (l.getD i 0) x:=λi hi Q h=>by
 have m1:l[i]∈l:=List.getElem_mem hi
 have e1:l.getD i 0=l[i]:=by simp[hi]
 have g:(ar f (pre++(l++post)))[pre.length+i]?=some (f l[i]):=by
  simp[ar,hi,List.getElem?_append]
 unfold qei
 rw[elem'_eq,g]
 refine wpS_bind (wpS_pure ?_)
 dsimp only at h
 rw[e1] at h
 unfold gB at h
 cases left with
|true =>
  rw[if_pos rfl] at h ⊢
  exact qg5 hc hk (hl _ m1) hx h
|false =>
  rw[if_neg (by simp)] at h ⊢
  refine wpS_bind (qg5 hc hk hx (hl _ m1) (wpS_pure ?_))
  rw[Option.map_some]
  exact h
theorem qb7(hc:Asks prog w A s κ f n lt)(L:LtOk n lt)(hk:kindOf st=κ){left:Bool}{pre l post:List Nat}{x hint:Nat}(hl:∀y∈l,y<n)(hx:x<n)(up:Up lt l)(hh:hint<l.length){b:Nat}(hb:b=pre.length){m:Nat}(hm:m=l.length)
  {Q:Option Nat->SortSt->Prop} (h:∀l1 l2,l=l1++l2->(∀y∈l1,lt x y=false)->(∀y∈l2,lt y x=false)->(left=true->∀y∈l1,lt y x=true)->(left=false->∀y∈l2,lt x y=true)->Q (some l1.length) st):wpS (model prog w) A E s (qb6 left (f x) (ar f (pre++(l++post))) b m hint) Q st:=by
 subst hb hm
 refine qp9 (qlg hc hk hl hx) (λi j hij hj e=>?_) hh λk hk h1 h2=>?_
 ·by_cases z:i=j
  ·rw[z];exact e
  ·have hi:i<l.length:=by lia
   have e1:l.getD i 0=l[i]:=by simp[hi]
   have e2:l.getD j 0=l[j]:=by simp[hj]
   rw[e1]
   rw[e2] at e
   have hi':=hl _ (List.getElem_mem hi)
   have hj':=hl _ (List.getElem_mem hj)
   have le:lt l[j] l[i]=false:=List.pairwise_iff_getElem.mp up i j hi hj (by lia)
   unfold gB at e ⊢
   cases left with
  |true =>
    rw[if_pos rfl] at e ⊢
    cases q:lt l[i] x with
   |true=>rfl
   |false =>
     have:=L.tr x l[i] l[j] hx hi' hj' q le
     rw[e] at this
     cases this
  |false =>
    rw[if_neg (by simp)] at e ⊢
    have e':lt x l[j]=false:=by simpa using e
    rw[L.tr l[i] l[j] x hi' hj' hx le e']
    rfl
 ·have e0:(l.take k).length=k:=by simp;lia
  rw[←e0]
  suffices kk:(∀y∈l.take k,gB left lt y x=true)/\∀y∈l.drop k,gB left lt y x=false by
   obtain⟨k1,k2⟩:=kk
   refine h (l.take k) (l.drop k) (List.take_append_drop k l).symm (λy hy=>q3b L hx (hl y (List.mem_of_mem_take hy)) (k1 y hy)) (λy hy=>q3a L hx (hl y (List.mem_of_mem_drop hy)) (k2 y hy)) (λe y hy=>?_) λe y hy=>?_
   ·have:=k1 y hy
    subst e
    exact this
   ·have:=k2 y hy
    subst e
    simpa [gB] using this
  refine⟨λy hy=>?_,λy hy=>?_⟩
  ·obtain⟨i,hi,rfl⟩:=List.mem_iff_getElem.mp hy
   have hik:i<k:=by lia
   have:=h1 i hik
   have e1:l.getD i 0=l[i]'(by lia):=by simp[show i<l.length by lia]
   rw[e1] at this
   rw[List.getElem_take]
   exact this
  ·obtain⟨i,hi,rfl⟩:=List.mem_iff_getElem.mp hy
   have hlen:(l.drop k).length=l.length-k:=by simp
   have hi':k+i<l.length:=by lia
   have:=h2 (k+i) (by lia) hi'
   have e1:l.getD (k+i) 0=l[k+i]:=by simp[hi']
   rw[e1] at this
   rw[List.getElem_drop]
   exact this
structure Mg(n:Nat)(lt:Nat->Nat->Bool)(A B O A1 la B1 lb:List Nat):Prop where
 ea:A=A1++la
 eb:B=B1++lb
 pm:O.Perm (A1++B1)
 up:Up lt O
 ba:∀x∈O,∀y∈la,lt y x=false
 bb:∀x∈O,∀y∈lb,lt y x=false
structure MgC(n:Nat)(lt:Nat->Nat->Bool)(A B:List Nat):Prop where
 L:LtOk n lt
 ha:∀x∈A,x<n
 hb:∀x∈B,x<n
 nd:∀x∈A,x∉B
 ua:Up lt A
 ub:Up lt B
variable {A' B' O A1 la B1 lb:List Nat}
theorem Mg.moveA(C:MgC n lt A' B'){l1 l2:List Nat}(m:Mg n lt A' B' O A1 (l1++l2) B1 lb)(h:∀x∈l1,∀y∈lb,lt y x=false):Mg n lt A' B' (O++l1) (A1++l1) l2 B1 lb where
 ea:=by rw[m.ea];simp
 eb:=m.eb
 pm:=by
  refine(m.pm.append_right l1).trans ?_
  rw[List.append_assoc,List.append_assoc]
  exact(List.perm_append_comm).append_left A1
 up:=by
  have u:=C.ua
  rw[m.ea] at u
  have u1:=(List.pairwise_append.mp (List.pairwise_append.mp u).2.1).1
  exact List.pairwise_append.mpr ⟨m.up,u1,λx hx y hy=>m.ba x hx y (List.mem_append_left _ hy)⟩
 ba:=λx hx y hy=>by
  rcases List.mem_append.mp hx with hx|hx
  ·exact m.ba x hx y (List.mem_append_right _ hy)
  ·have u:=C.ua
   rw[m.ea] at u
   exact(List.pairwise_append.mp (List.pairwise_append.mp u).2.1).2.2 x hx y hy
 bb:=λx hx y hy=>by
  rcases List.mem_append.mp hx with hx|hx
  ·exact m.bb x hx y hy
  ·exact h x hx y hy
theorem Mg.moveB(C:MgC n lt A' B'){l1 l2:List Nat}(m:Mg n lt A' B' O A1 la B1 (l1++l2))(h:∀x∈l1,∀y∈la,lt y x=false):Mg n lt A' B' (O++l1) A1 la (B1++l1) l2 where
 ea:=m.ea
 eb:=by rw[m.eb];simp
 pm:=by
  refine(m.pm.append_right l1).trans ?_
  rw[List.append_assoc]
 up:=by
  have u:=C.ub
  rw[m.eb] at u
  have u1:=(List.pairwise_append.mp (List.pairwise_append.mp u).2.1).1
  exact List.pairwise_append.mpr ⟨m.up,u1,λx hx y hy=>m.bb x hx y (List.mem_append_left _ hy)⟩
 ba:=λx hx y hy=>by
  rcases List.mem_append.mp hx with hx|hx
  ·exact m.ba x hx y hy
  ·exact h x hx y hy
 bb:=λx hx y hy=>by
  rcases List.mem_append.mp hx with hx|hx
  ·exact m.bb x hx y (List.mem_append_right _ hy)
  ·have u:=C.ub
   rw[m.eb] at u
   exact(List.pairwise_append.mp (List.pairwise_append.mp u).2.1).2.2 x hx y hy
theorem Mg.ula(C:MgC n lt A' B')(m:Mg n lt A' B' O A1 la B1 lb):Up lt la:=by
 have u:=C.ua
 rw[m.ea] at u
 exact(List.pairwise_append.mp u).2.1
theorem Mg.ulb(C:MgC n lt A' B')(m:Mg n lt A' B' O A1 la B1 lb):Up lt lb:=by
 have u:=C.ub
 rw[m.eb] at u
 exact(List.pairwise_append.mp u).2.1
theorem Mg.ina(m:Mg n lt A' B' O A1 la B1 lb){x:Nat}(h:x∈la):x∈A':=by rw[m.ea];exact List.mem_append_right _ h
theorem Mg.inb(m:Mg n lt A' B' O A1 la B1 lb){x:Nat}(h:x∈lb):x∈B':=by rw[m.eb];exact List.mem_append_right _ h
theorem Mg.endB(C:MgC n lt A' B')(m:Mg n lt A' B' O A1 la B1 []):(O++la).Perm (A'++B')/\Up lt (O++la):=by
 refine⟨?_,List.pairwise_append.mpr ⟨m.up,m.ula C,m.ba⟩⟩
 rw[m.ea,m.eb]
 refine(m.pm.append_right la).trans ?_
 rw[List.append_assoc,List.append_assoc,List.append_nil]
 exact(List.perm_append_comm).append_left A1
theorem qgt(L:LtOk n lt){x y:Nat}{l:List Nat}(hx:x<n)(hl:∀z∈y::l,z<n)(u:Up lt (y::l))(h:lt y x=false):∀z∈y::l,lt z x=false:=λz hz=>by
 rcases List.mem_cons.mp hz with rfl|hz'
 ·exact h
 ·exact L.tr _ _ _ hx (hl y (List.mem_cons_self ..)) (hl z hz) h (List.rel_of_pairwise_cons u hz')
end
end L2
namespace L2
open PySem PySem.W PyProof.Rows
def qbe:Nat->StateT SortSt Sem Unit:=sortPriv% PySem.Builtin.setMinGallop
def qij:Array Keyed->Array Keyed->StateT SortSt Sem (Array Keyed):=sortPriv% PySem.Builtin.mergeLo
theorem qlv(a b:Array Keyed):qij a b=(do
 rule "list.sort.merge-lo"
 let total:=a.size+b.size
 let done (out:Array Keyed) (ia ib:Nat):=out++a.extract ia a.size++b.extract ib b.size
 let lastOfA (out:Array Keyed) (ia ib:Nat):=out++b.extract ib b.size++a.extract ia a.size
 let mut out:Array Keyed:=#[←elem' b 0]
 let mut ia:=0
 let mut ib:=1
 if ib==b.size then return done out ia ib
 if ia+1==a.size then return lastOfA out ia ib
 let mut minGallop:=gallopOf (←get)
 for _ in [0:total] do
  let mut acount:=0
  let mut bcount:=0
  for _ in [0:total] do
   let some bWins ←lt' (←elem' b ib) (←elem' a ia)|return done out ia ib
   if bWins then
    out:=out.push (←elem' b ib);ib:=ib+1;bcount:=bcount+1;acount:=0
    if ib==b.size then return done out ia ib
    if bcount≥minGallop then break
   else
    out:=out.push (←elem' a ia);ia:=ia+1;acount:=acount+1;bcount:=0
    if ia+1==a.size then return lastOfA out ia ib
    if acount≥minGallop then break
  rule "list.sort.gallop"
  minGallop:=minGallop+1
  for _ in [0:total] do
   if minGallop>1 then minGallop:=minGallop-1
   qbe minGallop
   let some k ←qb6 false (←elem' b ib) a ia (a.size-ia) 0|return done out ia ib
   acount:=k
   if k>0 then
    out:=out++a.extract ia (ia+k);ia:=ia+k
    if ia+1==a.size then return lastOfA out ia ib
    if ia==a.size then return done out ia ib
   out:=out.push (←elem' b ib);ib:=ib+1
   if ib==b.size then return done out ia ib
   let some k ←qb6 true (←elem' a ia) b ib (b.size-ib) 0|return done out ia ib
   bcount:=k
   if k>0 then
    out:=out++b.extract ib (ib+k);ib:=ib+k
    if ib==b.size then return done out ia ib
   out:=out.push (←elem' a ia);ia:=ia+1
   if ia+1==a.size then return lastOfA out ia ib
   if acount<7&&bcount<7 then break
  minGallop:=minGallop+1
  qbe minGallop
 unsupported "internal:list.sort.merge-bound"):=rfl
abbrev MlT:=Option (Array Keyed)×Array Keyed×Nat×Nat×Nat×Nat×Nat
def qew(a b out:Array Keyed)(ia ib:Nat):Array Keyed:=out++a.extract ia a.size++b.extract ib b.size
def qhp(a b out:Array Keyed)(ia ib:Nat):Array Keyed:=out++b.extract ib b.size++a.extract ia a.size
def mlC(a b out:Array Keyed)(ia ib mg k k1:Nat):StateT SortSt Sem (ForInStep MlT):=do
 let x ←elem' a ia
 if ia+1+1==a.size then pure (.done (some (qhp a b (out.push x) (ia+1) ib),out.push x,ia+1,ib,mg,k,k1))
 else if k<7&&k1<7 then pure (.done (none,out.push x,ia+1,ib,mg,k,k1))
 else pure (.yield (none,out.push x,ia+1,ib,mg,k,k1))
def mlB(a b out:Array Keyed)(ia ib mg k bc:Nat):StateT SortSt Sem (ForInStep MlT):=do
 let x ←elem' b ib
 if ib+1==b.size then pure (.done (some (qew a b (out.push x) ia (ib+1)),out.push x,ia,ib+1,mg,k,bc))
 else do
  let y ←elem' a ia
  let r ←qb6 true y b (ib+1) (b.size-(ib+1)) 0
  match r with
 |some k1 =>
   if k1>0 then
    if ib+1+k1==b.size then pure (.done (some (qew a b (out.push x++b.extract (ib+1) (ib+1+k1)) ia (ib+1+k1)),out.push x++b.extract (ib+1) (ib+1+k1),ia,ib+1+k1,mg,k,k1))
    else mlC a b (out.push x++b.extract (ib+1) (ib+1+k1)) ia (ib+1+k1) mg k k1
   else mlC a b (out.push x) ia (ib+1) mg k k1
 |_=>pure (.done (some (qew a b (out.push x) ia (ib+1)),out.push x,ia,ib+1,mg,k,bc))
def mlA(a b out:Array Keyed)(ia ib mg ac bc:Nat):StateT SortSt Sem (ForInStep MlT):=do
 qbe mg
 let x ←elem' b ib
 let r ←qb6 false x a ia (a.size-ia) 0
 match r with
|some k =>
  if k>0 then
   if ia+k+1==a.size then pure (.done (some (qhp a b (out++a.extract ia (ia+k)) (ia+k) ib),out++a.extract ia (ia+k),ia+k,ib,mg,k,bc))
   else if ia+k==a.size then pure (.done (some (qew a b (out++a.extract ia (ia+k)) (ia+k) ib),out++a.extract ia (ia+k),ia+k,ib,mg,k,bc))
   else mlB a b (out++a.extract ia (ia+k)) (ia+k) ib mg k bc
  else mlB a b out ia ib mg k bc
|_=>pure (.done (some (qew a b out ia ib),out,ia,ib,mg,ac,bc))
abbrev qa6(st:SortSt)(g:Nat):SortSt:=SortSt.mk' (kindOf st) (arrOf st) (pendingOf st) g (failedOf st)
theorem qbu(g:Nat):qbe g=modify λs=>qa6 s g:=rfl
section
variable {prog:Program} {w:World} {A:Around} {E:Value->Shared->Prop} {s:Shared} {κ:SortKind} {f:Nat->Keyed} {n:Nat} {lt:Nat->Nat->Bool} {st:SortSt} {A' B':List Nat}
def MgQ(lt:Nat->Nat->Bool)(f:Nat->Keyed)(A' B':List Nat)(r:Array Keyed):Prop:=∃l,r=ar f l/\l.Perm (A'++B')/\Up lt l
variable {O A1 la B1 lb:List Nat}
theorem qex(C:MgC n lt A' B')(m:Mg n lt A' B' O A1 la B1 []){ia ib:Nat}(h1:ia=A1.length)(h2:ib=B1.length):MgQ lt f A' B' (qew (ar f A') (ar f B') (ar f O) ia ib):=by
 refine⟨O++la,?_,m.endB C⟩
 unfold qew
 rw[m.ea,m.eb,List.append_nil,qpl A1 la h1 (by simp[qb4]),qwe B1 (by lia),qeq]
 simp
theorem qey(C:MgC n lt A' B'){z:Nat}(hz:∀y∈B',lt y z=true)(m:Mg n lt A' B' O A1 [z] B1 lb){ia ib:Nat}(h1:ia=A1.length)(h2:ib=B1.length):MgQ lt f A' B' (qhp (ar f A') (ar f B') (ar f O) ia ib):=by
 have m2:Mg n lt A' B' (O++lb) A1 [z] (B1++lb) []:=Mg.moveB C (l1:=lb) (l2:=[]) (by rw[List.append_nil];exact m) λx hx y hy=>by
  rw[List.mem_singleton.mp hy]
  exact C.L.as _ _ (C.hb x (m.inb hx)) (C.ha z (by rw[m.ea];simp)) (hz x (m.inb hx))
 refine⟨O++lb++[z],?_,m2.endB C⟩
 unfold qhp
 rw[m.eb,qpl B1 lb h2 (by simp[qb4]),m.ea,qpl A1 [z] h1 (by simp[qb4]),qeq,qeq]
def MlI(n:Nat)(lt:Nat->Nat->Bool)(f:Nat->Keyed)(A' B':List Nat)(out:Array Keyed)(ia ib:Nat):Prop :=
 ∃O A1 la B1 lb,out=ar f O/\Mg n lt A' B' O A1 la B1 lb/\ia=A1.length/\ib=B1.length/\2<=la.length/\1<=lb.length
def MlR(n:Nat)(lt:Nat->Nat->Bool)(f:Nat->Keyed)(A' B':List Nat)(m0:Nat)(κ:SortKind)(st0:SortSt)(r:ForInStep MlT)(st:SortSt):Prop :=
 (∃g,st=qa6 st0 g)/\((∃x y,r=.done (some x,y)/\MgQ lt f A' B' x)\/(∃out ia ib mg p,(r=.done (none,out,ia,ib,mg,p)\/r=.yield (none,out,ia,ib,mg,p))/\MlI n lt f A' B' out ia ib/\m0<ia+ib))
theorem qvl(hc:Asks prog w A s κ f n lt)(C:MgC n lt A' B'){z:Nat}(hz:∀y∈B',lt y z=true)(hl:∃A0,A'=A0++[z]){st0:SortSt}(hk:kindOf st0=κ)(hs:∃g,st=qa6 st0 g){m0:Nat}{x:Nat}{la':List Nat}(m:Mg n lt A' B' O A1 (x::la') B1 lb)(hx:∀y∈lb,lt y x=false)(h2:la'≠[])(h3:lb≠[]){ia ib mg k k1:Nat}(e1:ia=A1.length)(e2:ib=B1.length)(hm:m0<=ia+ib) :
  wpS (model prog w) A E s (mlC (ar f A') (ar f B') (ar f O) ia ib mg k k1) (MlR n lt f A' B' m0 κ st0) st:=by
 have m2:Mg n lt A' B' (O++[x]) (A1++[x]) la' B1 lb:=Mg.moveA C (l1:=[x]) (l2:=la') m λy hy=>by rw[List.mem_singleton.mp hy];exact hx
 have sz:(ar f A').size=A1.length+1+la'.length:=by rw[qb4,m.ea];simp;lia
 have l1:1<=la'.length:=List.length_pos_iff.mpr h2
 have l2:1<=lb.length:=List.length_pos_iff.mpr h3
 unfold mlC
 refine wpS_bind ?_
 have ee:=m.ea
 rw[ee]
 refine qda e1 ?_
 rw[←ee]
 rw[qf2,sz]
 by_cases hq:la'.length=1
 ·rw[if_pos (by simp;lia)]
  refine wpS_pure ⟨hs,.inl ⟨_,_,rfl,?_⟩⟩
  obtain⟨A0,hA0⟩:=hl
  obtain⟨y,rfl⟩:∃y,la'=[y]:=List.length_eq_one_iff.mp hq
  have:y=z:=by
   have:=ee
   rw[hA0] at this
   have e:=congrArg List.getLast? this
   simpa using e.symm
  subst this
  exact qey C hz m2 (by simp[e1]<;>lia) e2
 ·rw[if_neg (by simp;lia)]
  have fin:MlI n lt f A' B' (ar f (O++[x])) (ia+1) ib:=⟨_,_,_,_,_,rfl,m2,by simp[e1],e2,by lia,l2⟩
  split
  ·exact wpS_pure ⟨hs,.inr ⟨_,_,_,_,_,.inl rfl,fin,by lia⟩⟩
  ·exact wpS_pure ⟨hs,.inr ⟨_,_,_,_,_,.inr rfl,fin,by lia⟩⟩
theorem qqh{A0 A1 l:List Nat}{z:Nat}(e:A0++[z]=A1++l)(h:l≠[]):∃l0,l=l0++[z]:=by
 rcases List.eq_nil_or_concat l with q|⟨l0,y,q⟩
 ·exact absurd q h
 ·subst q
  rw[List.concat_eq_append,←List.append_assoc] at e
  have:=(List.append_inj' e rfl).2
  refine⟨l0,?_⟩
  rw[List.concat_eq_append,←this]
theorem q0s(hc:Asks prog w A s κ f n lt)(C:MgC n lt A' B'){z:Nat}(hz:∀y∈B',lt y z=true)(hl:∃A0,A'=A0++[z]){st0:SortSt}(hk:kindOf st0=κ)(hs:∃g,st=qa6 st0 g){m0:Nat}{x:Nat}{lb':List Nat}(m:Mg n lt A' B' O A1 la B1 (x::lb'))(hx:∀y∈la,lt y x=false)(h2:2<=la.length){ia ib mg k bc:Nat}(e1:ia=A1.length)(e2:ib=B1.length)(hm:m0<=ia+ib) :
  wpS (model prog w) A E s (mlB (ar f A') (ar f B') (ar f O) ia ib mg k bc) (MlR n lt f A' B' m0 κ st0) st:=by
 have m2:Mg n lt A' B' (O++[x]) A1 la (B1++[x]) lb':=Mg.moveB C (l1:=[x]) (l2:=lb') m λy hy=>by rw[List.mem_singleton.mp hy];exact hx
 have sz:(ar f B').size=B1.length+1+lb'.length:=by rw[qb4,m.eb];simp;lia
 unfold mlB
 refine wpS_bind ?_
 have ee:=m.eb
 rw[ee]
 refine qda e2 ?_
 rw[←ee]
 rw[qf2,sz]
 by_cases hq:lb'=[]
 ·subst hq
  rw[if_pos (by simp;lia)]
  exact wpS_pure ⟨hs,.inl ⟨_,_,rfl,qex C m2 e1 (by simp[e2]<;>lia)⟩⟩
 ·have p1:1<=lb'.length:=List.length_pos_iff.mpr hq
  rw[if_neg (by simp;lia)]
  obtain⟨y,la',rfl⟩:∃y la',la=y::la':=by
   cases la with
  |nil=>simp at h2
  |cons y la'=>exact⟨y,la',rfl⟩
  refine wpS_bind ?_
  have ea:=m.ea
  rw[ea]
  refine qda e1 ?_
  rw[←ea]
  have yn:y∈A':=m.ina (List.mem_cons_self ..)
  have hk':kindOf st=κ:=by
   obtain⟨g,rfl⟩:=hs
   exact hk
  refine wpS_bind ?_
  have eb:=m2.eb
  rw[eb,show B1++[x]++lb'=B1++[x]++(lb'++[]) by simp]
  refine qb7 hc C.L hk' (λu hu=>C.hb u (m2.inb hu)) (C.ha y yn) (m2.ulb C) (by lia) (by simp[e2]<;>lia) (by lia) λl1 l2 el b1 b2 _ _=>?_
  rw[show B1++[x]++(lb'++[])=B1++[x]++lb' by simp,←eb]
  subst el
  have la1:la'≠[]:=by
   intro e
   subst e
   simp at h2
  have up:=m.ula C
  have low:∀u∈l1,∀v∈y::la',lt v u=false:=λu hu=>qgt C.L (C.hb u (m2.inb (List.mem_append_left _ hu))) (λv hv=>C.ha v (m.ina hv)) up (b1 u hu)
  dsimp only
  by_cases h0:l1.length>0
  ·rw[if_pos h0]
   have m3:=Mg.moveB C m2 low
   have ex:(ar f B').extract (ib+1) (ib+1+l1.length)=ar f l1:=by
    rw[eb]
    exact qf1 (B1++[x]) l1 l2 (by simp[e2]<;>lia) (by simp[e2]<;>lia)
   rw[ex,qeq]
   by_cases h9:l2=[]
   ·subst h9
    rw[if_pos (by simp;lia)]
    exact wpS_pure ⟨hs,.inl ⟨_,_,rfl,qex C m3 e1 (by simp[e2]<;>lia)⟩⟩
   ·have:1<=l2.length:=List.length_pos_iff.mpr h9
    rw[if_neg (by simp;lia)]
    exact qvl hc C hz hl hk hs m3 b2 la1 h9 e1 (by simp[e2]<;>lia) (by lia)
  ·rw[if_neg h0]
   have:l1=[]:=List.length_eq_zero_iff.mp (by lia)
   subst this
   exact qvl hc C hz hl hk hs m2 b2 la1 hq e1 (by simp[e2]<;>lia) (by lia)
theorem q0r(hc:Asks prog w A s κ f n lt)(C:MgC n lt A' B'){z:Nat}(hz:∀y∈B',lt y z=true)(hl:∃A0,A'=A0++[z]){st0:SortSt}(hk:kindOf st0=κ)(hs:∃g,st=qa6 st0 g){out:Array Keyed}{ia ib mg ac bc:Nat}(h:MlI n lt f A' B' out ia ib) :
  wpS (model prog w) A E s (mlA (ar f A') (ar f B') out ia ib mg ac bc) (MlR n lt f A' B' (ia+ib) κ st0) st:=by
 obtain⟨O,A1,la,B1,lb,rfl,m,e1,e2,h2,h3⟩:=h
 unfold mlA
 refine wpS_bind ?_
 rw[qbu]
 refine wpS_modify ?_
 have hs':∃g,qa6 st mg=qa6 st0 g:=by
  obtain⟨g,rfl⟩:=hs
  exact⟨mg,rfl⟩
 generalize qa6 st mg=st' at hs'
 have hk':kindOf st'=κ:=by
  obtain⟨g,rfl⟩:=hs'
  exact hk
 have sz:(ar f A').size=A1.length+la.length:=by rw[qb4,m.ea];simp
 obtain⟨x,lb',rfl⟩:∃y l,lb=y::l:=by
  cases lb with
 |nil=>simp at h3
 |cons y l=>exact⟨y,l,rfl⟩
 have xn:x∈B':=m.inb (List.mem_cons_self ..)
 refine wpS_bind ?_
 have eb:=m.eb
 rw[eb]
 refine qda e2 ?_
 rw[←eb]
 refine wpS_bind ?_
 have ea:=m.ea
 rw[sz,ea,show A1++la=A1++(la++[]) by simp]
 refine qb7 hc C.L hk' (λu hu=>C.ha u (m.ina hu)) (C.hb x xn) (m.ula C) (by lia) e1 (by lia) λl1 l2 el b1 b2 _ _=>?_
 rw[show A1++(la++[])=A1++la by simp,←ea]
 subst el
 have ub:=m.ulb C
 have low:∀u∈l1,∀v∈x::lb',lt v u=false:=λu hu=>qgt C.L (C.ha u (m.ina (List.mem_append_left _ hu))) (λv hv=>C.hb v (m.inb hv)) ub (b1 u hu)
 have n2:l2≠[]:=λe=>by
  subst e
  obtain⟨A0,hA0⟩:=hl
  have zl:z∈l1:=by
   rw[List.append_nil] at ea
   obtain⟨l0,e0⟩:=qqh (hA0.symm.trans ea) (λe=>by subst e;simp at h2)
   rw[e0]
   simp
  have q1:=b1 z zl
  have q2:=hz x xn
  rw[q1] at q2
  cases q2
 have n2':1<=l2.length:=List.length_pos_iff.mpr n2
 dsimp only
 have fin:∀l1',l1'=l1->2<=l2.length->wpS (model prog w) A E s (mlB (ar f A') (ar f B') (ar f (O++l1')) (ia+l1'.length) ib mg l1.length bc) (MlR n lt f A' B' (ia+ib) κ st0) st':=λl1' e h=>by
  subst e
  exact q0s hc C hz hl hk hs' (Mg.moveA C m low) b2 h (by simp[e1]<;>lia) e2 (by lia)
 have lenA:(l1++l2).length=l1.length+l2.length:=by simp
 by_cases h0:l1.length>0
 ·rw[if_pos h0]
  have ex:(ar f A').extract ia (ia+l1.length)=ar f l1:=by
   rw[ea]
   exact qf1 A1 l1 l2 e1 (by simp[e1]<;>lia)
  rw[ex,qeq]
  by_cases h9:l2.length=1
  ·rw[if_pos (by simp;lia)]
   refine wpS_pure ⟨hs',.inl ⟨_,_,rfl,?_⟩⟩
   obtain⟨y,rfl⟩:∃y,l2=[y]:=List.length_eq_one_iff.mp h9
   obtain⟨A0,hA0⟩:=hl
   have:y=z:=by
    have e:=congrArg List.getLast? (hA0.symm.trans ea)
    rw[←List.append_assoc] at e
    simpa using e.symm
   subst this
   exact qey C hz (Mg.moveA C m low) (by simp[e1]<;>lia) e2
  ·rw[if_neg (by simp;lia),if_neg (by simp;lia)]
   exact fin l1 rfl (by lia)
 ·rw[if_neg h0]
  have:l1=[]:=List.length_eq_zero_iff.mp (by lia)
  subst this
  have:=fin [] rfl (by simpa using h2)
  simpa using this
theorem qoc(hc:Asks prog w A s κ f n lt)(C:MgC n lt A' B'){z:Nat}(hz:∀y∈B',lt y z=true)(hl:∃A0,A'=A0++[z])(hk:kindOf st=κ){b0:Nat}{B0:List Nat}(hb0:B'=b0::B0)(h0:∀y∈A',lt b0 y=true){Q:Array Keyed->SortSt->Prop}
  (h:∀r g,MgQ lt f A' B' r->Q r (qa6 st g)):wpS (model prog w) A E s (qij (ar f A') (ar f B')) Q st:=by
 have m:Mg n lt A' B' [b0] [] A' [b0] B0:={
  ea:=rfl
  eb:=hb0
  pm:=List.Perm.refl _
  up:=List.pairwise_singleton _ _
  ba:=λx hx y hy=>by rw[List.mem_singleton.mp hx];exact C.L.as _ _ (C.hb b0 (by rw[hb0];simp)) (C.ha y hy) (h0 y hy)
  bb:=λx hx y hy=>by
   rw[List.mem_singleton.mp hx]
   have u:=C.ub
   rw[hb0] at u
   exact List.rel_of_pairwise_cons u hy }
 have sa:(ar f A').size=A'.length:=qb4 _
 have sb:(ar f B').size=B0.length+1:=by rw[qb4,hb0];rfl
 have aP:1<=A'.length:=by
  obtain⟨A0,e⟩:=hl
  rw[e]
  simp
 rw[qlv]
 dsimp only
 refine wpS_bind (wpS_lift (wpAny_rule ⟨rfl,wpS_bind ?_⟩))
 have ew:ar f B'=ar f ([]++b0::B0):=by rw[hb0];rfl
 rw[ew]
 refine qda rfl ?_
 rw[←ew]
 by_cases hq:B0=[]
 ·subst hq
  rw[if_pos (by simp[sb])]
  refine wpS_pure (h _ (gallopOf st) ?_)
  have:=qex (f:=f) C m (ia:=0) (ib:=1) rfl rfl
  unfold qew at this
  exact this
 ·have bP:1<=B0.length:=List.length_pos_iff.mpr hq
  rw[if_neg (by simp[sb,sa]<;>lia)]
  by_cases hq2:A'.length=1
  ·rw[if_pos (by simp[sb,sa]<;>lia)]
   refine wpS_pure (h _ (gallopOf st) ?_)
   obtain⟨A0,e⟩:=hl
   have:A0=[]:=by
    rw[e] at hq2
    simp at hq2
    exact hq2
   subst this
   have:=qey (f:=f) C hz (by rw[e] at m;rw[e];exact m) (ia:=0) (ib:=1) rfl rfl
   unfold qhp at this
   exact this
  ·rw[if_neg (by simp[sb,sa]<;>lia)]
   refine wpS_bind (wpS_get ?_)
   refine wpS_bind (wpS_forRange (λk c st'=>(∃g,st'=qa6 st g)/\∃out ia ib mg,c=(none,out,ia,ib,mg)/\MlI n lt f A' B' out ia ib/\k<ia+ib) ?_ ?_ ⟨⟨gallopOf st,rfl⟩,_,_,_,_,rfl,⟨[b0],[],A',[b0],B0,rfl,m,rfl,rfl,by lia,bP⟩,by lia⟩)
   ·rintro k c st' - hkt ⟨hs,out,ia,ib,mg,rfl,hi,hk1⟩
    dsimp only
    refine wpS_bind (wpS_mono (Q:=λc st'=>(∃g,st'=qa6 st g)/\((∃x y,c=(some x,y)/\MgQ lt f A' B' x)\/∃out ia ib p,c=(none,out,ia,ib,p)/\MlI n lt f A' B' out ia ib/\k<ia+ib))
     (wpS_forRange (λ_ c st'=>(∃g,st'=qa6 st g)/\∃out ia ib ac bc,c=(none,out,ia,ib,ac,bc)/\MlI n lt f A' B' out ia ib/\k<ia+ib) ?_ ?_ ⟨hs,_,_,_,_,_,rfl,hi,hk1⟩) ?_)
    ·clear hs hi hk1
     rintro k1 c st' - - ⟨hs,out,ia,ib,ac,bc,rfl,⟨O,A1,la,B1,lb,rfl,m,e1,e2,h2,h3⟩,hk1⟩
     have hk':kindOf st'=κ:=by
      obtain⟨g,rfl⟩:=hs
      exact hk
     obtain⟨y,lb',rfl⟩:∃y l,lb=y::l:=by
      cases lb with
     |nil=>simp at h3
     |cons y l=>exact⟨y,l,rfl⟩
     obtain⟨x,la',rfl⟩:∃y l,la=y::l:=by
      cases la with
     |nil=>simp at h2
     |cons y l=>exact⟨y,l,rfl⟩
     have xn:=m.ina (List.mem_cons_self ..)
     have yn:=m.inb (List.mem_cons_self ..)
     have ua:=m.ula C
     have ub:=m.ulb C
     have ea:ar f A'=ar f (A1++x::la'):=by rw[←m.ea]
     have eb:ar f B'=ar f (B1++y::lb'):=by rw[←m.eb]
     have la2:A'.length=A1.length+1+la'.length:=by rw[m.ea];simp;lia
     have lb2:B0.length+1=B1.length+1+lb'.length:=by rw[←sb,qb4,m.eb];simp;lia
     dsimp only
     have getA:∀ {Q':Keyed->SortSt->Prop},Q' (f x) st'->wpS (model prog w) A E s (elem' (ar f A') ia) Q' st':=λq=>by
      rw[ea]
      exact qda e1 q
     have getB:∀ {Q':Keyed->SortSt->Prop},Q' (f y) st'->wpS (model prog w) A E s (elem' (ar f B') ib) Q' st':=λq=>by
      rw[eb]
      exact qda e2 q
     refine wpS_bind (getB (wpS_bind (getA (wpS_bind (qg5 hc hk' (C.hb y yn) (C.ha x xn) ?_)))))
     dsimp only
     cases hw:lt y x with
    |true =>
      rw[if_pos rfl]
      refine wpS_bind (getB ?_)
      have m2:=Mg.moveB C (l1:=[y]) (l2:=lb') m λu hu=>by rw[List.mem_singleton.mp hu];exact qgt C.L (C.hb y yn) (λv hv=>C.ha v (m.ina hv)) ua (C.L.as _ _ (C.hb y yn) (C.ha x xn) hw)
      rw[qf2]
      by_cases z1:lb'=[]
      ·subst z1
       simp only[List.length_nil] at lb2
       rw[if_pos (by simp[sb,sa]<;>lia)]
       refine wpS_pure ⟨hs,.inl ⟨_,_,rfl,?_⟩⟩
       have:=qex (f:=f) C m2 (ia:=ia) (ib:=ib+1) e1 (by simp[e2]<;>lia)
       unfold qew at this
       exact this
      ·have z2:1<=lb'.length:=List.length_pos_iff.mpr z1
       rw[if_neg (by simp[sb,sa]<;>lia)]
       have fin:MlI n lt f A' B' (ar f (O++[y])) ia (ib+1):=⟨_,_,_,_,_,rfl,m2,e1,by simp[e2]<;>lia,h2,z2⟩
       split
       ·exact wpS_pure ⟨hs,.inr ⟨_,_,_,_,rfl,fin,by lia⟩⟩
       ·exact wpS_pure ⟨hs,_,_,_,_,_,rfl,fin,by lia⟩
    |false =>
      rw[if_neg (by simp)]
      refine wpS_bind (getA ?_)
      have m2:=Mg.moveA C (l1:=[x]) (l2:=la') m λu hu=>by rw[List.mem_singleton.mp hu];exact qgt C.L (C.ha x xn) (λv hv=>C.hb v (m.inb hv)) ub hw
      rw[qf2]
      by_cases z1:la'.length=1
      ·rw[if_pos (by simp[sb,sa]<;>lia)]
       refine wpS_pure ⟨hs,.inl ⟨_,_,rfl,?_⟩⟩
       obtain⟨v,rfl⟩:∃v,la'=[v]:=List.length_eq_one_iff.mp z1
       obtain⟨A0,hA0⟩:=hl
       obtain⟨l0,e0⟩:=qqh (hA0.symm.trans m2.ea) (by simp)
       have:v=z:=by
        have:=congrArg List.getLast? e0
        simpa using this
       subst this
       have:=qey (f:=f) C hz m2 (ia:=ia+1) (ib:=ib) (by simp[e1]<;>lia) e2
       unfold qhp at this
       exact this
      ·have z2:2<=la'.length:=by simp at h2;lia
       rw[if_neg (by simp[sb,sa]<;>lia)]
       have fin:MlI n lt f A' B' (ar f (O++[x])) (ia+1) ib:=⟨_,_,_,_,_,rfl,m2,by simp[e1]<;>lia,e2,z2,h3⟩
       split
       ·exact wpS_pure ⟨hs,.inr ⟨_,_,_,_,rfl,fin,by lia⟩⟩
       ·exact wpS_pure ⟨hs,_,_,_,_,_,rfl,fin,by lia⟩
    ·rintro c st' ⟨hs,out,ia,ib,ac,bc,rfl,hi,hk1⟩
     exact⟨hs,.inr ⟨_,_,_,_,rfl,hi,hk1⟩⟩
    ·clear hs hi hk1
     rintro c st' ⟨hs,⟨x,y,rfl,hx⟩|⟨out,ia,ib,p,rfl,hi,hk1⟩⟩
     ·refine wpS_pure ?_
      obtain⟨g,rfl⟩:=hs
      exact wpS_pure (h _ _ hx)
     ·dsimp only
      refine wpS_bind (wpS_lift (wpAny_rule ⟨rfl,wpS_bind (wpS_mono (Q:=λc st'=>(∃g,st'=qa6 st g)/\((∃x y,c=(some x,y)/\MgQ lt f A' B' x)\/∃out ia ib p,c=(none,out,ia,ib,p)/\MlI n lt f A' B' out ia ib/\k+1<ia+ib)) (wpS_forRange (λj c st'=>(∃g,st'=qa6 st g)/\∃out ia ib mg ac bc,c=(none,out,ia,ib,mg,ac,bc)/\MlI n lt f A' B' out ia ib/\k+(if j=0 then 0 else 1)<ia+ib) ?_ ?_ ⟨hs,_,_,_,_,_,_,rfl,hi,hk1⟩) ?_)⟩))
      ·clear hs hi hk1
       rintro j c st' - - ⟨hs,out,ia,ib,mg,ac,bc,rfl,hi,hk1⟩
       have key:=λmg=>q0r (E:=E) (mg:=mg) (ac:=ac) (bc:=bc) hc C hz hl hk hs hi
       by_cases hm1:mg>1
       ·rw[if_pos hm1]
        refine wpS_mono (key (mg-1)) ?_
        rintro r st' ⟨hs',⟨x,y,rfl,hx⟩|⟨out,ia,ib,mg,p,rfl|rfl,hi',hm⟩⟩
        ·exact⟨hs',.inl ⟨_,_,rfl,hx⟩⟩
        ·exact⟨hs',.inr ⟨_,_,_,_,rfl,hi',by split at hk1<;>lia⟩⟩
        ·exact⟨hs',_,_,_,_,_,_,rfl,hi',by rw[if_neg (by lia)];split at hk1<;>lia⟩
       ·rw[if_neg hm1]
        refine wpS_mono (key mg) ?_
        rintro r st' ⟨hs',⟨x,y,rfl,hx⟩|⟨out,ia,ib,mg,p,rfl|rfl,hi',hm⟩⟩
        ·exact⟨hs',.inl ⟨_,_,rfl,hx⟩⟩
        ·exact⟨hs',.inr ⟨_,_,_,_,rfl,hi',by split at hk1<;>lia⟩⟩
        ·exact⟨hs',_,_,_,_,_,_,rfl,hi',by rw[if_neg (by lia)];split at hk1<;>lia⟩
      ·rintro c st' ⟨hs,out,ia,ib,mg,ac,bc,rfl,hi,hk1⟩
       refine⟨hs,.inr ⟨_,_,_,_,rfl,hi,?_⟩⟩
       rw[if_neg (by lia)] at hk1
       exact hk1
      ·clear hs hi hk1
       rintro c st' ⟨hs,⟨x,y,rfl,hx⟩|⟨out,ia,ib,p,rfl,hi,hk1⟩⟩
       ·refine wpS_pure ?_
        obtain⟨g,rfl⟩:=hs
        exact wpS_pure (h _ _ hx)
       ·dsimp only
        refine wpS_bind ?_
        rw[qbu]
        refine wpS_modify (wpS_pure ?_)
        obtain⟨g,rfl⟩:=hs
        exact⟨⟨_,rfl⟩,_,_,_,_,rfl,hi,hk1⟩
   ·rintro c st' ⟨hs,out,ia,ib,mg,rfl,⟨O,A1,la,B1,lb,rfl,m,e1,e2,h2,h3⟩,hk1⟩
    have la2:A'.length=A1.length+la.length:=by rw[m.ea];simp
    have lb2:B0.length+1=B1.length+lb.length:=by rw[←sb,qb4,m.eb];simp
    lia
end
end L2
namespace L2
open PySem PySem.W PyProof.Rows
def qii:Array Keyed->Array Keyed->StateT SortSt Sem (Array Keyed):=sortPriv% PySem.Builtin.mergeHi
theorem qlu(a b:Array Keyed):qii a b=(do
 rule "list.sort.merge-hi"
 let total:=a.size+b.size
 let done (out:Array Keyed) (na nb:Nat):=a.extract 0 na++b.extract 0 nb++out.reverse
 let firstOfB (out:Array Keyed) (na nb:Nat):=b.extract 0 nb++a.extract 0 na++out.reverse
 let mut na:=a.size-1
 let mut nb:=b.size
 let mut out:Array Keyed:=#[←elem' a na]
 if na==0 then return done out na nb
 if nb==1 then return firstOfB out na nb
 let mut minGallop:=gallopOf (←get)
 for _ in [0:total] do
  let mut acount:=0
  let mut bcount:=0
  for _ in [0:total] do
   let some aWins ←lt' (←elem' b (nb-1)) (←elem' a (na-1))|return done out na nb
   if aWins then
    na:=na-1;out:=out.push (←elem' a na);acount:=acount+1;bcount:=0
    if na==0 then return done out na nb
    if acount≥minGallop then break
   else
    nb:=nb-1;out:=out.push (←elem' b nb);bcount:=bcount+1;acount:=0
    if nb==1 then return firstOfB out na nb
    if bcount≥minGallop then break
  rule "list.sort.gallop"
  minGallop:=minGallop+1
  for _ in [0:total] do
   if minGallop>1 then minGallop:=minGallop-1
   qbe minGallop
   let some at_ ←qb6 false (←elem' b (nb-1)) a 0 na (na-1)|return done out na nb
   let k:=na-at_
   acount:=k
   if k>0 then
    out:=out++(a.extract at_ na).reverse;na:=at_
    if na==0 then return done out na nb
   nb:=nb-1;out:=out.push (←elem' b nb)
   if nb==1 then return firstOfB out na nb
   let some at_ ←qb6 true (←elem' a (na-1)) b 0 nb (nb-1)|return done out na nb
   let k:=nb-at_
   bcount:=k
   if k>0 then
    out:=out++(b.extract at_ nb).reverse;nb:=at_
    if nb==1 then return firstOfB out na nb
    if nb==0 then return done out na nb
   na:=na-1;out:=out.push (←elem' a na)
   if na==0 then return done out na nb
   if acount<7&&bcount<7 then break
  minGallop:=minGallop+1
  qbe minGallop
 unsupported "internal:list.sort.merge-bound"):=rfl
abbrev MhT:=Option (Array Keyed)×Nat×Nat×Array Keyed×Nat×Nat×Nat
def qgm(a b out:Array Keyed)(na nb:Nat):Array Keyed:=a.extract 0 na++b.extract 0 nb++out.reverse
def qik(a b out:Array Keyed)(na nb:Nat):Array Keyed:=b.extract 0 nb++a.extract 0 na++out.reverse
def mhC(a b out:Array Keyed)(na nb mg k k1:Nat):StateT SortSt Sem (ForInStep MhT):=do
 let x ←elem' a (na-1)
 if na-1==0 then pure (.done (some (qgm a b (out.push x) (na-1) nb),na-1,nb,out.push x,mg,k,k1))
 else if k<7&&k1<7 then pure (.done (none,na-1,nb,out.push x,mg,k,k1))
 else pure (.yield (none,na-1,nb,out.push x,mg,k,k1))
def mhB(a b out:Array Keyed)(na nb mg k bc:Nat):StateT SortSt Sem (ForInStep MhT):=do
 let x ←elem' b (nb-1)
 if nb-1==1 then pure (.done (some (qik a b (out.push x) na (nb-1)),na,nb-1,out.push x,mg,k,bc))
 else do
  let y ←elem' a (na-1)
  let r ←qb6 true y b 0 (nb-1) (nb-1-1)
  match r with
 |some k1 =>
   if nb-1-k1>0 then
    if k1==1 then pure (.done (some (qik a b (out.push x++(b.extract k1 (nb-1)).reverse) na k1),na,k1,out.push x++(b.extract k1 (nb-1)).reverse,mg,k,nb-1-k1))
    else if k1==0 then pure (.done (some (qgm a b (out.push x++(b.extract k1 (nb-1)).reverse) na k1),na,k1,out.push x++(b.extract k1 (nb-1)).reverse,mg,k,nb-1-k1))
    else mhC a b (out.push x++(b.extract k1 (nb-1)).reverse) na k1 mg k (nb-1-k1)
   else mhC a b (out.push x) na (nb-1) mg k (nb-1-k1)
 |_=>pure (.done (some (qgm a b (out.push x) na (nb-1)),na,nb-1,out.push x,mg,k,bc))
def mhA(a b out:Array Keyed)(na nb mg ac bc:Nat):StateT SortSt Sem (ForInStep MhT):=do
 qbe mg
 let x ←elem' b (nb-1)
 let r ←qb6 false x a 0 na (na-1)
 match r with
|some k =>
  if na-k>0 then
   if k==0 then pure (.done (some (qgm a b (out++(a.extract k na).reverse) k nb),k,nb,out++(a.extract k na).reverse,mg,na-k,bc))
   else mhB a b (out++(a.extract k na).reverse) k nb mg (na-k) bc
  else mhB a b out na nb mg (na-k) bc
|_=>pure (.done (some (qgm a b out na nb),na,nb,out,mg,ac,bc))
section
variable {prog:Program} {w:World} {A:Around} {E:Value->Shared->Prop} {s:Shared} {κ:SortKind} {f:Nat->Keyed} {n:Nat} {lt:Nat->Nat->Bool} {st:SortSt} {A' B':List Nat}
structure Mh(n:Nat)(lt:Nat->Nat->Bool)(A B O A1 la B1 lb:List Nat):Prop where
 ea:A=la++A1
 eb:B=lb++B1
 pm:O.Perm (A1++B1)
 up:Up lt O
 ba:∀y∈la,∀x∈O,lt x y=false
 bb:∀y∈lb,∀x∈O,lt x y=false
variable {O A1 la B1 lb:List Nat}
theorem Mh.moveA(C:MgC n lt A' B'){l1 l2:List Nat}(m:Mh n lt A' B' O A1 (l2++l1) B1 lb)(h:∀x∈l1,∀y∈lb,lt x y=false):Mh n lt A' B' (l1++O) (l1++A1) l2 B1 lb where
 ea:=by rw[m.ea];simp
 eb:=m.eb
 pm:=by
  rw[List.append_assoc]
  exact m.pm.append_left l1
 up:=by
  have u:=C.ua
  rw[m.ea] at u
  have u1:=(List.pairwise_append.mp (List.pairwise_append.mp u).1).2.1
  exact List.pairwise_append.mpr ⟨u1,m.up,λx hx y hy=>m.ba x (List.mem_append_right _ hx) y hy⟩
 ba:=λy hy x hx=>by
  rcases List.mem_append.mp hx with hx|hx
  ·have u:=C.ua
   rw[m.ea] at u
   exact(List.pairwise_append.mp (List.pairwise_append.mp u).1).2.2 y hy x hx
  ·exact m.ba y (List.mem_append_left _ hy) x hx
 bb:=λy hy x hx=>by
  rcases List.mem_append.mp hx with hx|hx
  ·exact h x hx y hy
  ·exact m.bb y hy x hx
theorem Mh.moveB(C:MgC n lt A' B'){l1 l2:List Nat}(m:Mh n lt A' B' O A1 la B1 (l2++l1))(h:∀x∈l1,∀y∈la,lt x y=false):Mh n lt A' B' (l1++O) A1 la (l1++B1) l2 where
 ea:=m.ea
 eb:=by rw[m.eb];simp
 pm:=by
  refine(m.pm.append_left l1).trans ?_
  rw[←List.append_assoc,←List.append_assoc]
  exact(List.perm_append_comm).append_right B1
 up:=by
  have u:=C.ub
  rw[m.eb] at u
  have u1:=(List.pairwise_append.mp (List.pairwise_append.mp u).1).2.1
  exact List.pairwise_append.mpr ⟨u1,m.up,λx hx y hy=>m.bb x (List.mem_append_right _ hx) y hy⟩
 ba:=λy hy x hx=>by
  rcases List.mem_append.mp hx with hx|hx
  ·exact h x hx y hy
  ·exact m.ba y hy x hx
 bb:=λy hy x hx=>by
  rcases List.mem_append.mp hx with hx|hx
  ·have u:=C.ub
   rw[m.eb] at u
   exact(List.pairwise_append.mp (List.pairwise_append.mp u).1).2.2 y hy x hx
  ·exact m.bb y (List.mem_append_left _ hy) x hx
theorem Mh.ula(C:MgC n lt A' B')(m:Mh n lt A' B' O A1 la B1 lb):Up lt la:=by
 have u:=C.ua
 rw[m.ea] at u
 exact(List.pairwise_append.mp u).1
theorem Mh.ulb(C:MgC n lt A' B')(m:Mh n lt A' B' O A1 la B1 lb):Up lt lb:=by
 have u:=C.ub
 rw[m.eb] at u
 exact(List.pairwise_append.mp u).1
theorem Mh.ina(m:Mh n lt A' B' O A1 la B1 lb){x:Nat}(h:x∈la):x∈A':=by rw[m.ea];exact List.mem_append_left _ h
theorem Mh.inb(m:Mh n lt A' B' O A1 la B1 lb){x:Nat}(h:x∈lb):x∈B':=by rw[m.eb];exact List.mem_append_left _ h
theorem Mh.endA(C:MgC n lt A' B')(m:Mh n lt A' B' O A1 [] B1 lb):(lb++O).Perm (A'++B')/\Up lt (lb++O):=by
 refine⟨?_,List.pairwise_append.mpr ⟨m.ulb C,m.up,m.bb⟩⟩
 rw[m.ea,m.eb]
 refine(m.pm.append_left lb).trans ?_
 rw[←List.append_assoc,←List.append_assoc]
 exact(List.perm_append_comm).append_right B1
theorem qgu(L:LtOk n lt){x y:Nat}{l:List Nat}(hx:x<n)(hl:∀z∈l++[y],z<n)(u:Up lt (l++[y]))(h:lt x y=false):∀z∈l++[y],lt x z=false:=λz hz=>by
 rcases List.mem_append.mp hz with hz'|hz'
 ·exact L.tr _ _ _ (hl z hz) (hl y (by simp)) hx ((List.pairwise_append.mp u).2.2 z hz' y (by simp)) h
 ·rw[List.mem_singleton.mp hz']
  exact h
theorem qpm(l:List Nat):(ar f l).reverse=ar f l.reverse:=by simp[ar]
theorem qh3(l m:List Nat){z:Nat}(hz:z=l.length):(ar f (l++m)).extract 0 z=ar f l:=qf1 [] l m rfl (by simpa using hz)
theorem qit(l:List Nat)(x:Nat):(ar f l.reverse).push (f x)=ar f ([x]++l).reverse:=by rw[qf2];simp
theorem qvu(l m:List Nat):ar f l.reverse++(ar f m).reverse=ar f (m++l).reverse:=by rw[qpm,qeq];simp
theorem qev(C:MgC n lt A' B')(m:Mh n lt A' B' O A1 [] B1 lb){na nb:Nat}(h1:na=0)(h2:nb=lb.length):MgQ lt f A' B' (qgm (ar f A') (ar f B') (ar f O.reverse) na nb):=by
 refine⟨lb++O,?_,m.endA C⟩
 unfold qgm
 rw[m.eb,qh3 lb B1 h2,h1,qpm,List.reverse_reverse]
 rw[show (ar f A').extract 0 0=#[] by simp]
 rw[Array.empty_append,qeq]
theorem qea(C:MgC n lt A' B'){z:Nat}(hz:∀y∈A',lt z y=true)(m:Mh n lt A' B' O A1 la B1 [z]){na nb:Nat}(h1:na=la.length)(h2:nb=1):MgQ lt f A' B' (qik (ar f A') (ar f B') (ar f O.reverse) na nb):=by
 have m2:Mh n lt A' B' (la++O) (la++A1) [] B1 [z]:=Mh.moveA C (l1:=la) (l2:=[]) (by rw[List.nil_append];exact m) λx hx y hy=>by
  rw[List.mem_singleton.mp hy]
  exact C.L.as _ _ (C.hb z (by rw[m.eb];simp)) (C.ha x (m.ina hx)) (hz x (m.ina hx))
 refine⟨[z]++(la++O),?_,m2.endA C⟩
 unfold qik
 rw[m.eb,qh3 [z] B1 h2,m.ea,qh3 la A1 h1,qpm,List.reverse_reverse,qeq,qeq,List.append_assoc]
def MhI(n:Nat)(lt:Nat->Nat->Bool)(f:Nat->Keyed)(A' B':List Nat)(na nb:Nat)(out:Array Keyed):Prop :=
 ∃O A1 la B1 lb,out=ar f O.reverse/\Mh n lt A' B' O A1 la B1 lb/\na=la.length/\nb=lb.length/\1<=la.length/\2<=lb.length
def MhR(n:Nat)(lt:Nat->Nat->Bool)(f:Nat->Keyed)(A' B':List Nat)(m0:Nat)(κ:SortKind)(st0:SortSt)(r:ForInStep MhT)(st:SortSt):Prop :=
 (∃g,st=qa6 st0 g)/\((∃x y,r=.done (some x,y)/\MgQ lt f A' B' x)\/(∃na nb out mg p,(r=.done (none,na,nb,out,mg,p)\/r=.yield (none,na,nb,out,mg,p))/\MhI n lt f A' B' na nb out/\na+nb<m0))
theorem conc{l:List Nat}(h:1<=l.length):∃l0 x,l=l0++[x]:=by
 rcases List.eq_nil_or_concat l with q|⟨l0,y,q⟩
 ·subst q;simp at h
 ·exact⟨l0,y,by rw[q,List.concat_eq_append]⟩
theorem qcm{pre post:List Nat}{x k:Nat}{l:List Nat}(e:l=pre++[x]++post)(hk:k=pre.length){Q:Keyed->SortSt->Prop}{M:Model}(h:Q (f x) st):wpS M A E s (elem' (ar f l) k) Q st:=by
 rw[e,List.append_assoc,List.singleton_append]
 exact qda hk h
theorem qvk(C:MgC n lt A' B'){st0:SortSt}(hs:∃g,st=qa6 st0 g){m0:Nat}{x:Nat}{la':List Nat}(m:Mh n lt A' B' O A1 (la'++[x]) B1 lb)(hx:∀y∈lb,lt x y=false)(h3:2<=lb.length){na nb mg k k1:Nat}(e1:na=la'.length+1)(e2:nb=lb.length)(hm:na+nb<=m0) :
  wpS (model prog w) A E s (mhC (ar f A') (ar f B') (ar f O.reverse) na nb mg k k1) (MhR n lt f A' B' m0 κ st0) st:=by
 have m2:Mh n lt A' B' ([x]++O) ([x]++A1) la' B1 lb:=Mh.moveA C (l1:=[x]) (l2:=la') m λy hy=>by rw[List.mem_singleton.mp hy];exact hx
 unfold mhC
 refine wpS_bind (qcm m.ea (by lia) ?_)
 rw[qit]
 by_cases hq:la'=[]
 ·subst hq
  simp only[List.length_nil] at e1
  rw[if_pos (by simp[e1])]
  exact wpS_pure ⟨hs,.inl ⟨_,_,rfl,qev C m2 (by lia) e2⟩⟩
 ·have l1:1<=la'.length:=List.length_pos_iff.mpr hq
  rw[if_neg (by simp[e1]<;>lia)]
  have fin:MhI n lt f A' B' (na-1) nb (ar f ([x]++O).reverse):=⟨_,_,_,_,_,rfl,m2,by lia,e2,l1,h3⟩
  split
  ·exact wpS_pure ⟨hs,.inr ⟨_,_,_,_,_,.inl rfl,fin,by lia⟩⟩
  ·exact wpS_pure ⟨hs,.inr ⟨_,_,_,_,_,.inr rfl,fin,by lia⟩⟩
theorem qvj(hc:Asks prog w A s κ f n lt)(C:MgC n lt A' B'){z:Nat}(hz:∀y∈A',lt z y=true){B0:List Nat}(hl:B'=z::B0){st0:SortSt}(hk:kindOf st0=κ)(hs:∃g,st=qa6 st0 g){m0:Nat}{x:Nat}{lb':List Nat}(m:Mh n lt A' B' O A1 la B1 (lb'++[x]))(hx:∀y∈la,lt x y=false)(h2:1<=la.length)(h3:1<=lb'.length){na nb mg k bc:Nat}(e1:na=la.length)(e2:nb=lb'.length+1)(hm:na+nb<=m0) :
  wpS (model prog w) A E s (mhB (ar f A') (ar f B') (ar f O.reverse) na nb mg k bc) (MhR n lt f A' B' m0 κ st0) st:=by
 have m2:Mh n lt A' B' ([x]++O) A1 la ([x]++B1) lb':=Mh.moveB C (l1:=[x]) (l2:=lb') m λy hy=>by rw[List.mem_singleton.mp hy];exact hx
 have hz1:∀ {l1 l2:List Nat} {O' A1' la':List Nat},Mh n lt A' B' O' A1' la' l2 l1->1<=l1.length->∃l0,l1=z::l0:=λ{l1 l2 O' A1' la'} mm hh=>by
  cases l1 with
 |nil=>simp at hh
 |cons u l0 =>
   have:=mm.eb
   rw[hl] at this
   have:=(List.cons.inj this).1
   exact⟨l0,by rw[this]⟩
 unfold mhB
 refine wpS_bind (qcm m.eb (by lia) ?_)
 rw[qit]
 obtain⟨l0,hl0⟩:=hz1 m2 h3
 by_cases hq:lb'.length=1
 ·rw[if_pos (by simp[e2]<;>lia)]
  have:l0=[]:=by
   rw[hl0] at hq
   simpa using hq
  subst this
  rw[hl0] at m2
  exact wpS_pure ⟨hs,.inl ⟨_,_,rfl,qea C hz m2 e1 (by lia)⟩⟩
 ·rw[if_neg (by simp[e2]<;>lia)]
  obtain⟨la',y,rfl⟩:=conc h2
  have hk':kindOf st=κ:=by
   obtain⟨g,rfl⟩:=hs
   exact hk
  have yn:y∈A':=m.ina (by simp)
  refine wpS_bind (qcm m.ea (by simp[e1]) (wpS_bind ?_))
  have eb:=m2.eb
  have eb':ar f B'=ar f ([]++(lb'++([x]++B1))):=by rw[eb];rfl
  rw[eb']
  refine qb7 hc C.L hk' (λu hu=>C.hb u (m2.inb hu)) (C.ha y yn) (m2.ulb C) (by lia) rfl (by lia) λl1 l2 el b1 b2 _ _=>?_
  rw[←eb']
  subst el
  have up:=m.ula C
  have low:∀u∈l2,∀v∈la'++[y],lt u v=false:=λu hu=>qgu C.L (C.hb u (m2.inb (List.mem_append_right _ hu))) (λv hv=>C.ha v (m.ina hv)) up (b2 u hu)
  have len:(l1++l2).length=l1.length+l2.length:=by simp
  have l1p:1<=l1.length:=by
   cases l1 with
  |nil =>
    exfalso
    have zl:z∈l2:=by
     rw[List.nil_append] at hl0
     rw[hl0]
     simp
    have q1:=b2 z zl
    have q2:=hz y yn
    rw[q1] at q2
    cases q2
  |cons u l=>simp
  have la1:na=la'.length+1:=by rw[e1];simp
  dsimp only
  by_cases h0:nb-1-l1.length>0
  ·rw[if_pos h0]
   have m3:=Mh.moveB C m2 low
   have ex:(ar f B').extract l1.length (nb-1)=ar f l2:=by
    rw[eb,List.append_assoc]
    exact qf1 l1 l2 _ rfl (by lia)
   rw[ex,qvu]
   by_cases h9:l1.length=1
   ·rw[if_pos (by simp[h9])]
    obtain⟨l0',hl0'⟩:=hz1 m3 l1p
    have:l0'=[]:=by
     rw[hl0'] at h9
     simpa using h9
    subst this
    rw[hl0'] at m3 ⊢
    exact wpS_pure ⟨hs,.inl ⟨_,_,rfl,qea C hz m3 e1 rfl⟩⟩
   ·rw[if_neg (by simp[h9]),if_neg (λe=>by have:=eq_of_beq e;lia)]
    exact qvk C hs m3 b1 (by lia) la1 rfl (by lia)
  ·rw[if_neg h0]
   have:l2=[]:=List.length_eq_zero_iff.mp (by lia)
   subst this
   refine qvk C hs m2 (λv hv=>b1 v (by simpa using hv)) (by lia) la1 (by lia) (by lia)
theorem q0q(hc:Asks prog w A s κ f n lt)(C:MgC n lt A' B'){z:Nat}(hz:∀y∈A',lt z y=true){B0:List Nat}(hl:B'=z::B0){st0:SortSt}(hk:kindOf st0=κ)(hs:∃g,st=qa6 st0 g){out:Array Keyed}{na nb mg ac bc:Nat}(h:MhI n lt f A' B' na nb out) :
  wpS (model prog w) A E s (mhA (ar f A') (ar f B') out na nb mg ac bc) (MhR n lt f A' B' (na+nb) κ st0) st:=by
 obtain⟨O,A1,la,B1,lb,rfl,m,e1,e2,h2,h3⟩:=h
 unfold mhA
 refine wpS_bind ?_
 rw[qbu]
 refine wpS_modify ?_
 have hs':∃g,qa6 st mg=qa6 st0 g:=by
  obtain⟨g,rfl⟩:=hs
  exact⟨mg,rfl⟩
 generalize qa6 st mg=st' at hs'
 have hk':kindOf st'=κ:=by
  obtain⟨g,rfl⟩:=hs'
  exact hk
 obtain⟨lb',x,rfl⟩:=conc (show 1<=lb.length by lia)
 have xn:x∈B':=m.inb (by simp)
 have lb1:(lb'++[x]).length=lb'.length+1:=by simp
 refine wpS_bind (qcm m.eb (by lia) (wpS_bind ?_))
 have ea:=m.ea
 have ea':ar f A'=ar f ([]++(la++A1)):=by rw[ea];rfl
 rw[ea']
 refine qb7 hc C.L hk' (λu hu=>C.ha u (m.ina hu)) (C.hb x xn) (m.ula C) (by lia) rfl (by lia) λl1 l2 el b1 b2 _ _=>?_
 rw[←ea']
 subst el
 have ub:=m.ulb C
 have low:∀u∈l2,∀v∈lb'++[x],lt u v=false:=λu hu=>qgu C.L (C.ha u (m.ina (List.mem_append_right _ hu))) (λv hv=>C.hb v (m.inb hv)) ub (b2 u hu)
 have len:(l1++l2).length=l1.length+l2.length:=by simp
 dsimp only
 by_cases h0:na-l1.length>0
 ·rw[if_pos h0]
  have m3:=Mh.moveA C m low
  have ex:(ar f A').extract l1.length na=ar f l2:=by
   rw[ea,List.append_assoc]
   exact qf1 l1 l2 _ rfl (by lia)
  rw[ex,qvu]
  by_cases h9:l1=[]
  ·subst h9
   rw[if_pos (by simp)]
   exact wpS_pure ⟨hs',.inl ⟨_,_,rfl,qev C m3 rfl e2⟩⟩
  ·have l1p:1<=l1.length:=List.length_pos_iff.mpr h9
   rw[if_neg (by simp[h9])]
   exact qvj hc C hz hl hk hs' m3 b1 l1p (by lia) rfl (by lia) (by lia)
 ·rw[if_neg h0]
  have:l2=[]:=List.length_eq_zero_iff.mp (by lia)
  subst this
  exact qvj hc C hz hl hk hs' m (λv hv=>b1 v (by simpa using hv)) h2 (by lia) e1 (by lia) (by lia)
theorem qob(hc:Asks prog w A s κ f n lt)(C:MgC n lt A' B'){z:Nat}(hz:∀y∈A',lt z y=true){B0:List Nat}(hl:B'=z::B0)(hk:kindOf st=κ){a0:Nat}{A0:List Nat}(ha0:A'=A0++[a0])(h0:∀y∈B',lt y a0=true){Q:Array Keyed->SortSt->Prop}
  (h:∀r g,MgQ lt f A' B' r->Q r (qa6 st g)):wpS (model prog w) A E s (qii (ar f A') (ar f B')) Q st:=by
 have m:Mh n lt A' B' [a0] [a0] A0 [] B':={
  ea:=ha0
  eb:=by simp
  pm:=List.Perm.refl _
  up:=List.pairwise_singleton _ _
  ba:=λy hy x hx=>by
   rw[List.mem_singleton.mp hx]
   have u:=C.ua
   rw[ha0] at u
   exact(List.pairwise_append.mp u).2.2 y hy a0 (by simp)
  bb:=λy hy x hx=>by rw[List.mem_singleton.mp hx];exact C.L.as _ _ (C.hb y hy) (C.ha a0 (by rw[ha0];simp)) (h0 y hy) }
 have sa:(ar f A').size=A0.length+1:=by rw[qb4,ha0];simp
 have sb:(ar f B').size=B'.length:=qb4 _
 have bP:1<=B'.length:=by rw[hl];simp
 have na0:(ar f A').size-1=A0.length:=by lia
 rw[qlu]
 dsimp only
 refine wpS_bind (wpS_lift (wpAny_rule ⟨rfl,wpS_bind (qcm (x:=a0) (pre:=A0) (post:=[]) (by rw[ha0];simp) na0 ?_)⟩))
 have o1:#[f a0]=ar f [a0].reverse:=rfl
 rw[o1]
 by_cases hq:A0=[]
 ·subst hq
  simp only[List.length_nil] at na0
  rw[if_pos (by simp[na0])]
  exact wpS_pure (h _ (gallopOf st) (qev C m na0 sb))
 ·have aP:1<=A0.length:=List.length_pos_iff.mpr hq
  rw[if_neg (by simp[na0]<;>lia)]
  by_cases hq2:B'.length=1
  ·rw[if_pos (by simp[sb]<;>lia)]
   have:B0=[]:=by
    rw[hl] at hq2
    simpa using hq2
   subst this
   have:=qea (f:=f) C hz (by rw[hl] at m ⊢;exact m) na0 (sb.trans hq2)
   exact wpS_pure (h _ (gallopOf st) this)
  ·rw[if_neg (by simp[sb]<;>lia)]
   refine wpS_bind (wpS_get ?_)
   refine wpS_bind (wpS_forRange (λk c st'=>(∃g,st'=qa6 st g)/\∃na nb out mg,c=(none,na,nb,out,mg)/\MhI n lt f A' B' na nb out/\na+nb+k<(ar f A').size+(ar f B').size) ?_ ?_ ⟨⟨gallopOf st,rfl⟩,_,_,_,_,rfl,⟨[a0],[a0],A0,[],B',rfl,m,na0,sb,aP,by lia⟩,by lia⟩)
   ·rintro k c st' - hkt ⟨hs,na,nb,out,mg,rfl,hi,hk1⟩
    dsimp only
    refine wpS_bind (wpS_mono (Q:=λc st'=>(∃g,st'=qa6 st g)/\((∃x y,c=(some x,y)/\MgQ lt f A' B' x)\/∃na nb out p,c=(none,na,nb,out,p)/\MhI n lt f A' B' na nb out/\na+nb+k<(ar f A').size+(ar f B').size))
     (wpS_forRange (λ_ c st'=>(∃g,st'=qa6 st g)/\∃na nb out ac bc,c=(none,na,nb,out,ac,bc)/\MhI n lt f A' B' na nb out/\na+nb+k<(ar f A').size+(ar f B').size) ?_ ?_ ⟨hs,_,_,_,_,_,rfl,hi,hk1⟩) ?_)
    ·clear hs hi hk1
     rintro k1 c st' - - ⟨hs,na,nb,out,ac,bc,rfl,⟨O,A1,la,B1,lb,rfl,m,e1,e2,h2,h3⟩,hk1⟩
     have hk':kindOf st'=κ:=by
      obtain⟨g,rfl⟩:=hs
      exact hk
     obtain⟨la',x,rfl⟩:=conc h2
     obtain⟨lb',y,rfl⟩:=conc (show 1<=lb.length by lia)
     have xn:x∈A':=m.ina (by simp)
     have yn:y∈B':=m.inb (by simp)
     have ua:=m.ula C
     have ub:=m.ulb C
     have la2:(la'++[x]).length=la'.length+1:=by simp
     have lb2:(lb'++[y]).length=lb'.length+1:=by simp
     dsimp only
     have getA:∀ {Q':Keyed->SortSt->Prop},Q' (f x) st'->wpS (model prog w) A E s (elem' (ar f A') (na-1)) Q' st':=λq=>qcm m.ea (by lia) q
     have getB:∀ {Q':Keyed->SortSt->Prop},Q' (f y) st'->wpS (model prog w) A E s (elem' (ar f B') (nb-1)) Q' st':=λq=>qcm m.eb (by lia) q
     refine wpS_bind (getB (wpS_bind (getA (wpS_bind (qg5 hc hk' (C.hb y yn) (C.ha x xn) ?_)))))
     dsimp only
     cases hw:lt y x with
    |true =>
      rw[if_pos rfl]
      refine wpS_bind (getA ?_)
      have m2:=Mh.moveA C (l1:=[x]) (l2:=la') m λu hu=>by rw[List.mem_singleton.mp hu];exact qgu C.L (C.ha x xn) (λv hv=>C.hb v (m.inb hv)) ub (C.L.as _ _ (C.hb y yn) (C.ha x xn) hw)
      rw[qit]
      by_cases z1:la'=[]
      ·subst z1
       simp only[List.nil_append,List.length_singleton] at e1
       rw[if_pos (by simp[e1])]
       exact wpS_pure ⟨hs,.inl ⟨_,_,rfl,qev C m2 (by lia) e2⟩⟩
      ·have z2:1<=la'.length:=List.length_pos_iff.mpr z1
       rw[if_neg (λe=>by have:=eq_of_beq e;lia)]
       have fin:MhI n lt f A' B' (na-1) nb (ar f ([x]++O).reverse):=⟨_,_,_,_,_,rfl,m2,by lia,e2,z2,h3⟩
       split
       ·exact wpS_pure ⟨hs,.inr ⟨_,_,_,_,rfl,fin,by lia⟩⟩
       ·exact wpS_pure ⟨hs,_,_,_,_,_,rfl,fin,by lia⟩
    |false =>
      rw[if_neg (by simp)]
      refine wpS_bind (getB ?_)
      have m2:=Mh.moveB C (l1:=[y]) (l2:=lb') m λu hu=>by rw[List.mem_singleton.mp hu];exact qgu C.L (C.hb y yn) (λv hv=>C.ha v (m.ina hv)) ua hw
      rw[qit]
      by_cases z1:lb'.length=1
      ·rw[if_pos (beq_iff_eq.mpr (by lia))]
       obtain⟨v,rfl⟩:∃v,lb'=[v]:=List.length_eq_one_iff.mp z1
       have:v=z:=by
        have:=m2.eb
        rw[hl] at this
        exact(List.cons.inj this).1.symm
       subst this
       exact wpS_pure ⟨hs,.inl ⟨_,_,rfl,qea C hz m2 e1 (by lia)⟩⟩
      ·have z2:2<=lb'.length:=by lia
       rw[if_neg (λe=>by have:=eq_of_beq e;lia)]
       have fin:MhI n lt f A' B' na (nb-1) (ar f ([y]++O).reverse):=⟨_,_,_,_,_,rfl,m2,e1,by lia,h2,z2⟩
       split
       ·exact wpS_pure ⟨hs,.inr ⟨_,_,_,_,rfl,fin,by lia⟩⟩
       ·exact wpS_pure ⟨hs,_,_,_,_,_,rfl,fin,by lia⟩
    ·rintro c st' ⟨hs,na,nb,out,ac,bc,rfl,hi,hk1⟩
     exact⟨hs,.inr ⟨_,_,_,_,rfl,hi,hk1⟩⟩
    ·clear hs hi hk1
     rintro c st' ⟨hs,⟨x,y,rfl,hx⟩|⟨na,nb,out,p,rfl,hi,hk1⟩⟩
     ·refine wpS_pure ?_
      obtain⟨g,rfl⟩:=hs
      exact wpS_pure (h _ _ hx)
     ·dsimp only
      refine wpS_bind (wpS_lift (wpAny_rule ⟨rfl,wpS_bind (wpS_mono (Q:=λc st'=>(∃g,st'=qa6 st g)/\((∃x y,c=(some x,y)/\MgQ lt f A' B' x)\/∃na nb out p,c=(none,na,nb,out,p)/\MhI n lt f A' B' na nb out/\na+nb+(k+1)<(ar f A').size+(ar f B').size)) (wpS_forRange (λj c st'=>(∃g,st'=qa6 st g)/\∃na nb out mg ac bc,c=(none,na,nb,out,mg,ac,bc)/\MhI n lt f A' B' na nb out/\na+nb+(k+(if j=0 then 0 else 1))<(ar f A').size+(ar f B').size) ?_ ?_ ⟨hs,_,_,_,_,_,_,rfl,hi,hk1⟩) ?_)⟩))
      ·clear hs hi hk1
       rintro j c st' - - ⟨hs,na,nb,out,mg,ac,bc,rfl,hi,hk1⟩
       have key:=λmg=>q0q (E:=E) (mg:=mg) (ac:=ac) (bc:=bc) hc C hz hl hk hs hi
       by_cases hm1:mg>1
       ·rw[if_pos hm1]
        refine wpS_mono (key (mg-1)) ?_
        rintro r st' ⟨hs',⟨x,y,rfl,hx⟩|⟨na,nb,out,mg,p,rfl|rfl,hi',hm⟩⟩
        ·exact⟨hs',.inl ⟨_,_,rfl,hx⟩⟩
        ·exact⟨hs',.inr ⟨_,_,_,_,rfl,hi',by split at hk1<;>lia⟩⟩
        ·exact⟨hs',_,_,_,_,_,_,rfl,hi',by rw[if_neg (by lia)];split at hk1<;>lia⟩
       ·rw[if_neg hm1]
        refine wpS_mono (key mg) ?_
        rintro r st' ⟨hs',⟨x,y,rfl,hx⟩|⟨na,nb,out,mg,p,rfl|rfl,hi',hm⟩⟩
        ·exact⟨hs',.inl ⟨_,_,rfl,hx⟩⟩
        ·exact⟨hs',.inr ⟨_,_,_,_,rfl,hi',by split at hk1<;>lia⟩⟩
        ·exact⟨hs',_,_,_,_,_,_,rfl,hi',by rw[if_neg (by lia)];split at hk1<;>lia⟩
      ·rintro c st' ⟨hs,na,nb,out,mg,ac,bc,rfl,hi,hk1⟩
       refine⟨hs,.inr ⟨_,_,_,_,rfl,hi,?_⟩⟩
       rw[if_neg (by lia)] at hk1
       exact hk1
      ·clear hs hi hk1
       rintro c st' ⟨hs,⟨x,y,rfl,hx⟩|⟨na,nb,out,p,rfl,hi,hk1⟩⟩
       ·refine wpS_pure ?_
        obtain⟨g,rfl⟩:=hs
        exact wpS_pure (h _ _ hx)
       ·dsimp only
        refine wpS_bind ?_
        rw[qbu]
        refine wpS_modify (wpS_pure ?_)
        obtain⟨g,rfl⟩:=hs
        exact⟨⟨_,rfl⟩,_,_,_,_,rfl,hi,hk1⟩
   ·rintro c st' ⟨hs,na,nb,out,mg,rfl,hi,hk1⟩
    lia
end
end L2
namespace L2
open PySem PySem.W PyProof.Rows
section
variable {prog:Program} {w:World} {A:Around} {E:Value->Shared->Prop} {s:Shared} {κ:SortKind} {f:Nat->Keyed} {n:Nat} {lt:Nat->Nat->Bool} {st:SortSt} {p:Array Nat}
structure PermOk(n:Nat)(p:Array Nat):Prop where
 sz:p.size=n
 lt:∀i,i<n->p.getD i 0<n
 inj:∀i j,i<n->j<n->p.getD i 0=p.getD j 0->i=j
theorem qb8(p:Array Nat)(i:Nat):p.getD i 0=(p[i]?).getD 0:=by
 by_cases h:i<p.size
 ·simp[Array.getD,h]
 ·simp[Array.getD,h]
theorem PermOk.of(hp:p.Perm (List.range n).toArray):PermOk n p where
 sz:=by rw[hp.size_eq];simp
 lt:=λi hi=>by
  have hs:p.size=n:=by rw[hp.size_eq];simp
  have hm:p[i]'(by lia)∈p:=Array.getElem_mem _
  have:p[i]'(by lia)∈(List.range n).toArray:=hp.mem_iff.mp hm
  rw[qb8,Array.getElem?_eq_getElem (by lia)]
  simpa using this
 inj:=λi j hi hj e=>by
  have hs:p.size=n:=by rw[hp.size_eq];simp
  have nd:p.toList.Nodup:=by
   have:=hp.toList
   rw[this.nodup_iff]
   simp[List.nodup_range]
  rw[qb8,qb8,Array.getElem?_eq_getElem (by lia),Array.getElem?_eq_getElem (by lia)] at e
  have e':p.toList[i]'(by simp;lia)=p.toList[j]'(by simp;lia):=by simpa using e
  exact(List.getElem_inj nd).mp e'
def SPl(lt:Nat->Nat->Bool)(p:Array Nat)(lo k:Nat):Prop:=∀i j,lo<=i->i<j->j<lo+k->lt (p.getD j 0) (p.getD i 0)=false
def DPl(lt:Nat->Nat->Bool)(p:Array Nat)(lo k:Nat):Prop:=∀i j,lo<=i->i<j->j<lo+k->lt (p.getD i 0) (p.getD j 0)=false
theorem qdr(hc:Asks prog w A s κ f n lt)(hk:kindOf st=κ)(P:PermOk n p)(ha:arrOf st=p.map f){i j:Nat}(hi:i<n)(hj:j<n){Q:Option Bool->SortSt->Prop}(h:Q (some (lt (p.getD i 0) (p.getD j 0))) st):wpS (model prog w) A E s (ltAt' i j) Q st:=by
 have g:∀i,i<n->(arrOf st)[i]?=some (f (p.getD i 0)):=λi hi=>by
  have hz:i<p.size:=by rw[P.sz];exact hi
  rw[ha,qb8]
  simp[hz]
 rw[ltAt'_eq]
 refine wpS_bind (wpS_get ?_)
 show wpS _ _ _ _ (do let x ←elem' (arrOf st) i;let y ←elem' (arrOf st) j;lt' x y) Q st
 rw[elem'_eq,elem'_eq,g i hi,g j hj]
 exact wpS_bind (wpS_pure (wpS_bind (wpS_pure (qg5 hc hk (P.lt i hi) (P.lt j hj) h))))
theorem qkf(u v:Nat->Nat)(l:List Nat)(xs:Array Nat):l.foldl (λa k=>a.swapIfInBounds (u k) (v k)) (xs.map f)=(l.foldl (λa k=>a.swapIfInBounds (u k) (v k)) xs).map f:=kas_swaps_map f u v l xs
theorem qi7(ha:arrOf st=p.map f){i j:Nat}{Q:Unit->SortSt->Prop}(h:Q () (setArr st ((mirror p i j ((j-i) / 2)).map f))):wpS (model prog w) A E s (reverseSlice' i j) Q st:=by
 rw[reverseSlice'_eq]
 refine wpS_modify ?_
 have e:mirror (arrOf st) i j ((j-i) / 2)=(mirror p i j ((j-i) / 2)).map f:=by rw[ha];exact qkf (λk=>i+k) (λk=>j-1-k) _ p
 rw[e]
 exact h
theorem qu7(ha:arrOf st=p.map f){k l:Nat}{Q:Unit->SortSt->Prop}(h:Q () (setArr st ((bubble p k (k-l)).map f))):wpS (model prog w) A E s (moveDown' k l) Q st:=by
 rw[moveDown'_eq]
 refine wpS_modify ?_
 have e:bubble (arrOf st) k (k-l)=(bubble p k (k-l)).map f:=by rw[ha];exact qkf (λi=>k-i) (λi=>k-i-1) _ p
 rw[e]
 exact h
theorem SPl.snoc(L:LtOk n lt)(P:PermOk n p){lo k:Nat}(h:SPl lt p lo k)(hk:lo+k<n)(h1:1<=k)(e:lt (p.getD (lo+k) 0) (p.getD (lo+k-1) 0)=false):SPl lt p lo (k+1):=λi j h0 hi hj=>by
 have l1:=e
 by_cases hjk:j=lo+k
 ·subst hjk
  by_cases hik:i=lo+k-1
  ·rw[hik];exact l1
  ·exact L.tr _ _ _ (P.lt i (by lia)) (P.lt (lo+k-1) (by lia)) (P.lt (lo+k) hk) (h i (lo+k-1) h0 (by lia) (by lia)) l1
 ·exact h i j h0 hi (by lia)
theorem qbl{i j:Nat}(hj:j<=p.size)(k:Nat):(mirror p i j ((j-i) / 2)).getD k 0=if i<=k/\k<j then p.getD (i+j-1-k) 0 else p.getD k 0:=by
 rw[qb8,getElem?_mirror_all hj k]
 by_cases h:i<=k/\k<j
 ·rw[if_pos h,if_pos h,qb8]
 ·rw[if_neg h,if_neg h,qb8]
theorem qyw{lo k:Nat}(hj:lo+k<=p.size)(h:DPl lt p lo k):SPl lt (mirror p lo (lo+k) ((lo+k-lo) / 2)) lo k:=λa b h0 hab hb=>by
 rw[qbl hj,qbl hj,if_pos (by lia),if_pos (by lia)]
 exact h _ _ (by lia) (by lia) (by lia)
def RunQ(n:Nat)(lt:Nat->Nat->Bool)(f:Nat->Keyed)(lo:Nat)(p:Array Nat)(st:SortSt)(m:Nat)(st':SortSt):Prop :=
 ∃q:Array Nat,st'=setArr st (q.map f)/\q.Perm p/\(∀i,i<lo->q.getD i 0=p.getD i 0)/\SPl lt q lo m
theorem qel{a:Array Keyed}(ha:arrOf st=a):setArr st a=st:=by subst ha;rfl
theorem DPl.snoc2(L:LtOk n lt)(P:PermOk n p){lo k:Nat}(h:DPl lt p lo k)(hk:lo+k<n)(h1:1<=k)(e:lt (p.getD (lo+k-1) 0) (p.getD (lo+k) 0)=false):DPl lt p lo (k+1):=λi j h0 hi hj=>by
 by_cases hjk:j=lo+k
 ·subst hjk
  by_cases hik:i=lo+k-1
  ·rw[hik];exact e
  ·exact L.tr _ _ _ (P.lt (lo+k) hk) (P.lt (lo+k-1) (by lia)) (P.lt i (by lia)) e (h i (lo+k-1) h0 (by lia) (by lia))
 ·exact h i j h0 hi (by lia)
def qwj(lo nrem n0:Nat):StateT SortSt Sem (Option Nat):=do
 reverseSlice' lo (lo+n0)
 let mut n:=n0
 for _ in [n0:nrem] do
  let some smaller ←ltAt' (lo+n) (lo+n-1)|return none
  if smaller then break
  n:=n+1
 return some n
def qpv(lo nrem n0:Nat):StateT SortSt Sem (Option Nat):=do
 rule "list.sort.descending-run"
 let mut n:=n0+1
 let mut neq:=0
 for _ in [n:nrem] do
  let some smaller ←ltAt' (lo+n) (lo+n-1)|return none
  if smaller then
   if neq>0 then reverseSlice' (lo+n-(neq+1)) (lo+n)
   neq:=0
  else
   let some larger ←ltAt' (lo+n-1) (lo+n)|return none
   if larger then break
   neq:=neq+1
  n:=n+1
 if neq>0 then reverseSlice' (lo+n-(neq+1)) (lo+n)
 qwj lo nrem n
theorem qh4(lo nrem:Nat):countRun' lo nrem=(do
 let mut n:=1
 for _ in [1:nrem] do
  let some smaller ←ltAt' (lo+n) (lo+n-1)|return none
  if smaller then break
  n:=n+1
 if n==nrem then return some n
 if n>1 then
  let some rose ←ltAt' lo (lo+n-1)|return none
  if rose then return some n
  reverseSlice' lo (lo+n)
 qpv lo nrem n):=rfl
def EPl(lt:Nat->Nat->Bool)(p:Array Nat)(a b:Nat):Prop:=∀i j,a<=i->i<b->a<=j->j<b->lt (p.getD i 0) (p.getD j 0)=false
theorem qrj{lo k a b:Nat}(hb:b<=p.size)(h0:lo<=a)(hk:b<=lo+k)(e:EPl lt p a b)(h:DPl lt p lo k):DPl lt (mirror p a b ((b-a) / 2)) lo k:=λi j hi hij hj=>by
 rw[qbl hb,qbl hb]
 by_cases c1:a<=i/\i<b
 ·rw[if_pos c1]
  by_cases c2:a<=j/\j<b
  ·rw[if_pos c2]
   exact e _ _ (by lia) (by lia) (by lia) (by lia)
  ·rw[if_neg c2]
   exact h _ _ (by lia) (by lia) hj
 ·rw[if_neg c1]
  by_cases c2:a<=j/\j<b
  ·rw[if_pos c2]
   exact h _ _ hi (by lia) (by lia)
  ·rw[if_neg c2]
   exact h _ _ hi hij hj
structure CrI(n:Nat)(f:Nat->Keyed)(lo:Nat)(p:Array Nat)(st:SortSt)(q:Array Nat)(st':SortSt):Prop where
 st:st'=setArr st (q.map f)
 pm:q.Perm p
 bef:∀i,i<lo->q.getD i 0=p.getD i 0
theorem CrI.rev{lo a b:Nat}{q:Array Nat}{st':SortSt}(h:CrI n f lo p st q st')(hb:b<=q.size)(ha:lo<=a):CrI n f lo p st (mirror q a b ((b-a) / 2)) (setArr st' ((mirror q a b ((b-a) / 2)).map f)):=by
 refine⟨by rw[h.st],(mirror_perm _ _ _ _).trans h.pm,λi hi=>?_⟩
 rw[qbl hb,if_neg (by lia)]
 exact h.bef i hi
theorem qmv(hc:Asks prog w A s κ f n lt)(L:LtOk n lt)(hk:kindOf st=κ)(hp:p.Perm (List.range n).toArray){lo nrem:Nat}(hn:lo+nrem=n){q:Array Nat}{st':SortSt}(I:CrI n f lo p st q st'){m:Nat}(k1:2<=m)(k2:m<=nrem)(hd:DPl lt q lo m){Q:Option Nat->SortSt->Prop}
  (h:∀m st',1<=m->m<=nrem->RunQ n lt f lo p st m st'->Q (some m) st'):wpS (model prog w) A E s (qwj lo nrem m) Q st':=by
 have P:=PermOk.of (I.pm.trans hp)
 have hz:lo+m<=q.size:=by rw[P.sz];lia
 have I2:=I.rev hz (Nat.le_refl lo)
 have s2:=qyw (lt:=lt) hz hd
 have ha:arrOf st'=q.map f:=by rw[I.st]
 unfold qwj
 refine wpS_bind (qi7 ha ?_)
 have P2:=PermOk.of (I2.pm.trans hp)
 have hk2:kindOf (setArr st' ((mirror q lo (lo+m) ((lo+m-lo) / 2)).map f))=κ:=by rw[I2.st];exact hk
 have ha2:arrOf (setArr st' ((mirror q lo (lo+m) ((lo+m-lo) / 2)).map f))=(mirror q lo (lo+m) ((lo+m-lo) / 2)).map f:=rfl
 generalize mirror q lo (lo+m) ((lo+m-lo) / 2)=r at *
 generalize setArr st' (r.map f)=st2 at *
 refine wpS_bind (wpS_mono (Q:=λc st3=>st3=st2/\∃m,c=(none,m)/\1<=m/\m<=nrem/\SPl lt r lo m)
  (wpS_forRange (λi c st3=>st3=st2/\c=(none,i)/\i<=nrem/\SPl lt r lo i) ?_ ?_ ⟨rfl,rfl,k2,s2⟩) ?_)
 ·rintro i c st3 hi1 hi2 ⟨rfl,rfl,hi,hs⟩
  dsimp only
  refine wpS_bind (qdr hc hk2 P2 ha2 (by lia) (by lia) ?_)
  dsimp only
  cases e:lt (r.getD (lo+i) 0) (r.getD (lo+i-1) 0) with
 |true =>
   rw[if_pos rfl]
   exact wpS_pure ⟨rfl,i,rfl,by lia,hi,hs⟩
 |false =>
   rw[if_neg (by simp)]
   exact wpS_pure ⟨rfl,rfl,by lia,hs.snoc L P2 (by lia) (by lia) e⟩
 ·rintro c st3 ⟨rfl,rfl,hi,hs⟩
  have e:max m nrem=nrem:=by lia
  rw[e] at hs ⊢
  exact⟨rfl,nrem,rfl,by lia,by lia,hs⟩
 ·rintro c st3 ⟨rfl,m',rfl,j1,j2,hs⟩
  exact wpS_pure (h m' _ j1 j2 ⟨r,I2.st,I2.pm,I2.bef,hs⟩)
theorem qjl(hc:Asks prog w A s κ f n lt)(L:LtOk n lt)(hk:kindOf st=κ)(hp:p.Perm (List.range n).toArray){lo nrem:Nat}(hn:lo+nrem=n){q:Array Nat}{st':SortSt}(I:CrI n f lo p st q st'){m:Nat}(k1:1<=m)(k2:m<nrem)(hd:DPl lt q lo (m+1)){Q:Option Nat->SortSt->Prop}
  (h:∀m st',1<=m->m<=nrem->RunQ n lt f lo p st m st'->Q (some m) st'):wpS (model prog w) A E s (qpv lo nrem m) Q st':=by
 unfold qpv
 refine wpS_bind (wpS_lift (wpAny_rule ⟨rfl,?_⟩))
 refine wpS_bind (wpS_mono (Q:=λc st2=>∃q m neq,c=(none,m,neq)/\CrI n f lo p st q st2/\2<=m/\m<=nrem/\neq+1<=m/\DPl lt q lo m/\EPl lt q (lo+m-(neq+1)) (lo+m))
  (wpS_forRange (λi c st2=>∃q neq,c=(none,i,neq)/\CrI n f lo p st q st2/\i<=nrem/\neq+1<=i/\DPl lt q lo i/\EPl lt q (lo+i-(neq+1)) (lo+i)) ?_ ?_ ⟨q,0,rfl,I,by lia,by lia,hd,λi j a b c d=>?_⟩) ?_)
 ·rintro i c st2 hi1 hi2 ⟨q,neq,rfl,I,hi,hq,hd,he⟩
  have P:=PermOk.of (I.pm.trans hp)
  have ha:arrOf st2=q.map f:=by rw[I.st]
  have hk2:kindOf st2=κ:=by rw[I.st];exact hk
  dsimp only
  refine wpS_bind (qdr hc hk2 P ha (by lia) (by lia) ?_)
  dsimp only
  cases e:lt (q.getD (lo+i) 0) (q.getD (lo+i-1) 0) with
 |true =>
   rw[if_pos rfl]
   have e1:=L.as _ _ (P.lt _ (by lia)) (P.lt _ (by lia)) e
   have one:∀r:Array Nat,EPl lt r (lo+(i+1)-(0+1)) (lo+(i+1))↔lt (r.getD (lo+i) 0) (r.getD (lo+i) 0)=false:=λr=>⟨λz=>z _ _ (by lia) (by lia) (by lia) (by lia),λz a b c d e' f'=>by
    rw[show a=lo+i by lia,show b=lo+i by lia]
    exact z⟩
   have irr:∀x,x<n->lt x x=false:=λx hx=>by
    cases z:lt x x with
   |false=>rfl
   |true=>rw[←z];exact L.as x x hx hx z
   by_cases hz:neq>0
   ·rw[if_pos hz]
    refine wpS_bind (qi7 ha ?_)
    have hb:lo+i<=q.size:=by rw[P.sz];lia
    have I2:=I.rev (a:=lo+i-(neq+1)) hb (by lia)
    have d2:=qrj (lt:=lt) (a:=lo+i-(neq+1)) hb (by lia) (Nat.le_refl _) he hd
    have g:∀k,(mirror q (lo+i-(neq+1)) (lo+i) ((lo+i-(lo+i-(neq+1))) / 2)).getD k 0=if lo+i-(neq+1)<=k/\k<lo+i then q.getD (lo+i-(neq+1)+(lo+i)-1-k) 0 else q.getD k 0:=λk=>qbl hb k
    have P2:=PermOk.of (I2.pm.trans hp)
    generalize mirror q (lo+i-(neq+1)) (lo+i) ((lo+i-(lo+i-(neq+1))) / 2)=r at *
    refine wpS_pure ⟨r,0,rfl,I2,by lia,by lia,?_,(one r).mpr (irr _ (P2.lt _ (by lia)))⟩
    refine d2.snoc2 L P2 (by lia) (by lia) ?_
    rw[g (lo+i),if_neg (by lia),g (lo+i-1),if_pos (by lia)]
    exact L.tr _ _ _ (P.lt _ (by lia)) (P.lt _ (by lia)) (P.lt _ (by lia)) e1 (he _ _ (by lia) (by lia) (by lia) (by lia))
   ·rw[if_neg hz]
    exact wpS_pure ⟨q,0,rfl,I,by lia,by lia,hd.snoc2 L P (by lia) (by lia) e1,(one q).mpr (irr _ (P.lt _ (by lia)))⟩
 |false =>
   rw[if_neg (by simp)]
   refine wpS_bind (qdr hc hk2 P ha (by lia) (by lia) ?_)
   dsimp only
   cases e2:lt (q.getD (lo+i-1) 0) (q.getD (lo+i) 0) with
  |true =>
    rw[if_pos rfl]
    exact wpS_pure ⟨q,i,neq,rfl,I,by lia,hi,hq,hd,he⟩
  |false =>
    rw[if_neg (by simp)]
    refine wpS_pure ⟨q,neq+1,rfl,I,by lia,by lia,hd.snoc2 L P (by lia) (by lia) e2,λa b c d c' d'=>?_⟩
    have irr:∀x,x<n->lt x x=false:=λx hx=>by
     cases z:lt x x with
    |false=>rfl
    |true=>rw[←z];exact L.as x x hx hx z
    have lst:∀a,lo+(i+1)-(neq+1+1)<=a->a<lo+i->lt (q.getD a 0) (q.getD (lo+i) 0)=false/\lt (q.getD (lo+i) 0) (q.getD a 0)=false:=λa x y =>
     ⟨L.tr _ _ _ (P.lt _ (by lia)) (P.lt (lo+i-1) (by lia)) (P.lt _ (by lia)) e2 (he _ _ (by lia) (by lia) (by lia) (by lia)),L.tr _ _ _ (P.lt _ (by lia)) (P.lt (lo+i-1) (by lia)) (P.lt _ (by lia)) (he _ _ (by lia) (by lia) (by lia) (by lia)) e⟩
    by_cases ea:a=lo+i
    ·rw[ea]
     by_cases eb:b=lo+i
     ·rw[eb];exact irr _ (P.lt _ (by lia))
     ·exact(lst b c' (by lia)).2
    ·by_cases eb:b=lo+i
     ·rw[eb];exact(lst a c (by lia)).1
     ·exact he _ _ (by lia) (by lia) (by lia) (by lia)
 ·rintro c st2 ⟨q,neq,rfl,I,hi,hq,hd,he⟩
  have e:max (m+1) nrem=nrem:=by lia
  rw[e] at hd he hq ⊢
  exact⟨q,nrem,neq,rfl,I,by lia,by lia,hq,hd,he⟩
 ·have P:=PermOk.of (I.pm.trans hp)
  have ij:i=lo+m/\j=lo+m:=by lia
  rw[ij.1,ij.2]
  cases z:lt (q.getD (lo+m) 0) (q.getD (lo+m) 0) with
 |false=>rfl
 |true=>rw[←z];exact L.as _ _ (P.lt _ (by lia)) (P.lt _ (by lia)) z
 ·rintro c st2 ⟨q,m,neq,rfl,I,j1,j2,hq,hd,he⟩
  dsimp only
  have P:=PermOk.of (I.pm.trans hp)
  have ha:arrOf st2=q.map f:=by rw[I.st]
  by_cases hz:neq>0
  ·rw[if_pos hz]
   refine wpS_bind (qi7 ha ?_)
   have hb:lo+m<=q.size:=by rw[P.sz];lia
   exact qmv hc L hk hp hn (I.rev (a:=lo+m-(neq+1)) hb (by lia)) j1 j2 (qrj (lt:=lt) (a:=lo+m-(neq+1)) hb (by lia) (Nat.le_refl _) he hd) h
  ·rw[if_neg hz]
   exact qmv hc L hk hp hn I j1 j2 hd h
theorem qsz(hc:Asks prog w A s κ f n lt)(L:LtOk n lt)(hk:kindOf st=κ)(hp:p.Perm (List.range n).toArray)(ha:arrOf st=p.map f){lo nrem:Nat}(h1:1<=nrem)(hn:lo+nrem=n){Q:Option Nat->SortSt->Prop}
  (h:∀m st',1<=m->m<=nrem->RunQ n lt f lo p st m st'->Q (some m) st'):wpS (model prog w) A E s (countRun' lo nrem) Q st:=by
 have P:=PermOk.of hp
 rw[qh4]
 dsimp only
 refine wpS_bind (wpS_mono (Q:=λc st'=>st'=st/\∃m,c=(none,m)/\1<=m/\m<=nrem/\SPl lt p lo m/\(m<nrem->lt (p.getD (lo+m) 0) (p.getD (lo+m-1) 0)=true))
  (wpS_forRange (λi c st'=>st'=st/\c=(none,i)/\i<=nrem/\SPl lt p lo i) ?_ ?_ ⟨rfl,rfl,h1,λi j h0 hi hj=>by lia⟩) ?_)
 ·rintro i c st' hi1 hi2 ⟨rfl,rfl,hi,hs⟩
  dsimp only
  refine wpS_bind (qdr hc hk P ha (by lia) (by lia) ?_)
  dsimp only
  cases e:lt (p.getD (lo+i) 0) (p.getD (lo+i-1) 0) with
 |true =>
   rw[if_pos rfl]
   exact wpS_pure ⟨rfl,i,rfl,hi1,hi,hs,λ_=>e⟩
 |false =>
   rw[if_neg (by simp)]
   exact wpS_pure ⟨rfl,rfl,by lia,hs.snoc L P (by lia) hi1 e⟩
 ·rintro c st' ⟨rfl,rfl,hi,hs⟩
  have e:max 1 nrem=nrem:=by lia
  rw[e] at hs ⊢
  exact⟨rfl,nrem,rfl,h1,by lia,hs,λz=>by lia⟩
 ·rintro c st' ⟨rfl,m,rfl,m1,m2,hs,hl⟩
  dsimp only
  have same:RunQ n lt f lo p st' m st':=⟨p,(qel ha).symm,.refl _,λ_ _=>rfl,hs⟩
  have I0:CrI n f lo p st' p st':=⟨(qel ha).symm,.refl _,λ_ _=>rfl⟩
  by_cases hm:m=nrem
  ·rw[if_pos (beq_iff_eq.mpr hm)]
   exact wpS_pure (h m st' m1 m2 same)
  ·rw[if_neg (λe=>hm (eq_of_beq e))]
   have e0:=L.as _ _ (P.lt _ (by lia)) (P.lt _ (by lia)) (hl (by lia))
   by_cases hm1:m>1
   ·rw[if_pos hm1]
    refine wpS_bind (qdr hc hk P ha (by lia) (by lia) ?_)
    dsimp only
    cases e:lt (p.getD lo 0) (p.getD (lo+m-1) 0) with
   |true =>
     rw[if_pos rfl]
     exact wpS_pure (h m st' m1 m2 same)
   |false =>
     rw[if_neg (by simp)]
     refine wpS_bind (qi7 ha ?_)
     have irr:∀x,x<n->lt x x=false:=λx hx=>by
      cases z:lt x x with
     |false=>rfl
     |true=>rw[←z];exact L.as x x hx hx z
     have sle:∀i j,lo<=i->i<=j->j<lo+m->lt (p.getD j 0) (p.getD i 0)=false:=λi j a b c=>by
      by_cases z:i=j
      ·rw[z];exact irr _ (P.lt _ (by lia))
      ·exact hs i j a (by lia) c
     have al:EPl lt p lo (lo+m):=λi j a b c d =>
      L.tr _ _ _ (P.lt j (by lia)) (P.lt lo (by lia)) (P.lt i (by lia)) (L.tr _ _ _ (P.lt j (by lia)) (P.lt (lo+m-1) (by lia)) (P.lt lo (by lia)) (sle j (lo+m-1) c (by lia) (by lia)) e) (sle lo i (Nat.le_refl lo) a b)
     have hb:lo+m<=p.size:=by rw[P.sz];lia
     refine qjl hc L hk hp hn (I0.rev hb (Nat.le_refl lo)) m1 (by lia) (λi j a b c=>?_) h
     rw[qbl hb,qbl hb,if_pos (by lia)]
     by_cases ej:j=lo+m
     ·rw[if_neg (by lia),ej]
      exact L.tr _ _ _ (P.lt _ (by lia)) (P.lt (lo+m-1) (by lia)) (P.lt _ (by lia)) e0 (al _ _ (by lia) (by lia) (by lia) (by lia))
     ·rw[if_pos (by lia)]
      exact al _ _ (by lia) (by lia) (by lia) (by lia)
   ·rw[if_neg hm1]
    have:m=1:=by lia
    subst this
    refine qjl hc L hk hp hn I0 (Nat.le_refl 1) (by lia) (λi j a b c=>?_) h
    rw[show i=lo by lia,show j=lo+1 by lia]
    exact e0
theorem qf8{src d:Nat}(hs:src<p.size)(hd:d<=src)(k:Nat):(bubble p src d).getD k 0=if k=src-d then p.getD src 0 else if src-d<k/\k<=src then p.getD (k-1) 0 else p.getD k 0:=by
 rw[qb8,getElem?_bubble hs d hd k]
 by_cases h1:k=src-d
 ·rw[if_pos h1,if_pos h1,qb8]
 ·rw[if_neg h1,if_neg h1]
  by_cases h2:src-d<k/\k<=src
  ·rw[if_pos h2,if_pos h2,qb8]
  ·rw[if_neg h2,if_neg h2,qb8]
theorem qn0{lo k l:Nat}(hz:lo+k<p.size)(hl:l<=k)(hs:SPl lt p lo k)(c:∀i,i<l->lt (p.getD (lo+k) 0) (p.getD (lo+i) 0)=false)(d:∀i,l<=i->i<k->lt (p.getD (lo+i) 0) (p.getD (lo+k) 0)=false) :
  SPl lt (bubble p (lo+k) (lo+k-(lo+l))) lo (k+1):=λi j h0 hi hj=>by
 have G:=qf8 (p:=p) (src:=lo+k) (d:=lo+k-(lo+l)) hz (by lia)
 rw[G i,G j,show lo+k-(lo+k-(lo+l))=lo+l by lia]
 by_cases i1:i=lo+l
 ·rw[if_pos i1,if_neg (by lia),if_pos (by lia)]
  have:=d (j-1-lo) (by lia) (by lia)
  rw[show lo+(j-1-lo)=j-1 by lia] at this
  exact this
 ·rw[if_neg i1]
  by_cases j1:j=lo+l
  ·rw[if_pos j1,if_neg (by lia)]
   have:=c (i-lo) (by lia)
   rw[show lo+(i-lo)=i by lia] at this
   exact this
  ·rw[if_neg j1]
   by_cases i2:lo+l<i
   ·rw[if_pos (by lia),if_pos (by lia)]
    exact hs (i-1) (j-1) (by lia) (by lia) (by lia)
   ·rw[if_neg (show ¬ (lo+l<i/\i<=lo+k) by lia)]
    by_cases j2:lo+l<j
    ·rw[if_pos (by lia)]
     exact hs i (j-1) (by lia) (by lia) (by lia)
    ·rw[if_neg (by lia)]
     exact hs i j (by lia) hi (by lia)
theorem qzz(hc:Asks prog w A s κ f n lt)(L:LtOk n lt)(hk:kindOf st=κ)(hp:p.Perm (List.range n).toArray)(ha:arrOf st=p.map f){lo ok m:Nat}(h1:1<=ok)(hm:ok<=m)(hn:lo+m<=n)(hs:SPl lt p lo ok){Q:Bool->SortSt->Prop}
  (h:∀st',RunQ n lt f lo p st m st'->Q true st'):wpS (model prog w) A E s (binarySort' lo m ok) Q st:=by
 rw[binarySort'_eq]
 dsimp only
 have e1:max ok 1=ok:=by lia
 rw[e1]
 refine wpS_bind (wpS_forRange (λk c st'=>c=(none,())/\RunQ n lt f lo p st k st') ?_ ?_ ⟨rfl,p,(qel ha).symm,.refl _,λ_ _=>rfl,hs⟩)
 ·rintro k c st' hk1 hk2 ⟨rfl,q,rfl,hq,bef,hs⟩
  have P:=PermOk.of (hq.trans hp)
  refine wpS_bind (wpS_mono (Q:=λc st'=>st'=setArr st (q.map f)/\∃l r,c=(none,l,r)/\l<=k/\(∀i,i<l->lt (q.getD (lo+k) 0) (q.getD (lo+i) 0)=false)/\(∀i,l<=i->i<k->lt (q.getD (lo+i) 0) (q.getD (lo+k) 0)=false))
   (wpS_forRange (λj c st'=>st'=setArr st (q.map f)/\∃l r,c=(none,l,r)/\l<=r/\r<=k/\r-l<=k-j/\(∀i,i<l->lt (q.getD (lo+k) 0) (q.getD (lo+i) 0)=false)/\(∀i,r<=i->i<k->lt (q.getD (lo+i) 0) (q.getD (lo+k) 0)=false)) ?_ ?_ ⟨rfl,0,k,rfl,by lia,by lia,by lia,λi hi=>by lia,λi h1 h2=>by lia⟩) ?_)
  ·rintro j c st' - hj ⟨rfl,l,r,rfl,a1,a2,a3,a4,a5⟩
   dsimp only
   by_cases hlr:l≥r
   ·rw[if_pos hlr]
    have:l=r:=by lia
    subst this
    exact wpS_pure ⟨rfl,_,_,rfl,a2,a4,a5⟩
   ·rw[if_neg hlr]
    refine wpS_bind (qdr (st:=setArr st (q.map f)) hc hk P rfl (by lia) (by lia) ?_)
    dsimp only
    cases e:lt (q.getD (lo+k) 0) (q.getD (lo+(l+r) / 2) 0) with
   |true =>
     rw[if_pos rfl]
     have e:=L.as _ _ (P.lt _ (by lia)) (P.lt _ (by lia)) e
     refine wpS_pure ⟨rfl,_,_,rfl,by lia,by lia,by lia,a4,λi b1 b2=>?_⟩
     by_cases z:i=(l+r) / 2
     ·rw[z];exact e
     ·exact L.tr _ _ _ (P.lt _ (by lia)) (P.lt _ (by lia)) (P.lt _ (by lia)) e (hs (lo+(l+r) / 2) (lo+i) (by lia) (by lia) (by lia))
   |false =>
     rw[if_neg (by simp)]
     have l1:=e
     refine wpS_pure ⟨rfl,_,_,rfl,by lia,by lia,by lia,λi b1=>?_,a5⟩
     by_cases z:i=(l+r) / 2
     ·rw[z];exact l1
     ·exact L.tr _ _ _ (P.lt _ (by lia)) (P.lt _ (by lia)) (P.lt _ (by lia)) (hs (lo+i) (lo+(l+r) / 2) (by lia) (by lia) (by lia)) l1
  ·rintro c st' ⟨rfl,l,r,rfl,a1,a2,a3,a4,a5⟩
   have:l=r:=by lia
   subst this
   exact⟨rfl,_,_,rfl,a2,a4,a5⟩
  ·rintro c st' ⟨rfl,l,r,rfl,a2,a4,a5⟩
   dsimp only
   refine wpS_bind (qu7 (st:=setArr st (q.map f)) rfl (wpS_pure ⟨rfl,_,rfl,(bubble_perm _ _ _).trans hq,λi hi=>?_,?_⟩))
   ·rw[qf8 (by rw[P.sz];lia) (by lia),if_neg (by lia),if_neg (by lia)]
    exact bef i hi
   ·exact qn0 (by rw[P.sz];lia) a2 hs a4 a5
 ·rintro c st' ⟨rfl,hr⟩
  rw[show max ok m=m by lia] at hr
  exact wpS_pure (h st' hr)
end
end L2
namespace L2
open PySem PySem.W PyProof.Rows
theorem qlt(i:Nat):mergeAt' i=(do
 let s ←get
 let (some (sa,na,power),some (sb,nb,_)):=((pendingOf s)[i]?,(pendingOf s)[i+1]?)|unsupported "internal:list.sort.pending"
 set (setPending s (((pendingOf s).setIfInBounds i (sa,na+nb,power)).eraseIdxIfInBounds (i+1)))
 let some k ←qb6 false (←elem' (arrOf s) sb) (arrOf s) sa na 0|return false
 let (sa,na):=(sa+k,na-k)
 if na==0 then return true
 let some nb ←qb6 true (←elem' (arrOf s) (sa+na-1)) (arrOf s) sb nb (nb-1)|return false
 if nb==0 then return true
 let x:=(arrOf s).extract sa sb
 let y:=(arrOf s).extract sb (sb+nb)
 let merged ←if na<=nb then qij x y else qii x y
 modify λs=>setArr s (merged.toList.zipIdx.foldl (λa (p,j)=>a.setIfInBounds (sa+j) p) (arrOf s))
 return (failedOf (←get)).isNone):=rfl
section
variable {prog:Program} {w:World} {A:Around} {E:Value->Shared->Prop} {s:Shared} {κ:SortKind} {f:Nat->Keyed} {n:Nat} {lt:Nat->Nat->Bool} {st:SortSt}
theorem qzp{M:Model}{σ:Type}{x st:σ}{Q:PUnit->σ->Prop}(h:Q ⟨⟩ x):wpS M A E s (set x:StateT σ Sem PUnit) Q st:=by
 unfold wpS;rw[StateT.run_set];exact wpAny_pure ⟨rfl,h⟩
def enc:Nat->List (List Nat×Nat)->List (Nat×Nat×Nat)
|_,[]=>[]
|k,(r,p)::t=>(k,r.length,p)::enc (k+r.length) t
def flat(rp:List (List Nat×Nat)):List Nat:=(rp.map (·.1)).flatten
theorem qfv(a b:List (List Nat×Nat)):flat (a++b)=flat a++flat b:=by simp[flat]
theorem qcw(r:List Nat)(p:Nat)(t:List (List Nat×Nat)):flat ((r,p)::t)=r++flat t:=by simp[flat]
theorem qe4:∀(a b:List (List Nat×Nat)) (k:Nat),enc k (a++b)=enc k a++enc (k+(flat a).length) b
|[],b,k=>by simp[enc,flat]
|(r,p)::t,b,k=>by
  rw[List.cons_append,enc,enc,qe4 t b,qcw,List.length_append,Nat.add_assoc]
  rfl
theorem qh8:∀(a:List (List Nat×Nat)) (k:Nat),(enc k a).length=a.length
|[],k=>rfl
|(r,p)::t,k=>by rw[enc,List.length_cons,qh8 t,List.length_cons]
structure RunsOk(n:Nat)(lt:Nat->Nat->Bool)(κ:SortKind)(f:Nat->Keyed)(rp:List (List Nat×Nat))(rest:List Nat)(st:SortSt):Prop where
 kd:kindOf st=κ
 arr:arrOf st=ar f (flat rp++rest)
 pd:pendingOf st=(enc 0 rp).toArray
 fl:failedOf st=none
 pm:(flat rp++rest).Perm (List.range n)
 up:∀r∈rp,Up lt r.1/\r.1≠[]
theorem qm1:∀(X Y P S:List Nat) (b k:Nat),Y.length=X.length->b+k=P.length ->
  ((Y.map f).zipIdx k).foldl (λa x=>a.setIfInBounds (b+x.snd) x.fst) (ar f (P++(X++S)))=ar f (P++(Y++S))
|[],[],P,S,b,k,_,_=>by simp
|x::X,[],P,S,b,k,h,_=>by simp at h
|[],y::Y,P,S,b,k,h,_=>by simp at h
|x::X,y::Y,P,S,b,k,h,hb=>by
  rw[List.map_cons,List.zipIdx_cons,List.foldl_cons]
  have e:(ar f (P++(x::X++S))).setIfInBounds (b+k) (f y)=ar f (P++[y]++(X++S)):=by
   rw[hb]
   simp[ar]
  show List.foldl _ ((ar f (P++(x::X++S))).setIfInBounds (b+k) (f y)) _=_
  rw[e,qm1 X Y (P++[y]) S b (k+1) (by simpa using h) (by simp;lia)]
  simp
theorem qoa(hc:Asks prog w A s κ f n lt)(L:LtOk n lt){pre post:List (List Nat×Nat)}{r1 r2:List Nat}{p1 p2:Nat}{rest:List Nat}(R:RunsOk n lt κ f (pre++(r1,p1)::(r2,p2)::post) rest st){i:Nat}(hi:i=pre.length){Q:Bool->SortSt->Prop}
  (h:∀r' st',RunsOk n lt κ f (pre++(r',p1)::post) rest st'->Q true st'):wpS (model prog w) A E s (mergeAt' i) Q st:=by
 obtain⟨kd,arr,pd,fl,pm,up⟩:=R
 obtain⟨u1,ne1⟩:=up (r1,p1) (by simp)
 obtain⟨u2,ne2⟩:=up (r2,p2) (by simp)
 have upp:∀r∈pre,Up lt r.1/\r.1≠[]:=λr hr=>up r (by simp[hr])
 have upq:∀r∈post,Up lt r.1/\r.1≠[]:=λr hr=>up r (by simp[hr])
 clear up
 dsimp only at u1 ne1 u2 ne2
 have eT:flat (pre++(r1,p1)::(r2,p2)::post)++rest=flat pre++(r1++(r2++(flat post++rest))):=by
  rw[qfv,qcw,qcw]
  simp
 rw[eT] at arr pm
 have eP:enc 0 (pre++(r1,p1)::(r2,p2)::post)=enc 0 pre++((flat pre).length,r1.length,p1)::((flat pre).length+r1.length,r2.length,p2)::enc ((flat pre).length+r1.length+r2.length) post:=by
  rw[qe4,enc,enc,Nat.zero_add]
 have eN:∀r':List Nat,r'.length=r1.length+r2.length->enc 0 (pre++(r',p1)::post)=enc 0 pre++((flat pre).length,r1.length+r2.length,p1)::enc ((flat pre).length+r1.length+r2.length) post:=λr' hr=>by
  rw[qe4,enc,Nat.zero_add,hr,Nat.add_assoc]
 have eF:∀r':List Nat,flat (pre++(r',p1)::post)++rest=flat pre++(r'++(flat post++rest)):=λr'=>by
  rw[qfv,qcw]
  simp
 rw[eP] at pd
 have hil:i=(enc 0 pre).length:=by rw[qh8];exact hi
 generalize flat pre=L0 at arr pm pd eN eF
 generalize flat post++rest=L1 at arr pm eF
 have nd:(L0++(r1++(r2++L1))).Nodup:=pm.nodup_iff.mpr List.nodup_range
 have mem:∀x∈L0++(r1++(r2++L1)),x<n:=λx hx=>by simpa using pm.mem_iff.mp hx
 have m1:∀x∈r1,x<n:=λx hx=>mem x (by simp[hx])
 have m2:∀x∈r2,x<n:=λx hx=>mem x (by simp[hx])
 have dis:∀x∈r1,x∉r2:=λx hx hy=>by
  have:=(List.nodup_append.mp (List.nodup_append.mp nd).2.1).2.2 x hx x (List.mem_append_left _ hy)
  exact this rfl
 have fin:∀r' g,r'.Perm (r1++r2)->Up lt r'->RunsOk n lt κ f (pre++(r',p1)::post) rest (SortSt.mk' (kindOf st) (ar f (L0++(r'++L1))) (enc 0 pre++(L0.length,r1.length+r2.length,p1)::enc (L0.length+r1.length+r2.length) post).toArray g (failedOf st)):=λr' g hp hu=>{
  kd:=kd
  arr:=by rw[eF]
  pd:=by
   rw[eN r' (by rw[hp.length_eq];simp)]
  fl:=fl
  pm:=by
   rw[eF]
   refine List.Perm.trans ?_ pm
   rw[←List.append_assoc r1]
   exact(hp.append_right L1).append_left L0
  up:=λr hr=>by
   rcases List.mem_append.mp hr with hr|hr
   ·exact upp r hr
   ·rcases List.mem_cons.mp hr with rfl|hr
    ·exact⟨hu,λe=>by
      have hr':r'=[]:=e
      subst hr'
      exact ne1 (List.append_eq_nil_iff.mp hp.nil_eq.symm).1⟩
    ·exact upq r hr }
 rw[qlt]
 dsimp only
 refine wpS_bind (wpS_get ?_)
 have g1:(pendingOf st)[i]?=some (L0.length,r1.length,p1):=by rw[pd,hil];simp
 have g2:(pendingOf st)[i+1]?=some (L0.length+r1.length,r2.length,p2):=by rw[pd,hil];simp
 rw[g1,g2]
 dsimp only
 have pd2:((pendingOf st).setIfInBounds i (L0.length,r1.length+r2.length,p1)).eraseIdxIfInBounds (i+1)=(enc 0 pre++(L0.length,r1.length+r2.length,p1)::enc (L0.length+r1.length+r2.length) post).toArray:=by
  rw[pd,hil]
  simp[List.eraseIdx_append]
  intro h
  lia
 rw[pd2]
 refine wpS_bind (qzp (wpS_bind ?_))
 obtain⟨b0,r2',hb0⟩:∃b r,r2=b::r:=by
  cases r2 with
 |nil=>exact absurd rfl ne2
 |cons b r=>exact⟨b,r,rfl⟩
 have b0m:b0∈r2:=by rw[hb0];simp
 have kd2:∀ {pe:Array (Nat×Nat×Nat)},kindOf (setPending st pe)=κ:=kd
 rw[arr]
 refine qcm (x:=b0) (pre:=L0++r1) (post:=r2'++L1) (by rw[hb0];simp) (by simp) (wpS_bind ?_)
 refine qb7 hc L kd2 m1 (m2 b0 b0m) u1 (List.length_pos_iff.mpr ne1) rfl rfl λl1 l2 el c1 _ _ c2=>?_
 have c2:=c2 rfl
 dsimp only
 have lr:r1.length=l1.length+l2.length:=by rw[el];simp
 have ul:=List.pairwise_append.mp (el▸u1)
 have low1:∀x∈l1,∀y∈r2,lt y x=false:=λx hx=>by
  rw[hb0]
  exact qgt L (m1 x (by rw[el];simp[hx])) (by rw[←hb0];exact m2) (hb0▸u2) (c1 x hx)
 by_cases hz:l2=[]
 ·rw[if_pos (by simp[lr,hz])]
  refine wpS_pure (h (r1++r2) _ ?_)
  have e:=fin (r1++r2) (gallopOf st) (.refl _) (List.pairwise_append.mpr ⟨u1,u2,λx hx y hy=>low1 x (by rw[el,hz] at hx;simpa using hx) y hy⟩)
  rw[List.append_assoc,←arr] at e
  exact e
 ·have l2p:1<=l2.length:=List.length_pos_iff.mpr hz
  rw[if_neg (λe=>by have:=eq_of_beq e;lia)]
  obtain⟨l2',z,ez⟩:=conc l2p
  have l2l:l2.length=l2'.length+1:=by rw[ez];simp
  have zm:z∈r1:=by rw[el,ez];simp
  have zl:z∈l2:=by rw[ez];simp
  refine wpS_bind (qcm (pre:=L0++l1++l2') (post:=r2++L1) (x:=z) (by rw[el,ez];simp) (by simp;lia) (wpS_bind ?_))
  rw[←List.append_assoc L0 r1]
  refine qb7 hc L kd2 m2 (m1 z zm) u2 (by have:=List.length_pos_iff.mpr ne2;lia) (by simp) rfl λq1 q2 eq _ d2 d1 _=>?_
  have d1:=d1 rfl
  dsimp only
  have b0z:lt b0 z=true:=c2 z zl
  have bq:∃q1',q1=b0::q1':=by
   cases q1 with
  |nil =>
    exfalso
    have:lt b0 z=false:=d2 b0 (by rw[List.nil_append] at eq;rw[←eq];exact b0m)
    rw[this] at b0z
    cases b0z
  |cons u q1' =>
    rw[hb0] at eq
    exact⟨q1',by rw[(List.cons.inj eq).1]⟩
  obtain⟨q1',eq1⟩:=bq
  have q1p:1<=q1.length:=by rw[eq1];simp
  rw[if_neg (λe=>by have:=eq_of_beq e;lia)]
  have ex1:(ar f (L0++r1++(r2++L1))).extract (L0.length+l1.length) (L0.length+r1.length)=ar f l2:=by
   have:L0++r1++(r2++L1)=(L0++l1)++(l2++(r2++L1)):=by rw[el];simp
   rw[this]
   exact qf1 _ _ _ (by simp) (by simp;lia)
  have ex2:(ar f (L0++r1++(r2++L1))).extract (L0.length+r1.length) (L0.length+r1.length+q1.length)=ar f q1:=by
   have:L0++r1++(r2++L1)=(L0++r1)++(q1++(q2++L1)):=by rw[eq];simp
   rw[this]
   exact qf1 _ _ _ (by simp) (by simp)
  rw[ex1,ex2]
  have uq:=List.pairwise_append.mp (eq▸u2)
  have C:MgC n lt l2 q1:={
   L:=L
   ha:=λx hx=>m1 x (by rw[el];simp[hx])
   hb:=λx hx=>m2 x (by rw[eq];simp[hx])
   nd:=λx hx hy=>dis x (by rw[el];simp[hx]) (by rw[eq];simp[hy])
   ua:=ul.2.1
   ub:=uq.1 }
  have lowz:∀x∈l2,∀y∈q2,lt y x=false:=λx hx y hy=>by
   have ym:=m2 y (by rw[eq];simp[hy])
   exact qgu L ym (λv hv=>C.ha v (ez▸hv)) (ez▸ul.2.1) (d2 y hy) x (ez▸hx)
  have fin2:∀r g,MgQ lt f l2 q1 r->wpS (model prog w) A E s (do
    modify λs=>setArr s (List.foldl (λa x=>a.setIfInBounds (L0.length+l1.length+x.snd) x.fst) (arrOf s) r.toList.zipIdx)
    let __do_lift ←get
    pure (failedOf __do_lift).isNone) Q (qa6 (setPending st (enc 0 pre++(L0.length,r1.length+r2.length,p1)::enc (L0.length+r1.length+r2.length) post).toArray) g):=λr g hr=>by
   obtain⟨Y,rfl,hY,uY⟩:=hr
   refine wpS_bind (wpS_modify (wpS_bind (wpS_get (wpS_pure ?_))))
   have hfl:(failedOf st).isNone=true:=by rw[fl];rfl
   show Q (failedOf st).isNone _
   rw[hfl]
   refine h (l1++(Y++q2)) _ ?_
   have e:=fin (l1++(Y++q2)) g ?_ ?_
   ·have fs:=qm1 (f:=f) (l2++q1) Y (L0++l1) (q2++L1) (L0.length+l1.length) 0 hY.length_eq (by simp)
    have ea:arrOf st=ar f (L0++l1++(l2++q1++(q2++L1))):=by rw[arr,el,eq];simp
    rw[←ea] at fs
    have eb:L0++l1++(Y++(q2++L1))=L0++(l1++(Y++q2)++L1):=by simp
    rw[eb] at fs
    rw[←fs] at e
    exact e
   ·rw[el,eq,List.append_assoc,←List.append_assoc l2]
    exact(hY.append_right q2).append_left l1
   ·refine List.pairwise_append.mpr ⟨ul.1,List.pairwise_append.mpr ⟨uY,uq.2.1,λx hx y hy=>?_⟩,λx hx y hy=>?_⟩
    ·rcases List.mem_append.mp (hY.mem_iff.mp hx) with hx|hx
     ·exact lowz x hx y hy
     ·exact uq.2.2 x hx y hy
    ·rcases List.mem_append.mp hy with hy|hy
     ·rcases List.mem_append.mp (hY.mem_iff.mp hy) with hy|hy
      ·exact ul.2.2 x hx y hy
      ·exact low1 x hx y (by rw[eq];simp[hy])
     ·exact low1 x hx y (by rw[eq];simp[hy])
  by_cases hle:r1.length-l1.length<=q1.length
  ·rw[if_pos hle]
   exact wpS_bind (qoc hc C d1 ⟨l2',ez⟩ kd2 eq1 c2 fin2)
  ·rw[if_neg hle]
   exact wpS_bind (qob hc C c2 eq1 kd2 ez d1 fin2)
end
end L2
namespace L2
open PySem PySem.W PyProof.Rows
def qnn(size lo n:Nat):StateT SortSt Sem (ForInStep (Option Unit×Nat)):=do
 let g ←get
 match (pendingOf g).back? with
|some (s1,n1,_)=>do
  let r ←forIn [0:size] ((none,()):Option Unit×Unit) λ_ _=>do
   let g ←get
   match (if (pendingOf g).size>1 then (pendingOf g)[(pendingOf g).size-2]? else none) with
  |some (_,_,older) =>
    if older<=power' size (2*s1+n1) (2*s1+n1+n1+n) size then pure (.done (none,()))
    else do
     let b ←mergeAt' ((pendingOf g).size-2)
     if !b then pure (.done (some (),())) else pure (.yield (none,()))
  |_=>pure (.done (none,()))
  match r.fst with
 |some r=>pure (.done (some r,lo))
 |none=>do
   modify λs=>setPending s ((pendingOf s).modify ((pendingOf s).size-1) λx=>(x.fst,x.2.fst,power' size (2*s1+n1) (2*s1+n1+n1+n) size))
   modify λs=>setPending s ((pendingOf s).push (lo,n,0))
   pure (.yield (none,lo+n))
|_=>do
  modify λs=>setPending s ((pendingOf s).push (lo,n,0))
  pure (.yield (none,lo+n))
section
variable {prog:Program} {w:World} {A:Around} {E:Value->Shared->Prop} {s:Shared} {κ:SortKind} {f:Nat->Keyed} {n:Nat} {lt:Nat->Nat->Bool} {st:SortSt}
theorem qul{α:Type}{l:List α}{i:Nat}(h:i+1<l.length):∃pre a b post,l=pre++a::b::post/\i=pre.length:=by
 refine⟨l.take i,l[i],l[i+1],l.drop (i+2),?_,by simp;lia⟩
 rw[←List.drop_eq_getElem_cons h,←List.drop_eq_getElem_cons (by lia),List.take_append_drop]
theorem RunsOk.merge(hc:Asks prog w A s κ f n lt)(L:LtOk n lt){rp:List (List Nat×Nat)}{rest:List Nat}(R:RunsOk n lt κ f rp rest st){i:Nat}(hi:i+1<rp.length){Q:Bool->SortSt->Prop}
  (h:∀rp' st',RunsOk n lt κ f rp' rest st'->rp'.length+1=rp.length->Q true st'):wpS (model prog w) A E s (mergeAt' i) Q st:=by
 obtain⟨pre,⟨r1,p1⟩,⟨r2,p2⟩,post,rfl,e⟩:=qul hi
 exact qoa hc L R e λr' st' R'=>h _ st' R' (by simp;lia)
theorem RunsOk.len{rp:List (List Nat×Nat)}{rest:List Nat}(R:RunsOk n lt κ f rp rest st):(flat rp).length+rest.length=n:=by
 have:=R.pm.length_eq
 simpa using this
theorem qgn{α:Type}(g:α->α)(x:α):∀a:List α,(a++[x]).modify a.length g=a++[g x]
|[]=>rfl
|y::a=>congrArg (y::·) (qgn g x a)
theorem qz8(k:Nat)(pre:List (List Nat×Nat))(r:List Nat)(p pw:Nat):((enc k (pre++[(r,p)])).toArray.modify ((enc k (pre++[(r,p)])).toArray.size-1) λx=>(x.fst,x.2.fst,pw))=(enc k (pre++[(r,pw)])).toArray:=by
 rw[qe4,qe4,enc,enc,enc,enc]
 apply Array.ext'
 simp[qgn]
theorem RunsOk.push{rp:List (List Nat×Nat)}{r rest:List Nat}(R:RunsOk n lt κ f rp (r++rest) st)(u:Up lt r)(ne:r≠[]){lo m:Nat}(hlo:lo=(flat rp).length)(hm:m=r.length):RunsOk n lt κ f (rp++[(r,0)]) rest (setPending st ((pendingOf st).push (lo,m,0))) where
 kd:=R.kd
 arr:=by
  show arrOf st=_
  rw[R.arr,qfv,qcw]
  simp[flat]
 pd:=by
  show (pendingOf st).push (lo,m,0)=_
  rw[R.pd,qe4,enc,enc,hlo,hm]
  simp
 fl:=R.fl
 pm:=by
  have:=R.pm
  rw[qfv,qcw]
  simpa [flat] using this
 up:=λx hx=>by
  rcases List.mem_append.mp hx with hx|hx
  ·exact R.up x hx
  ·rw[List.mem_singleton.mp hx]
   exact⟨u,ne⟩
theorem RunsOk.power{pre:List (List Nat×Nat)}{r0 rest:List Nat}{p0 pw:Nat}(R:RunsOk n lt κ f (pre++[(r0,p0)]) rest st):RunsOk n lt κ f (pre++[(r0,pw)]) rest (setPending st ((pendingOf st).modify ((pendingOf st).size-1) λx=>(x.fst,x.2.fst,pw))) where
 kd:=R.kd
 arr:=by
  show arrOf st=_
  rw[R.arr]
  simp[flat]
 pd:=(congrArg (λz:Array (Nat×Nat×Nat)=>z.modify (z.size-1) λx=>(x.fst,x.2.fst,pw)) R.pd).trans (qz8 _ _ _ _ _)
 fl:=R.fl
 pm:=by
  have:=R.pm
  simpa [flat] using this
 up:=λx hx=>by
  rcases List.mem_append.mp hx with hx|hx
  ·exact R.up x (by simp[hx])
  ·rw[List.mem_singleton.mp hx]
   exact R.up (r0,p0) (by simp)
theorem qkd(hc:Asks prog w A s κ f n lt)(L:LtOk n lt){rp:List (List Nat×Nat)}{r rest:List Nat}(R:RunsOk n lt κ f rp (r++rest) st)(u:Up lt r)(ne:r≠[]){size lo m:Nat}(hlo:lo=(flat rp).length)(hm:m=r.length):wpS (model prog w) A E s (qnn size lo m) (λr st'=>r=.yield (none,lo+m)/\∃rp',RunsOk n lt κ f rp' rest st') st:=by
 unfold qnn
 refine wpS_bind (wpS_get ?_)
 cases e:(pendingOf st).back? with
|none=>exact wpS_bind (wpS_modify (wpS_pure ⟨rfl,_,R.push u ne hlo hm⟩))
|some x =>
  obtain⟨s1,n1,p1⟩:=x
  dsimp only
  have ne0:rp≠[]:=λz=>by
   subst z
   rw[R.pd] at e
   simp[enc] at e
  refine wpS_bind (wpS_mono (Q:=λc st'=>c=(none,())/\∃rp',RunsOk n lt κ f rp' (r++rest) st'/\rp'≠[]) (wpS_forRange (λ_ c st'=>c=(none,())/\∃rp',RunsOk n lt κ f rp' (r++rest) st'/\rp'≠[]) ?_ (λc st' q=>q) ⟨rfl,rp,R,ne0⟩) ?_)
  ·rintro i c st' - - ⟨rfl,rp',R',ne'⟩
   refine wpS_bind (wpS_get ?_)
   have sz:(pendingOf st').size=rp'.length:=by rw[R'.pd,List.size_toArray,qh8]
   by_cases h2:(pendingOf st').size>1
   ·rw[if_pos h2]
    cases e2:(pendingOf st')[(pendingOf st').size-2]? with
   |none=>exact wpS_pure ⟨rfl,rp',R',ne'⟩
   |some y =>
     obtain⟨a,b,older⟩:=y
     dsimp only
     split
     ·exact wpS_pure ⟨rfl,rp',R',ne'⟩
     ·refine wpS_bind (R'.merge hc L (by lia) λrp2 st2 R2 l2=>?_)
      rw[if_neg (by simp)]
      exact wpS_pure ⟨rfl,rp2,R2,λz=>by subst z;simp at l2;lia⟩
   ·rw[if_neg h2]
    exact wpS_pure ⟨rfl,rp',R',ne'⟩
  ·rintro c st' ⟨rfl,rp',R',ne'⟩
   dsimp only
   obtain⟨pre,⟨r0,p0⟩,rfl⟩:∃pre x,rp'=pre++[x]:=by
    rcases List.eq_nil_or_concat rp' with q|⟨l0,y,q⟩
    ·exact absurd q ne'
    ·exact⟨l0,y,by rw[q,List.concat_eq_append]⟩
   refine wpS_bind (wpS_modify (wpS_bind (wpS_modify (wpS_pure ⟨rfl,_,(R'.power).push u ne ?_ hm⟩))))
   have l1:=R.len
   have l2:=(R'.power (pw:=0)).len
   have l3:(flat (pre++[(r0,0)])).length=(flat (pre++[(r0,p0)])).length:=by simp[flat]
   have l4:∀pw,(flat (pre++[(r0,pw)])).length=(flat (pre++[(r0,0)])).length:=λpw=>by simp[flat]
   rw[l4]
   lia
theorem qkb{p:Array Nat}{F rest:List Nat}{lo m:Nat}{st':SortSt}(hp:p=(F++rest).toArray)(hlo:lo=F.length)(hm:lo+m<=(F++rest).length)(h:RunQ n lt f lo p st m st') :
  ∃r rest',st'=setArr st (ar f (F++(r++rest')))/\(F++(r++rest')).Perm (F++rest)/\r.length=m/\SPl lt (F++(r++rest')).toArray lo m/\Up lt r:=by
 obtain⟨q,rfl,hq,bef,hs⟩:=h
 have ql:q.toList.length=(F++rest).length:=by
  have:=hq.size_eq
  rw[hp,List.size_toArray] at this
  simpa using this
 have gd:∀i (hi:i<q.toList.length),q.getD i 0=q.toList[i]:=λi hi=>by
  have hz:i<q.size:=by simpa using hi
  rw[qb8]
  simp[hz]
 have hF:q.toList.take lo=F:=by
  apply List.ext_getElem
  ·rw[List.length_take,ql,List.length_append]
   lia
  ·intro i h1 h2
   have hi:i<q.toList.length:=by rw[ql,List.length_append];lia
   rw[List.getElem_take,←gd i hi,bef i (by lia),hp,qb8]
   simp[List.getElem?_append,h2]
 have e1:q.toList=F++((q.toList.drop lo).take m++(q.toList.drop lo).drop m):=by
  rw[List.take_append_drop,←hF]
  simp
 have len1:((q.toList.drop lo).take m).length=m:=by
  rw[List.length_take,List.length_drop,ql]
  lia
 refine⟨(q.toList.drop lo).take m,(q.toList.drop lo).drop m,?_,?_,len1,by rw[←e1];simpa using hs,?_⟩
 ·rw[←e1]
  exact congrArg (setArr st) (Array.ext' (by simp[ar]))
 ·rw[←e1]
  have:=hq.toList
  rw[hp] at this
  simpa using this
 ·rw[Up,List.pairwise_iff_getElem]
  intro i j hi hj hij
  rw[List.getElem_take,List.getElem_take,List.getElem_drop,List.getElem_drop]
  have:=hs (lo+i) (lo+j) (by lia) (by lia) (by lia)
  rw[gd _ (by rw[ql];lia),gd _ (by rw[ql];lia)] at this
  exact this
theorem qmp(l:List Nat):ar f l=l.toArray.map f:=by simp[ar]
theorem quj(hc:Asks prog w A s κ f n lt)(L:LtOk n lt)(h1:1<=n)(R:RunsOk n lt κ f [] (List.range n) st){Q:Unit->SortSt->Prop}
  (h:∀(q:List Nat) st',q.Perm (List.range n)->Up lt q->arrOf st'=ar f q->failedOf st'=none->Q () st'):wpS (model prog w) A E s sortRuns' Q st:=by
 rw[sortRuns'_eq]
 dsimp only
 refine wpS_bind (wpS_get ?_)
 have sz:(arrOf st).size=n:=by rw[R.arr,qb4];simp[flat]
 rw[sz]
 generalize minRun' n n 0=mr
 refine wpS_bind (wpS_mono (Q:=λc st'=>∃lo,c=(none,lo)/\∃rp,RunsOk n lt κ f rp [] st') (wpS_forRange (λk c st'=>∃lo,c=(none,lo)/\k<=lo/\∃rp rest,RunsOk n lt κ f rp rest st'/\lo=(flat rp).length) ?_ ?_ ⟨0,rfl,Nat.le_refl _,[],List.range n,R,rfl⟩) ?_)
 ·rintro k c st' - hk ⟨lo,rfl,hkl,rp,rest,R',hlo⟩
  have len:=R'.len
  by_cases hge:lo≥n
  ·rw[if_pos hge]
   have:rest=[]:=List.length_eq_zero_iff.mp (by lia)
   subst this
   exact wpS_pure ⟨lo,rfl,rp,R'⟩
  ·rw[if_neg hge]
   have hp0:((flat rp++rest).toArray).Perm (List.range n).toArray:=by
    have:=R'.pm
    exact List.Perm.toArray this
   have lenT:(flat rp++rest).length=n:=by rw[List.length_append];exact len
   refine wpS_bind (qsz hc L R'.kd hp0 (by rw[R'.arr,qmp]) (by lia) (by lia) λm st2 m1 m2 hr=>?_)
   obtain⟨r,rest',e2,pm2,rl,rs,ru⟩:=qkb rfl hlo (by lia) hr
   have R2:RunsOk n lt κ f rp (r++rest') st2:={
    kd:=by rw[e2];exact R'.kd
    arr:=by rw[e2]
    pd:=by rw[e2];exact R'.pd
    fl:=by rw[e2];exact R'.fl
    pm:=pm2.trans R'.pm
    up:=R'.up }
   dsimp only
   by_cases hmr:m<mr
   ·rw[if_pos hmr]
    refine wpS_bind (wpS_lift (wpAny_rule ⟨rfl,?_⟩))
    have len2:=R2.len
    have hp2:((flat rp++(r++rest')).toArray).Perm (List.range n).toArray:=List.Perm.toArray R2.pm
    refine wpS_bind (qzz hc L R2.kd hp2 (by rw[R2.arr,qmp]) m1 (by lia) (by lia) rs λst3 hr3=>?_)
    rw[if_neg (by simp)]
    obtain⟨r3,rest3,e3,pm3,rl3,-,ru3⟩:=qkb rfl hlo (by rw[List.length_append];lia) hr3
    have R3:RunsOk n lt κ f rp (r3++rest3) st3:={
     kd:=by rw[e3];exact R2.kd
     arr:=by rw[e3]
     pd:=by rw[e3];exact R2.pd
     fl:=by rw[e3];exact R2.fl
     pm:=pm3.trans R2.pm
     up:=R2.up }
    refine Eq.mp (congrArg (λz=>wpS (model prog w) A E s z _ _) ?eq) (wpS_mono (qkd (size:=n) (E:=E) hc L R3 ru3 (λz=>by subst z;simp at rl3;lia) hlo rl3.symm) ?_)
    case eq =>
     unfold qnn
     refine congrArg (λz=>get >>= z) (funext λg=>?_)
     cases (pendingOf g).back? with
    |none=>rfl
    |some x =>
      obtain⟨a,b,c⟩:=x
      dsimp only
      refine congr (congrArg bind (congrArg (forIn [0:n] (none,())) (funext λi=>funext λj=>congrArg (λz=>get >>= z) (funext λg2=>?_)))) (funext λr=>?_)
      ·cases (if (pendingOf g2).size>1 then (pendingOf g2)[(pendingOf g2).size-2]? else none) with
      |none=>rfl
      |some y=>rfl
      ·obtain⟨r,_⟩:=r
       cases r<;>rfl
    rintro x st4 ⟨rfl,rp',R4⟩
    have l4:=R4.len
    have l3:=R3.len
    rw[List.length_append] at l3
    exact⟨_,rfl,by lia,rp',rest3,R4,by lia⟩
   ·rw[if_neg hmr]
    refine Eq.mp (congrArg (λz=>wpS (model prog w) A E s z _ _) ?eq) (wpS_mono (qkd (size:=n) (E:=E) hc L R2 ru (λz=>by subst z;simp at rl;lia) hlo rl.symm) ?_)
    case eq =>
     unfold qnn
     refine congrArg (λz=>get >>= z) (funext λg=>?_)
     cases (pendingOf g).back? with
    |none=>rfl
    |some x =>
      obtain⟨a,b,c⟩:=x
      dsimp only
      refine congr (congrArg bind (congrArg (forIn [0:n] (none,())) (funext λi=>funext λj=>congrArg (λz=>get >>= z) (funext λg2=>?_)))) (funext λr=>?_)
      ·cases (if (pendingOf g2).size>1 then (pendingOf g2)[(pendingOf g2).size-2]? else none) with
      |none=>rfl
      |some y=>rfl
      ·obtain⟨r,_⟩:=r
       cases r<;>rfl
    rintro x st4 ⟨rfl,rp',R4⟩
    have l4:=R4.len
    have l3:=R2.len
    rw[List.length_append] at l3
    exact⟨_,rfl,by lia,rp',rest',R4,by lia⟩
 ·rintro c st' ⟨lo,rfl,hkl,rp,rest,R',hlo⟩
  have len:=R'.len
  have:rest=[]:=List.length_eq_zero_iff.mp (by lia)
  subst this
  exact⟨lo,rfl,rp,R'⟩
 ·rintro c st' ⟨lo,rfl,rp,R'⟩
  dsimp only
  have fin:∀rp st',RunsOk n lt κ f rp [] st'->rp.length<=1->Q () st':=λrp st' R' hl=>by
   have len:=R'.len
   cases rp with
  |nil=>simp[flat] at len;lia
  |cons x t =>
    have:t=[]:=by simpa using hl
    subst this
    obtain⟨r,p⟩:=x
    have e:flat [(r,p)]++[]=r:=by simp[flat]
    refine h r st' (by have:=R'.pm;rw[e] at this;exact this) (R'.up (r,p) (by simp)).1 (by have:=R'.arr;rw[e] at this;exact this) R'.fl
  have many:∀rp:List (List Nat×Nat),(∀r∈rp,r.1≠[])->rp.length<=(flat rp).length:=λrp=>by
   induction rp with
  |nil=>intro _;simp
  |cons x t ih =>
    intro hx
    obtain⟨r,p⟩:=x
    have:=ih λr hr=>hx r (by simp[hr])
    have r1:1<=r.length:=List.length_pos_iff.mpr (hx (r,p) (by simp))
    rw[qcw,List.length_append,List.length_cons]
    lia
  refine wpS_bind (wpS_forRange (λk c st'=>c=(none,())/\∃rp,RunsOk n lt κ f rp [] st'/\rp.length+k<=n) ?_ ?_ ⟨rfl,rp,R',by have:=many rp λr hr=>(R'.up r hr).2;have:=R'.len;simp at this;lia⟩)
  ·rintro k c st' - hk ⟨rfl,rp,R',hl⟩
   refine wpS_bind (wpS_get ?_)
   have sz:(pendingOf st').size=rp.length:=by rw[R'.pd,List.size_toArray,qh8]
   by_cases h2:(pendingOf st').size<=1
   ·rw[if_pos h2]
    exact wpS_pure (wpS_pure (fin rp st' R' (by lia)))
   ·rw[if_neg h2]
    refine wpS_bind ?_
    have key:∀i,i+1<rp.length->wpS (model prog w) A E s (mergeAt' i) (λb st2=>b=true/\∃rp,RunsOk n lt κ f rp [] st2/\rp.length+(k+1)<=n) st':=λi hi=>R'.merge hc L hi λrp2 st2 R2 l2=>⟨rfl,rp2,R2,by lia⟩
    refine wpS_mono (key _ (by split<;>lia)) ?_
    rintro b st2 ⟨rfl,hq⟩
    rw[if_neg (by simp)]
    exact wpS_pure ⟨rfl,hq⟩
  ·rintro c st' ⟨rfl,rp,R',hl⟩
   exact wpS_pure (fin rp st' R' (by lia))
end
end L2
namespace L2
open PySem PySem.Spec PyProof.Rows PySem.W
def LtA(A:Around)(s:Shared)(x y:Value)(c:Bool):Prop:=∀(prog:Program) (w:World) (E:Value->Shared->Prop) (Q:Value->Shared->Prop),Q (.bool c) s->wpAny (model prog w) A (richCompare .Lt x y) Q E s
def LtC(A:Around)(s:Shared)(p q:Addr)(c:Bool):Prop:=∀(prog:Program) (w:World) (E:Value->Shared->Prop) (Q:Value->Shared->Prop),Q (.bool c) s->wpAny (model prog w) A (call (.builtin "tuple.__lt__") [.ref p,.ref q]) Q E s
def lexV(e l:Nat->Bool)(z:Bool):Nat->Nat->Bool
|0,_=>z
|k+1,i=>if e i=true then lexV e l z k (i+1) else l i
theorem qv1(p q:Addr)(us ws:Array Value)(m k:Nat)(dp dq:Option Addr)(sp sq:Array (Option Value))(e c:Nat->Bool) :
  Meets (Builtin.«tuple.__lt__» ⟨[.ref p,.ref q],[]⟩)
   (λA R s=>s.heap.get? p=some { cls:=.type "tuple",dict:=dp,data:=.seq us m,slots:=sp }/\s.heap.get? q=some { cls:=.type "tuple",dict:=dq,data:=.seq ws k,slots:=sq } /\
    (∀j (h1:j<us.size) (h2:j<ws.size),SeqAt.EqAt A.in1 s us[j] ws[j] (e j))/\(∀j (h1:j<us.size) (h2:j<ws.size),e j=false->LtA A.in1 s us[j] ws[j] (c j)) /\
    R (.ok (.ret (.bool (lexV e c (decide (us.size<ws.size)) (min us.size ws.size) 0)))) s) :=
 .of_wp λprog w A R s h=>by
  obtain⟨h1,g1,d1,t1,o1⟩:=s
  obtain⟨hl,hb,he,hc,hR0⟩:=h
  have f2:=AutoSeq1.sub_tuple_tuple
  have hZ:(us.toList.zip ws.toList).length=min us.size ws.size:=by simp
  wp_walk using wpAny_loadPart' hl,wpAny_loadPart' hb,wpAny_forIn_list _ (λrest b s'=>b.1=none/\s'=⟨h1,g1,d1,t1,o1⟩/\∃i k,i+k=min us.size ws.size/\rest=(us.toList.zip ws.toList).drop i /\
   R (.ok (.ret (.bool (lexV e c (decide (us.size<ws.size)) k i)))) ⟨h1,g1,d1,t1,o1⟩) _
  case turn =>
   rintro⟨y,x⟩ rest b s' ⟨hb',rfl,i,k,hik,hz,hR⟩
   have hm:i<(us.toList.zip ws.toList).length:=by
    apply Nat.lt_of_not_le
    intro z
    rw[List.drop_of_length_le z] at hz
    cases hz
   have l1:i<us.size:=by lia
   have l2:i<ws.size:=by lia
   rw[List.drop_eq_getElem_cons hm] at hz
   injection hz with hyx hrest
   obtain rfl:y=us[i]:=by simpa using congrArg Prod.fst hyx
   obtain rfl:x=ws[i]:=by simpa using congrArg Prod.snd hyx
   obtain⟨k,rfl⟩:∃k',k=k'+1:=⟨k-1,by lia⟩
   have hR':R (.ok (.ret (.bool (if e i=true then lexV e c (decide (us.size<ws.size)) k (i+1) else c i)))) ⟨h1,g1,d1,t1,o1⟩:=hR
   refine wpAny_bind (he i l1 l2 prog w _ _ ?_)
   cases hy:e i with
  |true =>
    rw[hy,if_pos rfl] at hR'
    wp_walk
    exact⟨rfl,rfl,i+1,k,by lia,hrest,hR'⟩
  |false =>
    rw[hy,if_neg (by decide)] at hR'
    simp only[Bool.not_false,if_true]
    refine wpAny_bind (wpAny_rule (wpAny_bind (hc i l1 l2 hy prog w _ _ ?_)))
    wp_walk
    exact⟨_,rfl,hR'⟩
  case fin =>
   rintro⟨b1,b2⟩ s' ⟨hb',rfl,i,k,hik,hz,hR⟩
   simp only at hb'
   subst hb'
   have hk:k=0:=by
    rcases Nat.lt_or_ge i (us.toList.zip ws.toList).length with z|z
    ·rw[List.drop_eq_getElem_cons z] at hz;cases hz
    ·lia
   subst hk
   wp_walk
   exact⟨_,rfl,by simpa [Builtin.Tuple.tupleCompareSizes,lexV] using hR⟩
  case h =>
   exact⟨rfl,rfl,0,_,Nat.zero_add _,rfl,hR0⟩
section
variable {A:Around} {s:Shared} {p q:Addr} {us ws:Array Value} {e c:Nat->Bool}
theorem LtA.tups(hp:s.heap.IsTuple p us)(hq:s.heap.IsTuple q ws)(hu:A.units<cLine)(he:∀j (h1:j<us.size) (h2:j<ws.size),SeqAt.EqAt A.in1 s us[j] ws[j] (e j))
  (hc:∀j (h1:j<us.size) (h2:j<ws.size),e j=false->LtA A.in1 s us[j] ws[j] (c j)):LtA A s (.ref p) (.ref q) (lexV e c (decide (us.size<ws.size)) (min us.size ws.size) 0)/\LtC A s p q (lexV e c (decide (us.size<ws.size)) (min us.size ws.size) 0):=by
 obtain⟨⟨cl1,dp,da1,sp⟩,o1,z1,m,y1⟩:=id hp
 obtain⟨⟨cl2,dq,da2,sq⟩,o2,z2,k,y2⟩:=id hq
 cases z1;cases y1;cases z2;cases y2
 refine⟨λprog w E Q h=>?_,λprog w E Q h=>call_meets F.slot_tuple_lt ⟨_,o1,rfl⟩ F.entry_tuple_lt (F.args_tuple_lt_2 _ _) (qv1 p q us ws m k dp dq sp sq e c) ⟨o1,o2,he,hc,h⟩⟩
 exact richCompare_meets_room (op:=.Lt) ⟨_,o1,rfl⟩ ⟨_,o2,rfl⟩ F.slot_tuple_lt F.entry_tuple_lt (F.args_tuple_lt_2 _ _) (qv1 p q us ws m k dp dq sp sq e c) ⟨o1,o2,he,hc,(λx=>nomatch x),h⟩ hu
theorem LtA.strs{a b:Str}{t u:Tok}:LtA A s (.str a t) (.str b u) (decide (a.cps.toList<b.cps.toList)):=λprog w E Q h=>by
 refine wpAny_richCompare_same_or (typeIs_str s a t) (typeIs_str s b u) slot_str_lt (call_str_lt (Q:=λv s'=>v≠.notImplemented/\Q v s') ⟨(λx=>nomatch x),h⟩) (.inl rfl)
end
mutual
noncomputable def ltD:D->D->Bool
|.str a,.str b=>decide (a.cps.toList<b.cps.toList)
|.tup ds,.tup es=>ltDs ds es
|_,_=>false
noncomputable def ltDs:List D->List D->Bool
|[],[]=>false
|[],_::_=>true
|_::_,[]=>false
|d::ds,e::es=>if eqD d e=true then ltDs ds es else ltD d e
end
mutual
def ordD:D->D->Bool
|.str _,.str _=>true
|.tup ds,.tup es=>qc4 ds es
|_,_=>false
def qc4:List D->List D->Bool
|d::ds,e::es=>ordD d e&&qc4 ds es
|_,_=>true
end
mutual
theorem qq4:∀(d e:D),ordD d e=true->cmpD d e=true
|.str _,e,h=>by
  cases e<;>first|rfl|(unfold ordD at h;cases h)
|.tup ds,e,h=>by
  cases e<;>first|(unfold ordD at h;cases h;done)|skip
  rename_i es
  unfold ordD at h
  unfold cmpD
  exact qiq ds es h
|.non,e,h=>by unfold ordD at h;cases h
|.bl _,e,h=>by unfold ordD at h;cases h
|.int _,e,h=>by unfold ordD at h;cases h
|.lst _,e,h=>by unfold ordD at h;cases h
|.dT _ _,e,h=>by unfold ordD at h;cases h
|.dK _ _,e,h=>by unfold ordD at h;cases h
|.scr _,e,h=>by unfold ordD at h;cases h
|.kt _,e,h=>by unfold ordD at h;cases h
|.exc _,e,h=>by unfold ordD at h;cases h
theorem qiq:∀(ds es:List D),qc4 ds es=true->qcl ds es=true
|[],_,_=>by unfold qcl;rfl
|_::_,[],_=>by unfold qcl;rfl
|d::ds,e::es,h=>by
  unfold qc4 at h
  rw[Bool.and_eq_true] at h
  unfold qcl
  rw[qq4 d e h.1,qiq ds es h.2]
  rfl
end
theorem qnb:∀ {ds es:List D} {j:Nat} {d e:D},qc4 ds es=true->ds[j]?=some d->es[j]?=some e->ordD d e=true
|[],_,j,_,_,_,q,_=>by simp at q
|_::_,[],j,_,_,_,_,q=>by simp at q
|d::ds,e::es,0,_,_,h,q1,q2=>by
  unfold qc4 at h
  rw[Bool.and_eq_true] at h
  simp at q1 q2
  rw[←q1,←q2]
  exact h.1
|d::ds,e::es,j+1,_,_,h,q1,q2=>by
  unfold qc4 at h
  rw[Bool.and_eq_true] at h
  exact qnb h.2 (by simpa using q1) (by simpa using q2)
theorem qhn(e l:Nat->Bool)(z:Bool):∀k i,lexV e l z k (i+1)=lexV (λj=>e (j+1)) (λj=>l (j+1)) z k i
|0,_=>rfl
|k+1,i=>by
  show (if e (i+1)=true then lexV e l z k (i+1+1) else l (i+1))=if e (i+1)=true then lexV (λj=>e (j+1)) (λj=>l (j+1)) z k (i+1) else l (i+1)
  rw[qhn e l z k (i+1)]
theorem qvh:∀ds es:List D,lexV (λj=>eqD (ds.getD j .non) (es.getD j .non)) (λj=>ltD (ds.getD j .non) (es.getD j .non)) (decide (ds.length<es.length)) (min ds.length es.length) 0=ltDs ds es
|[],[]=>by unfold ltDs;rfl
|[],_::_=>by unfold ltDs;simp[lexV]
|_::_,[]=>by unfold ltDs;simp[lexV]
|d::ds,e::es=>by
  have ih:=qvh ds es
  rw[List.length_cons,List.length_cons,Nat.add_min_add_right]
  show (if eqD d e=true then lexV _ _ _ (min ds.length es.length) (0+1) else ltD d e)=_
  rw[qhn]
  unfold ltDs
  have ed:decide (ds.length+1<es.length+1)=decide (ds.length<es.length):=decide_eq_decide.mpr (by lia)
  rw[ed]
  have h2:lexV (λj=>eqD ((d::ds).getD (j+1) .non) ((e::es).getD (j+1) .non)) (λj=>ltD ((d::ds).getD (j+1) .non) ((e::es).getD (j+1) .non)) (decide (ds.length<es.length)) (min ds.length es.length) 0=ltDs ds es:=ih
  rw[h2]
section
variable {X:Cx} {pins:List (Addr×Obj)} {σ:St} {H:Hp} {s:Shared}
theorem qvi{A:Around}(I:Inv X pins σ H s){a b:Addr}{ds es:List D}{xs ys:List V}(ha:SqT X.K H a xs)(hb:SqT X.K H b ys)(r1:Reps X.K H ds xs)(r2:Reps X.K H es ys)(ho:qc4 ds es=true)(hu:A.units+qb2 ds+1<cLine)
  (ih:∀d∈ds,∀(e:D) (v z:V) (u w:Value),Rep X.K H d v->Rep X.K H e z->RelV v u->RelV z w->ordD d e=true->LtA A.in1 s u w (ltD d e)):LtA A s (.ref a) (.ref b) (ltDs ds es)/\LtC A s a b (ltDs ds es):=by
 obtain⟨its,v1,p1,_⟩:=I.tuple ha
 obtain⟨its2,v2,p2,_⟩:=I.tuple hb
 have hc:=qiq ds es ho
 have ihe:∀d∈ds,∀(e:D) (v z:V) (u w:Value),Rep X.K H d v->Rep X.K H e z->RelV v u->RelV z w->cmpD d e=true->SeqAt.EqAt A.in1 s u w (eqD d e):=λd hd e v z u w h1 h2 h3 h4 h5 =>
  qhi I _ A.in1 d e v z u w (Nat.le_refl _) h1 h2 h3 h4 h5 (by have:=qc6 hd;have un:A.in1.units=A.units+1:=rfl;lia)
 have:=LtA.tups (A:=A) (s:=s) (e:=λj=>eqD (ds.getD j .non) (es.getD j .non)) (c:=λj=>ltD (ds.getD j .non) (es.getD j .non)) (show s.heap.IsTuple a its.toArray from p1) (show s.heap.IsTuple b its2.toArray from p2) (by lia) (qli r1 r2 v1 v2 hc ihe) ?_
 ·rw[List.size_toArray,List.size_toArray,←v1.length,←v2.length,←r1.length,←r2.length,qvh] at this
  exact this
 ·intro j h1 h2 _
  have l1:j<ds.length:=by rw[r1.length,v1.length];simpa using h1
  have l2:j<es.length:=by rw[r2.length,v2.length];simpa using h2
  obtain⟨x,qx,rx⟩:=r1.at (List.getElem?_eq_getElem l1)
  obtain⟨y,qy,ry⟩:=r2.at (List.getElem?_eq_getElem l2)
  obtain⟨ux,e1,rux⟩:=v1.get qx
  obtain⟨uy,e2,ruy⟩:=v2.get qy
  have e1':its.toArray[j]=ux:=by
   have z:its[j]?=some its.toArray[j]:=by simp
   rw[e1] at z
   exact(Option.some.inj z).symm
  have e2':its2.toArray[j]=uy:=by
   have z:its2[j]?=some its2.toArray[j]:=by simp
   rw[e2] at z
   exact(Option.some.inj z).symm
  have e3:ds.getD j .non=ds[j]:=by simp[List.getD_eq_getElem?_getD,l1]
  have e4:es.getD j .non=es[j]:=by simp[List.getD_eq_getElem?_getD,l2]
  rw[e1',e2',e3,e4]
  exact ih ds[j] (List.getElem_mem l1) es[j] x y ux uy rx ry rux ruy (qnb ho (List.getElem?_eq_getElem l1) (List.getElem?_eq_getElem l2))
theorem qm5(I:Inv X pins σ H s):∀(n:Nat) (A:Around) (d e:D) (v z:V) (u w:Value),sizeOf d<=n->Rep X.K H d v->Rep X.K H e z->RelV v u->RelV z w->ordD d e=true->A.units+depD d<cLine->LtA A s u w (ltD d e)
|0,_,d,_,_,_,_,_,hn,_,_,_,_,_,_=>by cases d<;>simp at hn
|n+1,A,d,e,v,z,u,w,hn,hd,he,ru,rw',ho,hu=>by
  have un:A.in1.units=A.units+1:=rfl
  cases d with
 |str a =>
   cases e with
  |str b =>
    unfold Rep at hd he
    subst hd he
    obtain⟨t1,rfl⟩:=ru
    obtain⟨t2,rfl⟩:=rw'
    unfold ltD
    exact LtA.strs
  |_=>unfold ordD at ho;cases ho
 |tup ds =>
   cases e with
  |tup es =>
    unfold Rep at hd he
    obtain⟨a,xs,rfl,ha,r1⟩:=hd
    obtain⟨b,ys,rfl,hb,r2⟩:=he
    cases ru
    cases rw'
    unfold ordD at ho
    unfold ltD
    unfold depD at hu
    refine(qvi I ha.sq hb.sq r1 r2 ho (by lia) λd hd e v z u w h1 h2 h3 h4 h5=>qm5 I n A.in1 d e v z u w ?_ h1 h2 h3 h4 h5 ?_).1
    ·have:=List.sizeOf_lt_of_mem hd
     simp at hn
     lia
    ·have:=qc6 hd
     lia
  |_=>unfold ordD at ho;cases ho
 |_=>unfold ordD at ho;cases ho
end
end L2
namespace L2
open PySem PySem.Spec PyProof.Rows PySem.W
section
variable {X:Cx} {pins:List (Addr×Obj)} {σ:St} {H:Hp} {s:Shared} {E:Value->Shared->Prop}
theorem ql4(I:Inv X pins σ H s){A:Around}(c:Bool){d e:D}{v z:V}{u w:Value}{Q:Bool->Shared->Prop}(hd:Rep X.K H d v)(he:Rep X.K H e z)(ru:RelV v u)(rw':RelV z w)(ho:ordD d e=true)(hu:A.units+depD d+1<cLine)(h:Q (ltD d e) s) :
  wpAny (model X.prog X.w) A (oneLt' c u w) Q E s:=by
 have L:=qm5 I _ A d e v z u w (Nat.le_refl _) hd he ru rw' ho (by lia)
 cases c with
|false=>exact kat_one u w (L X.prog X.w E (PySem.W.BoolBack Q) h)
|true =>
  cases d with
 |str a =>
   cases e with
  |str b =>
    unfold Rep at hd he
    subst hd he
    obtain⟨t1,rfl⟩:=ru
    obtain⟨t2,rfl⟩:=rw'
    unfold ltD at h
    exact oneLt_str h
  |_=>unfold ordD at ho;cases ho
 |tup ds =>
   cases e with
  |tup es =>
    unfold Rep at hd he
    obtain⟨a,xs,rfl,ha,r1⟩:=hd
    obtain⟨b,ys,rfl,hb,r2⟩:=he
    cases ru
    cases rw'
    unfold ordD at ho
    unfold ltD at h
    unfold depD at hu
    have C:=(qvi (A:=A) I ha.sq hb.sq r1 r2 ho (by lia) λd hd e v z u w h1 h2 h3 h4 h5=>qm5 I _ A.in1 d e v z u w (Nat.le_refl _) h1 h2 h3 h4 h5 (by have:=qc6 hd;have un:A.in1.units=A.units+1:=rfl;lia)).2
    obtain⟨its,_,pl,_⟩:=I.tuple ha.sq
    rw[oneLt'_eq]
    simp only[if_true]
    refine wpAny_bind (wpAny_cRoomFor (by lia) (wpAny_bind (wpAny_callSpecialIfBound?_slot pl.typeIs F.slot_tuple_lt (C X.prog X.w _ _ ?_))))
    exact wpAny_truthy_bool h
  |_=>unfold ordD at ho;cases ho
 |_=>unfold ordD at ho;cases ho
theorem q0p(I:Inv X pins σ H s){A:Around}{b z:Bool}{Q:Bool->Shared->Prop}:∀(ds es:List D) (xs ys:List V) (us ws:List Value) (i:Nat),Reps X.K H ds xs->Reps X.K H es ys->Vals xs us->Vals ys ws->qc4 ds es=true->A.units+qb2 ds+1<cLine->decide (ds.length<es.length)=z->Q (ltDs ds es) s ->
  KatLex X.prog X.w A b z Q (us.zip ws) i s
|[],es,xs,ys,us,ws,i,r1,r2,v1,v2,ho,hu,hz,h=>by
  have e1:=r1.length
  have e2:=v1.length
  have:us=[]:=List.length_eq_zero_iff.mp (by rw[←e2,←e1];rfl)
  subst this
  rw[List.zip_nil_left]
  refine kat_nil ?_
  cases es with
 |nil=>unfold ltDs at h;rw[←hz];exact h
 |cons e es=>unfold ltDs at h;rw[←hz];simpa using h
|d::ds,[],xs,ys,us,ws,i,r1,r2,v1,v2,ho,hu,hz,h=>by
  have e1:=r2.length
  have e2:=v2.length
  have:ws=[]:=List.length_eq_zero_iff.mp (by rw[←e2,←e1];rfl)
  subst this
  rw[List.zip_nil_right]
  refine kat_nil ?_
  unfold ltDs at h
  rw[←hz]
  simpa using h
|d::ds,e::es,xs,ys,us,ws,i,r1,r2,v1,v2,ho,hu,hz,h=>by
  unfold Reps at r1 r2
  obtain⟨x,xs,rfl,rx,r1⟩:=r1
  obtain⟨y,ys,rfl,ry,r2⟩:=r2
  cases v1 with
 |cons ru v1 =>
  cases v2 with
 |cons rw' v2 =>
  rename_i u us w ws
  unfold qc4 at ho
  rw[Bool.and_eq_true] at ho
  have hd1:depD d<=qb2 (d::ds):=qc6 (List.mem_cons_self ..)
  have hd2:qb2 ds<=qb2 (d::ds):=by show _<=max (depD d) (qb2 ds);lia
  show KatLex X.prog X.w A b z Q ((u,w)::us.zip ws) i s
  refine kat_cons (qhi I _ A d e x y u w (Nat.le_refl _) rx ry ru rw' (qq4 d e ho.1) (by lia) X.prog X.w _ _ ?_)
  unfold ltDs at h
  cases he:eqD d e with
 |true =>
   rw[he,if_pos rfl] at h
   refine kat_yes (q0p I ds es xs ys us ws (i+1) r1 r2 v1 v2 ho.2 (by lia) ?_ h)
   rw[←hz,List.length_cons,List.length_cons]
   exact decide_eq_decide.mpr (by lia)
 |false =>
   rw[he,if_neg (by decide)] at h
   exact kat_no (ql4 I _ rx ry ru rw' ho.1 (by lia) h)
theorem qw2(I:Inv X pins σ H s){A:Around}(κ:SortKind){ds es:List D}{v z:V}{u w:Value}{Q:Bool->Shared->Prop}(hd:Rep X.K H (.tup ds) v)(he:Rep X.K H (.tup es) z)(ru:RelV v u)(rw':RelV z w)(ho:qc4 ds es=true)(hu:A.units+qb2 ds+2<cLine)(h:Q (ltDs ds es) s) :
  wpAny (model X.prog X.w) A (keyLt' κ u w) Q E s:=by
 have hl:ltD (.tup ds) (.tup es)=ltDs ds es:=by unfold ltD;rfl
 have ho':ordD (.tup ds) (.tup es)=true:=by unfold ordD;exact ho
 have hdp:depD (.tup ds)=qb2 ds+1:=by unfold depD;rfl
 have one:∀c,wpAny (model X.prog X.w) A (oneLt' c u w) Q E s:=λc=>ql4 I c hd he ru rw' ho' (by lia) (by rw[hl];exact h)
 cases κ with
|general=>exact one false
|oneType=>exact one true
|tuples b =>
  unfold Rep at hd he
  obtain⟨a,xs,rfl,ha,r1⟩:=hd
  obtain⟨c,ys,rfl,hb,r2⟩:=he
  cases ru
  cases rw'
  obtain⟨its,v1,p1,_⟩:=I.tuple ha.sq
  obtain⟨its2,v2,p2,_⟩:=I.tuple hb.sq
  obtain⟨o1,q1,_,n1,y1⟩:=id p1
  obtain⟨o2,q2,_,n2,y2⟩:=id p2
  refine kat_lt q1 y1 q2 y2 ?_
  refine q0p I ds es xs ys _ _ 0 r1 r2 v1 v2 ho (by lia) ?_ h
  rw[r1.length,r2.length,v1.length,v2.length]
  simp
end
end L2
namespace L2
open PySem PySem.Spec PyProof.Rows PySem.W
section
variable {M:Model} {A:Around} {E:Value->Shared->Prop} {s:Shared}
theorem qih{α β:Type}{f:α->Sem β}{P:β->Prop}:∀(l:List α) {Q:List β->Shared->Prop},(∀v∈l,∀(Q':β->Shared->Prop),(∀r,P r->Q' r s)->wpAny M A (f v) Q' E s)->(∀rs,(∀r∈rs,P r)->Q rs s)->wpAny M A (l.mapM f) Q E s
|[],_,_,h=>by rw[List.mapM_nil];exact wpAny_pure (h [] (by simp))
|x::l,Q,hf,h=>by
  rw[List.mapM_cons]
  refine wpAny_bind (hf x (List.mem_cons_self ..) _ λr hr=>wpAny_bind (qih l (λv hv=>hf v (List.mem_cons_of_mem _ hv)) λrs hrs=>wpAny_pure (h _ λy hy=>?_)))
  rcases List.mem_cons.mp hy with rfl|hy
  ·exact hr
  ·exact hrs y hy
def TyOk(h:Heap)(u:Value):Prop:=∃T,∀M:Model,Looks M h (typeOf u) T
theorem qgo{vs:Array Value}{Q:Option Value->Shared->Prop}(ht:∀u∈vs.toList,TyOk s.heap u)(h:∀r,Q r s):wpAny M A (oneTypeOnly' vs) Q E s:=by
 rw[oneTypeOnly'_eq]
 obtain⟨vs⟩:=vs
 rw[List.mapM_toArray,map_eq_pure_bind]
 refine wpAny_bind (wpAny_bind (qih (P:=λ_=>True) vs (λv hv Q' hq=>?_) λrs _=>wpAny_pure ?_))
 ·obtain⟨T,hT⟩:=ht v hv
  exact(hT M).here (hq T trivial)
 ·cases rs.toArray[0]? with
 |none=>exact wpAny_pure (h _)
 |some t=>exact wpAny_pure (h _)
theorem kind_any{vs:List Value}{Q:SortKind->Shared->Prop}(ht:∀v∈vs,∃(a:Addr) (o:Obj) (us:Array Value) (n:Nat),v=.ref a/\s.heap.get? a=some o/\o.cls=.type "tuple" /\ o.data=.seq us n/\∀f,us[0]?=some f->TyOk s.heap f)(h:∀κ,Q κ s):wpAny M A (keyKind' vs.toArray) Q E s:=by
 have tr:∀(a:Addr) (o:Obj),s.heap.get? a=some o->∀M:Model,Looks M s.heap (typeOf (.ref a)) o.cls:=λa o ho M=>(Looks.ld ho).andThen .now
 rw[keyKind'_eq,List.mapM_toArray,map_eq_pure_bind]
 refine wpAny_bind (wpAny_bind (qih (P:=λr=>∀f,r=some f->TyOk s.heap f) vs (λv hv Q' hq=>?_) λrs hrs=>wpAny_pure ?_))
 ·obtain⟨a,o,us,n,rfl,ho,hc,hd,hf⟩:=ht v hv
  rw[kas_first_eq]
  refine wpAny_bind ((tr a o ho M).here ?_)
  rw[hc,if_neg (by simp)]
  exact wpAny_bind (listItems_at ho hd (wpAny_pure (hq _ λf e=>hf f e)))
 ·split
  ·refine wpAny_bind (wpAny_rule (wpAny_bind (qgo (λu hu=>?_) λr=>wpAny_pure (h _))))
   have hu':u∈rs.filterMap id:=by simpa using hu
   obtain⟨r,hr,e⟩:=List.mem_filterMap.mp hu'
   exact hrs r hr u e
  ·split
   ·exact wpAny_pure (h _)
   ·refine wpAny_bind (qgo (λu hu=>?_) λr=>?_)
    ·obtain⟨a,o,us,n,rfl,ho,_⟩:=ht u hu
     exact⟨o.cls,tr a o ho⟩
    ·split<;>exact wpAny_pure (h _)
end
section
variable {K:PySem.W.Frag} {H:Hp}
theorem Reps.pick{ds:List D}{xs:List V}(r:Reps K H ds xs):∀l:List Nat,(∀i∈l,i<ds.length)->Reps K H (l.map λi=>ds.getD i .non) (l.map λi=>xs.getD i .non)
|[],_=>.nil
|i::l,h=>by
  have hi:=h i (List.mem_cons_self ..)
  obtain⟨x,hx,rx⟩:=r.at (List.getElem?_eq_getElem hi)
  refine .cons ?_ (r.pick l λj hj=>h j (List.mem_cons_of_mem _ hj))
  have e1:ds.getD i .non=ds[i]:=by simp[List.getD_eq_getElem?_getD,hi]
  have e2:xs.getD i .non=x:=by simp[List.getD_eq_getElem?_getD,hx]
  show Rep K H (ds.getD i .non) (xs.getD i .non)
  rw[e1,e2]
  exact rx
theorem Vals.pick{xs:List V}{us:List Value}(r:Vals xs us):∀l:List Nat,(∀i∈l,i<xs.length)->Vals (l.map λi=>xs.getD i .non) (l.map λi=>us.getD i Value.none)
|[],_=>.nil
|i::l,h=>by
  have hi:=h i (List.mem_cons_self ..)
  obtain⟨u,hu,ru⟩:=r.get (List.getElem?_eq_getElem hi)
  refine .cons ?_ (Vals.pick r l λj hj=>h j (List.mem_cons_of_mem _ hj))
  have e1:xs.getD i .non=xs[i]:=by simp[List.getD_eq_getElem?_getD,hi]
  have e2:us.getD i Value.none=u:=by simp[List.getD_eq_getElem?_getD,hu]
  show RelV (xs.getD i .non) (us.getD i Value.none)
  rw[e1,e2]
  exact ru
end
def qvg:D->Bool
|.str _=>true
|.tup _=>true
|_=>false
structure SortD(ds:List D):Prop where
 tup:(∀d∈ds,∃es,d=.tup es/\qb2 es<=20/\∀x,es[0]?=some x->qvg x=true)\/∀d∈ds,∃z,d=.str z
 ord:∀d∈ds,∀e∈ds,ordD d e=true
 tr:∀a∈ds,∀b∈ds,∀c∈ds,ltD a b=true->ltD b c=true->ltD a c=true
 as:∀a∈ds,∀b∈ds,ltD a b=true->ltD b a=false
 tot:∀a∈ds,∀b∈ds,a≠b->ltD a b=true\/ltD b a=true
 nd:ds.Nodup
theorem getD_mem{ds:List D}{i:Nat}(h:i<ds.length):ds.getD i .non∈ds:=by
 have e1:ds.getD i .non=ds[i]:=by simp[List.getD_eq_getElem?_getD,h]
 rw[e1]
 exact List.getElem_mem h
structure SortW(ds:List D):Prop where
 tup:(∀d∈ds,∃es,d=.tup es/\qb2 es<=20/\∀x,es[0]?=some x->qvg x=true)\/∀d∈ds,∃z,d=.str z
 ord:∀d∈ds,∀e∈ds,ordD d e=true
 tr:∀a∈ds,∀b∈ds,∀c∈ds,ltD b a=false->ltD c b=false->ltD c a=false
 as:∀a∈ds,∀b∈ds,ltD a b=true->ltD b a=false
theorem SortD.w{ds:List D}(S:SortD ds):SortW ds:=⟨S.tup,S.ord,λa ha b hb c hc h1 h2=>by
 cases h:ltD c a with
|false=>rfl
|true =>
  by_cases e1:a=b
  ·rw[e1,h2] at h;cases h
  by_cases e2:b=c
  ·rw[←e2,h1] at h;cases h
  have q1:=(S.tot a ha b hb e1).resolve_right (by rw[h1];exact Bool.false_ne_true)
  have q2:=(S.tot b hb c hc e2).resolve_right (by rw[h2];exact Bool.false_ne_true)
  have:=S.as a ha c hc (S.tr a ha b hb c hc q1 q2)
  exact absurd (this.symm.trans h) Bool.false_ne_true,S.as⟩
theorem SortW.ltOk{ds:List D}(S:SortW ds):LtOk ds.length λi j=>ltD (ds.getD i .non) (ds.getD j .non) where
 tr:=λa b c ha hb hc=>S.tr _ (getD_mem ha) _ (getD_mem hb) _ (getD_mem hc)
 as:=λa b ha hb=>S.as _ (getD_mem ha) _ (getD_mem hb)
end L2
namespace L2
open PySem PySem.Spec PyProof.Rows PySem.W
theorem range_getD(vs:List Value):((List.range vs.length).map λi=>vs.getD i Value.none)=vs:=by
 apply List.ext_getElem
 ·simp
 ·intro i h1 h2
  simp[List.getD_eq_getElem?_getD,h2]
section
variable {X:Cx} {pins:List (Addr×Obj)} {σ:St} {H:Hp} {s:Shared} {E:Value->Shared->Prop}
theorem q35(I:Inv X pins σ H s){A:Around}{ds:List D}{xs:List V}{vs:List Value}(r:Reps X.K H ds xs)(v:Vals xs vs)(S:SortW ds)(h2:2<=vs.length)(hu:A.units+30<cLine)(κ:SortKind)(hκ:(∀d∈ds,∃z,d=.str z)->2<=ds.length->κ=oneType'){Q:SortSt->Shared->Prop}
  (h:∀(st:SortSt) (q:List Nat),q.Perm (List.range ds.length)->q.Pairwise (λi j=>ltD (ds.getD j .non) (ds.getD i .non)=false)->(arrOf st).map (·.2)=List.toArray (q.map λi=>vs.getD i Value.none)->failedOf st=none->Q st s) :
  wpAny (model X.prog X.w) A ((sortRuns').run (SortSt.mk' κ (vs.toArray.zip vs.toArray) #[] 7 none)) (λr s'=>Q r.2 s') E s:=by
 have hl:ds.length=vs.length:=r.length.trans v.length
 have hc:Asks X.prog X.w A s κ (kas_item (vs.toArray.zip vs.toArray)) ds.length (λi j=>ltD (ds.getD i .non) (ds.getD j .non)):=λi j hi hj C hC'=>by
  obtain⟨x,hx,rx⟩:=r.at (List.getElem?_eq_getElem hi)
  obtain⟨y,hy,ry⟩:=r.at (List.getElem?_eq_getElem hj)
  obtain⟨u,eu,ru⟩:=v.get hx
  obtain⟨w,ew,rw'⟩:=v.get hy
  have e1:ds.getD i .non=ds[i]:=by simp[List.getD_eq_getElem?_getD,hi]
  have e2:ds.getD j .non=ds[j]:=by simp[List.getD_eq_getElem?_getD,hj]
  have e3:vs.getD i Value.none=u:=by simp[List.getD_eq_getElem?_getD,eu]
  have e4:vs.getD j Value.none=w:=by simp[List.getD_eq_getElem?_getD,ew]
  have m1:ds[i]∈ds:=List.getElem_mem hi
  have m2:ds[j]∈ds:=List.getElem_mem hj
  have ho:=S.ord _ m1 _ m2
  dsimp only at hC'
  rw[e1,e2] at hC'
  rw[kat_item rfl,kat_item rfl]
  show wpAny (model X.prog X.w) A (keyLt' κ (vs.getD i Value.none) (vs.getD j Value.none)) C (λ_ _=>False) s
  rw[e3,e4]
  rcases S.tup with T|T
  ·obtain⟨es,ee,he,_⟩:=T _ m1
   obtain⟨fs,ef,_,_⟩:=T _ m2
   rw[ee,ef] at hC'
   rw[ee,ef] at ho
   rw[ee] at rx
   rw[ef] at ry
   have hlt:ltD (.tup es) (.tup fs)=ltDs es fs:=by unfold ltD;rfl
   have hoo:qc4 es fs=true:=by unfold ordD at ho;exact ho
   rw[hlt] at hC'
   exact qw2 I κ rx ry ru rw' hoo (by lia) hC'
  ·rw[hκ T (by lia),keyLt'_oneType]
   exact ql4 I true rx ry ru rw' ho (by obtain⟨z,ez⟩:=T _ m1;rw[ez];unfold depD;lia) hC'
 have har:vs.toArray.zip vs.toArray=ar (kas_item (vs.toArray.zip vs.toArray)) (List.range ds.length):=by
  rw[qmp,hl]
  have e:=kas_range (vs.toArray.zip vs.toArray)
  rw[show (vs.toArray.zip vs.toArray).size=vs.length by simp] at e
  exact e.symm
 have R0:RunsOk ds.length (λi j=>ltD (ds.getD i .non) (ds.getD j .non)) κ (kas_item (vs.toArray.zip vs.toArray)) [] (List.range ds.length) (SortSt.mk' κ (vs.toArray.zip vs.toArray) #[] 7 none):={
  kd:=rfl
  arr:=har
  pd:=rfl
  fl:=rfl
  pm:=List.Perm.refl _
  up:=λr hr=>by cases hr }
 refine wpAny_mono (quj (E:=E) hc S.ltOk (by lia) R0 (Q:=λ_ st=>Q st s) λq st hp hu ha hf=>h st q hp hu ?_ hf) (λr' s' hr=>?_) λ_ _ z=>z
 ·have:=kat_snds (ks:=vs) (vs:=vs) rfl (ha.trans (qmp q))
  simpa using this
 ·obtain⟨rfl,hq⟩:=hr
  exact hq
theorem qw9{A:Around}{a:Addr}{n:Nat}{ds:List D}{xs:List V}{vs:List Value}{P:Fin->Shared->Prop}(ho:s.heap.get? a=some (seqObj "list" vs.toArray n))
  (I:∀h',(∀b o,b≠a->s.heap.get? b=some o->h'.get? b=some o)->Inv X pins σ H { s with heap:=h' }) (r:Reps X.K H ds xs) (v:Vals xs vs) (S:SortW ds) (h64:vs.length<=sizeLine) (hu:A.units+30<cLine)
  (h:∀(q:List Nat) (h':Heap) (m:Nat),q.Perm (List.range ds.length)->q.Pairwise (λi j=>ltD (ds.getD j .non) (ds.getD i .non)=false)->(∀b o,b≠a->s.heap.get? b=some o->h'.get? b=some o)->h'.get? a=some (seqObj "list" (q.map λi=>vs.getD i Value.none).toArray m) ->
   P (.done (.ret .none)) { s with heap:=h' }):wpAny (model X.prog X.w) A (Builtin.«list.sort» ⟨[.ref a],[]⟩) P E s:=by
 have hl:ds.length=vs.length:=r.length.trans v.length
 rw[list_sort_plain]
 have ha:a<s.heap.objs.size:=Heap.lt_size ho
 have hz:vs.toArray.size<=sizeLine:=by rw[List.size_toArray];exact h64
 refine wpAny_bind (listItems_at ho rfl (wpAny_bind (listUpdate_at ho rfl ?_ hz (Nat.zero_le _))))
 generalize e1:s.heap.update a (Obj.mapSeq λ_=>#[])=h1
 obtain⟨m1,ho1⟩:∃m1,h1.get? a=some (seqObj "list" #[] m1):=⟨_,by rw[←e1];exact get?_update_seq ho (λ_=>#[])⟩
 have k1:∀b o,b≠a->s.heap.get? b=some o->h1.get? b=some o:=λb o hb hq=>by
  rw[←e1,Heap.get?_update_ne _ _ _ _ hb]
  exact hq
 refine wpAny_bind (seqEpoch_at (s:={ s with heap:=h1 }) ho1 rfl (wpAny_bind (wpAny_newTuple ?_ h64)))
 generalize e2:h1.push { cls:=.type "tuple",data:=.seq vs.toArray }=h2
 have k2:∀b o,h1.get? b=some o->h2.get? b=some o:=λb o hq=>by rw[←e2];exact Heap.get?_push_of_some _ hq
 refine wpAny_bind (wpAny_newList ?_ (Nat.zero_le _))
 generalize e3:Heap.push _ _=h3
 have k3:∀b o,h2.get? b=some o->h3.get? b=some o:=λb o hq=>by rw[←e3];exact Heap.get?_push_of_some _ hq
 have ho3:h3.get? a=some (seqObj "list" #[] m1):=k3 _ _ (k2 _ _ ho1)
 have kk:∀b o,b≠a->s.heap.get? b=some o->h3.get? b=some o:=λb o hb hq=>k3 _ _ (k2 _ _ (k1 b o hb hq))
 have I3:Inv X pins σ H { s with heap:=h3 }:=I h3 kk
 refine wpAny_holding ?_
 show wpAny (model X.prog X.w) A _ P E { s with heap:=h3 }
 have fin:∀(q:List Nat) (out:Array Value),q.Perm (List.range ds.length)->q.Pairwise (λi j=>ltD (ds.getD j .non) (ds.getD i .non)=false)->out=(q.map λi=>vs.getD i Value.none).toArray ->
   P (.done (.ret .none)) { s with heap:=h3.update a (Obj.mapSeq λ_=>out) }:=λq out hq hp e=>by
  subst e
  refine h q _ _ hq hp (λb o hb hs=>?_) (get?_update_seq ho3 (λ_=>_))
  rw[Heap.get?_update_ne _ _ _ _ hb]
  exact kk b o hb hs
 dsimp only
 by_cases h2':vs.toArray.size<2
 ·rw[if_pos h2']
  refine wpAny_bind (wpAny_pure ?_)
  rw[if_pos h2',StateT.run_pure]
  refine wpAny_bind (wpAny_pure ?_)
  dsimp only
  refine wpAny_bind (seqEpoch_at (s:={ s with heap:=h3 }) ho3 rfl (wpAny_bind (listUpdate_at (s:={ s with heap:=h3 }) ho3 rfl ?_ (Nat.zero_le _) ?_)))
  ·simp only[bne_self_eq_false,Bool.false_eq_true,if_false]
   refine wpAny_pure (fin (List.range ds.length) _ (List.Perm.refl _) ?_ ?_)
   ·rw[List.size_toArray] at h2'
    rw[List.pairwise_iff_getElem]
    intro i j hi hj hij
    simp at hi hj
    lia
   ·apply Array.toList_inj.mp
    show (Array.map (λx:Value×Value=>x.2) (vs.toArray.zip vs.toArray)).toList=_
    rw[hl,range_getD]
    simp only[Array.toList_map,Array.toList_zip]
    exact List.map_snd_zip (Nat.le_refl _)
  ·show (Array.map (λx:Value×Value=>x.2) (vs.toArray.zip vs.toArray)).size<=_
   simp
   lia
 ·rw[if_neg h2']
  have h2v:2<=vs.length:=by rw[List.size_toArray] at h2';lia
  have kind:∀Q:SortKind->Shared->Prop,(∀κ,((∀d∈ds,∃z,d=.str z)->2<=ds.length->κ=oneType')->Q κ { s with heap:=h3 })->wpAny (model X.prog X.w) A (keyKind' vs.toArray) Q E { s with heap:=h3 }:=λQ hQ=>by
   rcases S.tup with T|T
   case inr =>
    refine kas_kind (T:=.type "str") (s:={ s with heap:=h3 }) h2v (λu hu=>?_) (by decide) (by decide) (hQ _ λ_ _=>rfl)
    obtain⟨i,hi,rfl⟩:=List.mem_iff_getElem.mp hu
    have hi2:i<ds.length:=by lia
    obtain⟨x,hx,rx⟩:=r.at (List.getElem?_eq_getElem hi2)
    obtain⟨u',eu,ru⟩:=v.get hx
    rw[List.getElem?_eq_getElem hi] at eu
    cases eu
    obtain⟨z,ez⟩:=T _ (List.getElem_mem hi2)
    rw[ez] at rx
    unfold Rep at rx
    subst rx
    obtain⟨t,et⟩:=ru
    rw[et]
    exact .now
   refine kind_any (s:={ s with heap:=h3 }) (λu hu=>?_) λκ=>hQ κ λhstr hlen=>?b
   case b =>
    have m0:ds[0]'(by lia)∈ds:=List.getElem_mem _
    obtain⟨es,ee,_⟩:=T _ m0
    obtain⟨z,ez⟩:=hstr _ m0
    rw[ee] at ez
    cases ez
   obtain⟨i,hi,rfl⟩:=List.mem_iff_getElem.mp hu
   have hi2:i<ds.length:=by lia
   obtain⟨x,hx,rx⟩:=r.at (List.getElem?_eq_getElem hi2)
   obtain⟨u',eu,ru⟩:=v.get hx
   rw[List.getElem?_eq_getElem hi] at eu
   cases eu
   obtain⟨es,ee,he,hk⟩:=T _ (List.getElem_mem hi2)
   rw[ee] at rx
   unfold Rep at rx
   obtain⟨b,ys,rfl,hb,r1⟩:=rx
   obtain⟨its,v1,p1,_⟩:=I3.tuple hb.sq
   obtain⟨o1,q1,c1,n1,y1⟩:=id p1
   refine⟨b,o1,its.toArray,n1,ru,q1,c1,y1,λf hf=>?_⟩
   have hf':its[0]?=some f:=by simpa using hf
   have h0:0<es.length:=by
    rw[r1.length,v1.length]
    exact(List.getElem?_eq_some_iff.mp hf').1
   obtain⟨y,hy,ry⟩:=r1.at (List.getElem?_eq_getElem h0)
   obtain⟨f',ef,rf⟩:=v1.get hy
   rw[hf'] at ef
   cases ef
   have hkey:=hk _ (List.getElem?_eq_getElem h0)
   generalize es[0]=d0 at hkey ry
   cases d0 with
  |str z =>
    unfold Rep at ry
    subst ry
    obtain⟨t,rfl⟩:=rf
    exact⟨.type "str",λM=>.now⟩
  |tup gs =>
    unfold Rep at ry
    obtain⟨c,zs,rfl,hc,_⟩:=ry
    cases rf
    obtain⟨its3,_,p3,_⟩:=I3.tuple hc.sq
    obtain⟨o3,q3,_⟩:=id p3
    exact⟨o3.cls,λM=>(Looks.ld q3).andThen .now⟩
  |_=>cases hkey
  refine wpAny_bind (kind _ λκ hκ=>?_)
  ·rw[if_neg h2']
   refine wpAny_bind (wpAny_mono (q35 I3 r v S h2v hu κ hκ (Q:=λst s'=>s'={ s with heap:=h3 }/\∃q:List Nat,q.Perm (List.range ds.length)/\q.Pairwise (λi j=>ltD (ds.getD j .non) (ds.getD i .non)=false)/\(arrOf st).map (·.2)=List.toArray (q.map λi=>vs.getD i Value.none)/\failedOf st=none)
    λst q a1 a2 a3 a4=>⟨rfl,q,a1,a2,a3,a4⟩) ?_ λ_ _ z=>z)
   rintro⟨⟨⟩,st⟩ s' ⟨rfl,q,a1,a2,a3,a4⟩
   have hql:q.length=ds.length:=by
    have:=a1.length_eq
    simpa using this
   dsimp only
   refine wpAny_bind (seqEpoch_at (s:={ s with heap:=h3 }) ho3 rfl (wpAny_bind (listUpdate_at (s:={ s with heap:=h3 }) ho3 rfl ?_ (Nat.zero_le _) ?_)))
   ·rw[a4]
    simp only[bne_self_eq_false,Bool.false_eq_true,if_false]
    exact wpAny_pure (fin q _ a1 a2 a3)
   ·show ((arrOf st).map (·.2)).size<=_
    rw[a3]
    simp
    lia
theorem qk1(hu:X.A.units+60<cLine):CallR X (.builtin "sorted") (λxs H Q=>∃p ys ds,xs=[.ref p]/\SqL X.K H p ys/\Reps X.K H ds ys/\SortW ds/\∀l (q:List Nat),H l=none->q.Perm (List.range ds.length)->q.Pairwise (λi j=>ltD (ds.getD j .non) (ds.getD i .non)=false)->Q (.ref l) (upd H l (.lst (q.map λi=>ys.getD i .non)))):=by
 intro pins s σ H xs us Q I rx h
 obtain⟨p,ys,ds,rfl,hp,r,S,hq⟩:=h
 obtain⟨u,rfl,ru⟩:=vals1 rx
 cases ru
 obtain⟨its,v,pl,hz⟩:=I.list hp
 have hl:ds.length=its.length:=r.length.trans v.length
 refine Calls.call_function_entry kind_sorted plain_sorted entry_sorted (args_sorted1 _) ?_
 unfold Builtin.«sorted»
 refine wpAny_bind (m:=checkCount "sorted" 1 1 _) (wpAny_pure ?_)
 have hz':its.length<=sizeLine:=by rw[←v.length];exact hz
 refine wpAny_bind (collect_list pl.isList (wpAny_bind (wpAny_newList ?_ hz')) hz')
 generalize e1:(s.heap.push (seqObj "list" #[] 0)).update s.heap.objs.size _=h1
 have n1:h1.objs.size=s.heap.objs.size+1:=by rw[←e1,Heap.size_update,size_push']
 have k1:∀b o,s.heap.get? b=some o->h1.get? b=some o:=λb o q=>by
  have lt:b<s.heap.objs.size:=Heap.lt_size q
  rw[←e1,Heap.get?_update_ne _ _ _ _ (Nat.ne_of_lt lt)]
  exact Heap.get?_push_of_some _ q
 generalize e2:Heap.push _ _=h2
 have hD:h2.get? h1.objs.size=some (seqObj "list" its.toArray 0):=by rw[←e2];exact Heap.get?_push_size _ rfl
 have k2:∀b o,s.heap.get? b=some o->h2.get? b=some o:=λb o q=>by rw[←e2];exact Heap.get?_push_of_some _ (k1 b o q)
 have un:X.A.in1.units=X.A.units+1:=rfl
 have un2:X.A.in1.in1.units=X.A.units+2:=rfl
 show wpAny (model X.prog X.w) X.A.in1 (do let _ ←holding [Value.ref h1.objs.size] (call (.builtin "list.sort") [.ref h1.objs.size]);ret (.ref h1.objs.size)) _ X.xe { s with heap:=h2 }
 refine wpAny_bind (wpAny_holding (wpAny_call_entry (s:={ s with heap:=h2 }) slot_list_sort ⟨_,hD,rfl⟩ entry_list_sort ?_ (args_list_sort _)))
 refine qw9 (s:={ s with heap:=h2 }) (H:=H) (σ:=σ) (pins:=pins) (X:=X) hD (λh' kp=>?_) r v S hz' (by lia) λq h' m hqp hqs kp he=>⟨_,rfl,?_⟩
 ·refine I.kept (t':=s.toks) λb o e=>?_
  refine kp b o (λz=>?_) (k2 b o e)
  have lt:b<s.heap.objs.size:=Heap.lt_size e
  rw[z,n1] at lt
  exact Nat.not_succ_le_self _ (Nat.le_of_lt lt)
 ·refine wpAny_pure ⟨_,rfl,.ref h1.objs.size,upd H h1.objs.size (.lst (q.map λi=>ys.getD i .non)),?_,rfl,hq _ q (I.hok.fresh (by lia)) hqp hqs⟩
  have hqm:∀i∈q,i<ys.length:=λi hi=>by
   have:=hqp.mem_iff.mp hi
   rw[←r.length]
   simpa using this
  refine I.laid (t':=s.toks) (λb o e=>?_) (by lia) ⟨?_,_,m,v.pick q hqm,he⟩
  ·refine kp b o (λz=>?_) (k2 b o e)
   have lt:b<s.heap.objs.size:=Heap.lt_size e
   rw[z,n1] at lt
   exact Nat.not_succ_le_self _ (Nat.le_of_lt lt)
  ·have:=hqp.length_eq
   rw[List.length_map,this,List.length_range]
   have:=r.length
   lia
end
end L2
namespace L2
open PySem PySem.Spec PyProof.Rows
section
variable {X:Cx} {EX:St->XK} {K:PySem.W.Frag} {B H H0:Hp} {e:Expr} {es:List Expr} {tA:TVA} {x y:Str} {p pos:Pos}
def qff(rx:R)(Q:R->Prop):Prop:=match rx.d with
|.lst ds=>SortD ds/\∀ds',ds'.Perm ds->ds'.Pairwise (λa b=>ltD a b=true)->Q (.own (.lst ds'))
|_=>False
def qi0(rx:R)(Q:R->Prop):Prop:=match rx.d with
|.lst ds=>SortW ds/\∀ds',ds'.Perm ds->ds'.Pairwise (λa b=>ltD b a=false)->Q (.own (.lst ds'))
|_=>False
theorem qo3(hu64:X.A.units+64<cLine):VF X (.builtin "sorted") qi0:=by
 have hu:X.A.units+60<cLine:=by lia
 refine⟨_,qk1 hu,λB H x rx Q Qd s px h k=>?_⟩
 unfold qi0 at h
 split at h
 ·rename_i ds e1
  obtain⟨hS,hq⟩:=h
  obtain⟨a,xs,rfl,h1,r1⟩:=px.lst s e1
  refine⟨a,xs,ds,rfl,SqL.of h1,r1.same s,hS,λl q hn hp hs=>?_⟩
  have hm:∀i∈q,i<ds.length:=λi hi=>by simpa using hp.mem_iff.mp hi
  have hr:((List.range ds.length).map λi=>ds.getD i .non)=ds:=by
   apply List.ext_getElem
   ·simp
   ·intro i h1 h2
    simp[List.getD_eq_getElem?_getD,h2]
  refine k (.own (.lst (q.map λi=>ds.getD i .non))) _ B _ (.grow s (qak hn _)) ⟨l,rfl,hn,s.free hn,qbt (r1.pick q hm)⟩ (hq _ ?_ ?_)
  ·have:=hp.map λi=>ds.getD i .non
   rw[hr] at this
   exact this
  ·rw[List.pairwise_map]
   exact hs
 ·exact h.elim
theorem qiv{ds es:List D}(S:SortD ds)(hp:es.Perm ds)(h:es.Pairwise (λa b=>ltD b a=false)):es.Pairwise (λa b=>ltD a b=true):=by
 have nd:=hp.nodup_iff.mpr S.nd
 rw[List.nodup_iff_pairwise_ne] at nd
 exact(nd.and h).imp_of_mem λ{a b} ha hb z=>(S.tot a (hp.mem_iff.mp ha) b (hp.mem_iff.mp hb) z.1).resolve_right (by rw[z.2];exact Bool.false_ne_true)
theorem qr7(hu64:X.A.units+64<cLine):VF X (.builtin "sorted") qff :=
 let ⟨_,h1,h2⟩:=(qo3 hu64).u;⟨_,h1,λB H x rx Q Qd s px h k=>h2 B H x rx Q Qd s px (by
  unfold qff at h
  unfold qi0
  split at h
  ·rename_i ds e1
   exact⟨h.1.w,λds' hp hs=>h.2 ds' hp (qiv h.1 hp hs)⟩
  ·exact h.elim) k⟩
def qor(r:R)(Q:R->Prop):Prop:=match r with
|.val d=>match dV d with
 |some _=>Q (.val d)
 |none=>False
|_=>False
end
def keyW(w:List Str):List (List Nat):=w.map (·.cps.toList)
theorem qm4:∀ {a b:List Str},keyW a=keyW b->a=b
|[],[],_=>rfl
|[],_::_,h=>by cases h
|_::_,[],h=>by cases h
|x::a,y::b,h=>by
  injection h with h1 h2
  rw[qdc h1,qm4 h2]
theorem qm6:∀a b:List Str,ltDs (a.map D.str) (b.map D.str)=decide (keyW a<keyW b)
|[],[]=>by unfold ltDs;simp[keyW]
|[],y::b=>by
  show ltDs [] (.str y::b.map D.str)=_
  unfold ltDs
  simp[keyW]
|x::a,[]=>by
  show ltDs (.str x::a.map D.str) []=_
  unfold ltDs
  simp[keyW]
|x::a,y::b=>by
  show ltDs (.str x::a.map D.str) (.str y::b.map D.str)=decide (x.cps.toList::keyW a<y.cps.toList::keyW b)
  unfold ltDs
  rw[qm6 a b]
  by_cases e:x=y
  ·subst e
   rw[if_pos (qd6 _)]
   exact decide_eq_decide.mpr (by rw[List.cons_lt_cons_iff];simp[List.lt_irrefl])
  ·rw[if_neg (λz=>e (D.str.inj (qvc z)))]
   unfold ltD
   refine decide_eq_decide.mpr ?_
   rw[List.cons_lt_cons_iff]
   constructor
   ·exact .inl
   ·rintro (z|⟨z,_⟩)
    ·exact z
    ·exact absurd (qdc z) e
theorem qw4{a b c:List (List Nat)}(h1:a<b)(h2:b<c):a<c:=List.lt_trans h1 h2
theorem qw3{a b:List (List Nat)}(h1:a<b):¬ b<a:=λh2=>List.lt_irrefl a (List.lt_trans h1 h2)
theorem qs8(a b:List (List Nat))(h:a≠b):a<b\/b<a:=by
 by_cases h1:a<b
 ·exact .inl h1
 ·by_cases h2:b<a
  ·exact .inr h2
  ·exact absurd (List.le_antisymm (List.not_lt.mp h2) (List.not_lt.mp h1)) h
def ltW(a b:List Str):Bool:=decide (keyW a<keyW b)
theorem qdb(a b:List Str):ltD (wayD a) (wayD b)=ltW a b:=by
 show ltD (.tup (a.map D.str)) (.tup (b.map D.str))=_
 unfold ltD
 exact qm6 a b
theorem qqp{a b c:List Str}(h1:ltW a b=true)(h2:ltW b c=true):ltW a c=true:=decide_eq_true (qw4 (of_decide_eq_true h1) (of_decide_eq_true h2))
theorem qfl{a b:List Str}(h1:ltW a b=true):ltW b a=false:=decide_eq_false (qw3 (of_decide_eq_true h1))
theorem qqo{a b:List Str}(h:a≠b):ltW a b=true\/ltW b a=true:=(qs8 _ _ λe=>h (qm4 e)).imp decide_eq_true decide_eq_true
theorem qnc:∀a b:List Str,qc4 (a.map D.str) (b.map D.str)=true
|[],_=>by
  show qc4 [] _=true
  unfold qc4
  rfl
|_::_,[]=>by
  show qc4 (_::_) []=true
  unfold qc4
  rfl
|x::a,y::b=>by
  show qc4 (.str x::a.map D.str) (.str y::b.map D.str)=true
  unfold qc4
  rw[qnc a b]
  unfold ordD
  rfl
theorem qwq(a:List Str):qb2 (a.map D.str)=0:=by
 induction a with
|nil=>rfl
|cons x a ih =>
  show max (depD (.str x)) (qb2 (a.map D.str))=0
  rw[ih]
  rfl
theorem qnt{a b:List Str}(h:wayD a=wayD b):a=b:=by
 have h':a.map D.str=b.map D.str:=D.tup.inj h
 exact(qek _ _).mp h'
theorem qos{ws:List (List Str)}(nd:ws.Nodup):SortD (ws.map wayD) where
 tup:=.inl λd hd=>by
  obtain⟨w,_,rfl⟩:=List.mem_map.mp hd
  refine⟨w.map D.str,rfl,by rw[qwq];lia,λx hx=>?_⟩
  rw[List.getElem?_map] at hx
  obtain⟨z,_,rfl⟩:=Option.map_eq_some_iff.mp hx
  rfl
 ord:=λd hd e he=>by
  obtain⟨a,_,rfl⟩:=List.mem_map.mp hd
  obtain⟨b,_,rfl⟩:=List.mem_map.mp he
  show ordD (.tup _) (.tup _)=true
  unfold ordD
  exact qnc a b
 tr:=λd hd e he f hf=>by
  obtain⟨a,_,rfl⟩:=List.mem_map.mp hd
  obtain⟨b,_,rfl⟩:=List.mem_map.mp he
  obtain⟨c,_,rfl⟩:=List.mem_map.mp hf
  rw[qdb,qdb,qdb]
  exact qqp
 as:=λd hd e he=>by
  obtain⟨a,_,rfl⟩:=List.mem_map.mp hd
  obtain⟨b,_,rfl⟩:=List.mem_map.mp he
  rw[qdb,qdb]
  exact qfl
 tot:=λd hd e he ne=>by
  obtain⟨a,_,rfl⟩:=List.mem_map.mp hd
  obtain⟨b,_,rfl⟩:=List.mem_map.mp he
  rw[qdb,qdb]
  exact qqo λz=>ne (by rw[z])
 nd:=by
  rw[List.nodup_iff_pairwise_ne] at nd ⊢
  rw[List.pairwise_map]
  exact nd.imp λh z=>h (qnt z)
end L2
namespace L2
open PySem PySem.Spec PyProof.Rows
def qvy(tk tv:TE):TE:=λσ H Q=>∀p,H p=none->tk σ (upd H p (.dT [])) λx H1=>tv σ H1 λy H2=>H2 p=some (.dT [])/\∃b ks,x=.ref b/\H2 b=some (.tup (ks.map kV))/\Q (.ref p) (upd H2 p (.dT [(ks,y)]))
def ql5(C:V->V->Hp->Prop)(ps:List (V×V))(H:Hp):Prop:=match ps with
|[(x,y)]=>C x y H
|_=>False
theorem qol{C:V->V->Hp->Prop}{ps:List (V×V)}{H:Hp}(h:ql5 C ps H):∃x y,ps=[(x,y)]/\C x y H:=by
 unfold ql5 at h
 split at h
 ·exact⟨_,_,rfl,h⟩
 ·exact h.elim
section
variable {X:Cx} {pos:Pos} {k v:Expr} {tk tv:TE}
theorem qtq(hu:X.A.units+1<cLine)(hk:PE X k tk)(hv:PE X v tv):PE X (.Dict [some k] [v] pos) (qvy tk tv):=by
 intro pins s σ H Q I h
 have hn:=I.hok.fresh (Nat.le_refl s.heap.objs.size)
 have I1:=I.laid (a:=s.heap.objs.size) (o:=.dT []) (h':=s.heap.push { cls:=.type "dict",data:=.dict #[] }) (t':=s.toks) (λ_ _ q=>Heap.get?_push_of_some _ q) (Nat.le_refl _) (qmy s.heap I.big)
 have P:=qtw (pos:=pos) hk hv qx4 pins _ σ _ (ql5 λx y H2=>H2 s.heap.objs.size=some (.dT [])/\∃(b:Addr) (ks:List Key),x=.ref b/\H2 b=some (.tup (ks.map kV))/\Q (.ref s.heap.objs.size) (upd H2 s.heap.objs.size (.dT [(ks,y)]))) I1 (h _ hn)
 rw[arm_eval_Dict,zip_pairTrees [some k] [v] X.env pos rfl rfl,dictDisplay_pairs _ (by simp[pairTrees]) (by simp[pairTrees])]
 refine wpAny_bind (wpAny_standAt (wpAny_bind ?_))
 unfold subDict
 refine wpAny_bind (wpAny_alloc (wpAny_bind (wpAny_holding ?_)))
 rw[if_pos (by simp[pairTrees])]
 refine wpAny_bind (wpAny_mono P (λws s2 hw=>?_) λ_ _ e=>e)
 obtain⟨ps,H2,I2,rel,hp⟩:=hw
 obtain⟨x,y,rfl,e,b,ks,rfl,eb,q2⟩:=qol hp
 cases rel with
|cons hr rel =>
 cases rel
 obtain⟨ru,rv⟩:=hr
 rename_i wp
 obtain⟨u,r⟩:=wp
 obtain rfl:u=Value.ref b:=ru
 obtain⟨z,hd,xs,rk,dd⟩:=qwr I2.hok e
 cases rk
 refine wpAny_holding ?_
 rw[List.forIn_cons]
 refine wpAny_bind (wpAny_bind (wpAny_bind (wpAny_dictSet_heap (hsz:=Nat.zero_le _) (show (tupleKind (qbs X.prog X.w)).room X.A from by show X.A.units<cLine;lia) (qhm I2.hok eb) dd λh' dd' hs=>wpAny_pure ?_)))
 dsimp only
 rw[List.forIn_nil]
 refine wpAny_pure (wpAny_pure (wpAny_pure (wpAny_pure ⟨.ref s.heap.objs.size,_,?_,rfl,q2⟩)))
 obtain⟨q,es,ep,hq,g2,g3,g4,_,g5⟩:=dd'
 refine qh6 I2 (by rw[e];exact True.intro) hs ⟨q,hq⟩ ⟨by show 1<=sizeLine;decide,hd,[(ks,b,r)],.cons ⟨rfl,?_,rv⟩ .nil,q,es,ep,hq,g2,g3,g4,g5⟩
 rw[qau (qxg eb e (λz=>nomatch z))]
 exact eb
theorem qt0(hu:X.A.units+1<cLine)(hk:QE X k tk)(hv:QE X v tv):QE X (.Dict [some k] [v] pos) (qvy tk tv):=⟨qtq hu hk.u hv.u⟩
end
section
variable {X:Cx} {EX:St->XK} {pos:Pos} {k v:Expr} {tk tv:TV}
def qki(tk tv:TV):TV:=λτ Q=>tk τ λrk=>match rk.d with
|.tup es=>∃w:List Str,es=w.map D.str/\("" : Str)∉w/\tv τ λrv=>exR rv (λ_=>False) (pubR rv λd=>Q (.own (.dT [w] [d])))
|_=>False
theorem qus(hu:X.A.units+64<cLine)(hk:VE X EX k tk)(hv:VE X EX v tv):VE X EX (.Dict [some k] [v] pos) (qki tk tv) :=
 let ⟨_,a1,a2⟩:=hk.u;let ⟨_,b1,b2⟩:=hv.u;⟨_,qt0 (by lia) a1 b1,λH0 B H τ σ Q Qd s S h xc kk p hp=>by
  have g0:Stp B H B (upd H p (.dT [])):=.grow s (qak hp _)
  refine a2 H0 B (upd H p (.dT [])) τ σ _ _ g0.s (S.step g0) h (xno λ_ q=>q) λrk vk B1 H1 p1 q1 h1=>?_
  split at h1
  ·rename_i es ek
   obtain⟨w,rfl,hne,h1⟩:=h1
   obtain⟨b,rfl,hb⟩:=q1.pk.way ek hne
   have S1:=S.step (g0.trans p1)
   refine b2 H0 B1 H1 τ σ _ _ p1.s S1 h1 (xno λ_ q=>by exact q) λrv vv B2 H2 p2 q2 h2=>?_
   obtain⟨d,B3,p3,_,rp,hq⟩:=pub p2 q2 (q2.ok h2)
   have hpp:(upd H p (.dT [])) p=some (.dT []):=qa0
   have e1:H1 p=some (.dT []):=p1.h _ _ hpp
   have e2:H2 p=some (.dT []):=p3.h _ _ e1
   refine⟨e2,b,wK w,rfl,?_,?_⟩
   ·rw[qo4]
    exact p3.h _ _ (p1.s _ _ hb)
   ·have hB3:B3 p=none:=(p1.trans p3).keep (s.free hp) (by rw[hpp];exact λz=>by cases z) λxs z=>by rw[hpp] at z;cases z
    refine kk (.own (.dT [w] [d])) _ B3 _ ?_ ⟨p,rfl,hp,hB3,?_⟩ hq
    ·exact(g0.trans (p1.trans p3)).upd hp hB3
    ·refine⟨[(wK w,vv)],qa0,rfl,.cons rp .nil⟩
  ·exact h1.elim⟩
end
end L2
namespace L2
open PySem PySem.Spec PyProof.Rows
theorem Room.dict{k:Nat}{A:Around}(r:Room k A):A.units+64<cLine:=by
 have:=r.un
 lia
end L2
namespace L2
open PySem PySem.Spec PyProof.Rows
section
variable {X:Cx} {EX:St->XK} {a:Expr} {ta:TV} {p pos:Pos}
end
end L2
namespace L2
open PySem PySem.Spec PyProof.Rows
theorem eqW(a b:List Str):eqD (.tup (a.map D.str)) (.tup (b.map D.str))=decide (a=b):=qa3 (by
  rw[eqD_iff,decide_eq_true_eq]
  exact⟨λz=>qnt z,λz=>by rw[z]⟩)
theorem cmpW(a b:List Str):cmpD (.tup (a.map D.str)) (.tup (b.map D.str))=true:=by
 unfold cmpD
 exact qmu _ _
theorem depW(a:List Str):depD (.tup (a.map D.str))<=50:=by
 unfold depD
 rw[qh7]
 decide
def unW:D->List Str
|.tup es=>(strsOf es).getD []
|_=>[]
theorem qme(w:List Str):unW (wayD w)=w:=by
 show (strsOf (w.map D.str)).getD []=w
 rw[qfc]
 rfl
theorem qsr{ds:List D}{ws:List (List Str)}(hp:ds.Perm (ws.map wayD))(hs:ds.Pairwise (λa b=>ltD a b=true)):∃vs:List (List Str),ds=vs.map wayD/\vs.Perm ws/\vs.Pairwise (λa b=>ltW a b=true):=by
 have e:ds=(ds.map unW).map wayD:=by
  rw[List.map_map]
  refine(List.map_id _).symm.trans (List.map_congr_left λd hd=>?_)
  obtain⟨w,_,rfl⟩:=List.mem_map.mp (hp.mem_iff.mp hd)
  show wayD w=wayD (unW (wayD w))
  rw[qme]
 refine⟨ds.map unW,e,?_,?_⟩
 ·have:=hp.map unW
  rw[List.map_map] at this
  exact this.trans (List.Perm.of_eq ((List.map_congr_left λw _=>qme w).trans (List.map_id _)))
 ·rw[e,List.pairwise_map] at hs
  exact hs.imp λh=>by rw[←qdb];exact h
abbrev Row:=List Str×Str×Str
def rowD(r:Row):D:=.tup [wayD r.1,.str r.2.1,.str r.2.2]
def unR:D->Row
|.tup [w,.str m,.str t]=>(unW w,m,t)
|_=>([],"","")
theorem qrx(r:Row):unR (rowD r)=r:=by
 show (unW (wayD r.1),r.2.1,r.2.2)=r
 rw[qme]
theorem cmpR(a b:Row):cmpD (rowD a) (rowD b)=true:=by
 show cmpD (.tup [.tup (a.1.map D.str),.str a.2.1,.str a.2.2]) (.tup [.tup (b.1.map D.str),.str b.2.1,.str b.2.2])=true
 have h:=cmpW a.1 b.1
 unfold cmpD at h ⊢
 simp only[qcl,cmpD,h,qk2,Bool.and_self,Bool.true_and]
theorem qwp(a:Row):depD (rowD a)=1+0\/depD (rowD a)<=20:=by
 right
 show depD (.tup [.tup (a.1.map D.str),.str a.2.1,.str a.2.2])<=20
 unfold depD
 simp only[qb2,depD,qh7]
 decide
theorem depR(a:Row):depD (rowD a)<=20:=by
 rcases qwp a with h|h
 ·lia
 ·exact h
theorem qj1{rs:List Row}(nd:(rs.map (·.1)).Nodup){a b:Row}(ha:a∈rs)(hb:b∈rs)(h:a.1=b.1):a=b:=by
 induction rs with
|nil=>cases ha
|cons r rs ih =>
  rw[List.map_cons,List.nodup_cons] at nd
  rcases List.mem_cons.mp ha with ea|ha2
  ·rcases List.mem_cons.mp hb with eb|hb2
   ·rw[ea,eb]
   ·exact absurd (show r.1∈rs.map (·.1) from List.mem_map.mpr ⟨b,hb2,by rw[←h,ea]⟩) nd.1
  ·rcases List.mem_cons.mp hb with eb|hb2
   ·exact absurd (show r.1∈rs.map (·.1) from List.mem_map.mpr ⟨a,ha2,by rw[h,eb]⟩) nd.1
   ·exact ih nd.2 ha2 hb2
abbrev qa7(rs:List Row):Prop:=rs.Pairwise (λa b=>ltW a.1 b.1=true)
theorem qe8{rs:List Row}(h:qa7 rs):(rs.map (·.1)).Nodup:=by
 rw[List.nodup_iff_pairwise_ne,List.pairwise_map]
 exact h.imp λ{a b} q z=>by
  rw[z] at q
  have:=qfl q
  rw[q] at this
  cases this
def qbd(rs:List Row):D:=.lst (rs.map rowD)
theorem qz1:∀rs ts:List Row,qcl (rs.map rowD) (ts.map rowD)=true
|[],_=>by cases ‹List Row›<;>rfl
|_::_,[]=>rfl
|a::rs,b::ts=>by
  show qcl (rowD a::rs.map rowD) (rowD b::ts.map rowD)=true
  unfold qcl
  rw[cmpR,qz1 rs ts]
  rfl
theorem qz0(rs ts:List Row):cmpD (qbd rs) (qbd ts)=true:=by
 show cmpD (.lst _) (.lst _)=true
 unfold cmpD
 exact qz1 rs ts
theorem qz5:∀rs:List Row,qb2 (rs.map rowD)<=20
|[]=>by
  show qb2 []<=20
  unfold qb2
  lia
|a::rs=>by
  show qb2 (rowD a::rs.map rowD)<=20
  unfold qb2
  have:=depR a
  have:=qz5 rs
  lia
theorem qz4(rs:List Row):depD (qbd rs)<=21:=by
 show depD (.lst _)<=21
 unfold depD
 have:=qz5 rs
 lia
theorem quf{rs ts:List Row}(h:rs.map rowD=ts.map rowD):rs=ts:=by
 have:=congrArg (List.map unR) h
 rw[List.map_map,List.map_map] at this
 exact((List.map_id _).symm.trans (List.map_congr_left λr _=>(qrx r).symm)).trans (this.trans ((List.map_congr_left λr _=>qrx r).trans (List.map_id _)))
theorem eqRL(rs ts:List Row):eqD (qbd rs) (qbd ts)=decide (rs=ts):=qa3 (by
  rw[eqD_iff,decide_eq_true_eq]
  exact⟨λz=>quf (D.lst.inj z),λz=>by rw[z]⟩)
section
variable {X:Cx} {pins:List (Addr×Obj)} {σ:St} {H:Hp} {s:Shared}
def vNeD(rx ry:R)(Q:R->Prop):Prop:=cmpD rx.d ry.d=true/\depD rx.d<=50/\Q (.val (.bl (!eqD rx.d ry.d)))
end
section
variable {X:Cx} {pos p2:Pos} {e st:Expr} {te:TE} {lo hi:Option Expr} {tl th ts:TO}
end
section
variable {X:Cx} {EX:St->XK} {pos p2:Pos} {e st:Expr} {te:TV} {lo hi:Option Expr} {tl th ts:TVO} {K:PySem.W.Frag} {B:Hp}
end
end L2
namespace L2
section
variable {α:Type} [DecidableEq α]
end
section
variable {α β:Type} [DecidableEq α]
end
end L2
namespace L2
open PySem
abbrev qai:Str:="folder"
abbrev qcy:Str:="shut"
abbrev qee:Str:="gone"
abbrev qav:Str:="file"
abbrev qb0:Str:="link"
abbrev tEmpty:Str:=""
theorem mne:qcy≠qai/\qee≠qai/\qav≠qai/\qb0≠qai/\qee≠qcy/\qav≠qcy/\qb0≠qcy/\qav≠qee/\qb0≠qee/\qb0≠qav:=by decide +kernel
theorem qxa(l:List (List Nat))(x:List Nat):l<l++[x]:=by
 induction l with
|nil=>exact List.nil_lt_cons _ _
|cons y l ih=>exact List.cons_lt_cons_iff.mpr (.inr ⟨rfl,ih⟩)
theorem qte{w:List Str}(h:w≠[]):ltW w.dropLast w=true:=by
 refine decide_eq_true ?_
 conv=>rhs;rw[←List.dropLast_concat_getLast h]
 unfold keyW
 rw[List.map_append]
 exact qxa _ _
def inR(p:List Row)(w:List Str):Bool:=decide (w∈p.map (·.1))
def qxb(p:List Row)(w:List Str):Option Str:=(p.find? λr=>decide (r.1=w)).map (·.2.1)
def q0b:Option Str->Bool
|none=>false
|some m=>!decide (m=qai)
def q3d(p:List Row)(w:List Str):Bool:=(List.range w.length).any λk=>q0b (qxb p (w.take k))
theorem qm8(p:List Row)(w:List Str):(qxb p w).isSome=inR p w:=by
 unfold qxb inR
 rw[Option.isSome_map]
 by_cases h:w∈p.map (·.1)
 ·rw[decide_eq_true h,List.find?_isSome]
  obtain⟨r,mr,er⟩:=List.mem_map.mp h
  exact⟨r,mr,decide_eq_true er⟩
 ·rw[decide_eq_false h,Bool.eq_false_iff]
  intro q
  rw[List.find?_isSome] at q
  obtain⟨r,mr,er⟩:=q
  exact h (List.mem_map.mpr ⟨r,mr,of_decide_eq_true er⟩)
structure TreeOk(tr:List Row):Prop where
 so:qa7 tr
 cl:∀r∈tr,r.1≠[]/\(r.1.dropLast=[]\/r.1.dropLast∈tr.map (·.1))
structure PaneOk(p:List Row):Prop where
 so:qa7 p
 cl:∀r∈p,r.1=[]\/r.1.dropLast=[]\/∃q∈p,q.1=r.1.dropLast/\q.2.1≠qee
 mr:∀r∈p,(r.2.1=qav\/r.2.1=qb0)\/(r.2.1=qai/\r.2.2=tEmpty)\/r.2.1=qcy\/r.2.1=qee
 rt:∀r∈p,r.1=[]->r.2.1=qcy
structure Clo(tr:List Row):Prop where
 so:qa7 tr
 cl:∀r∈tr,r.1=[]\/r.1.dropLast=[]\/r.1.dropLast∈tr.map (·.1)
def thD:Str×Str->D:=λt=>.tup [.str t.1,.str t.2]
def WyOk(w:List Str):Prop:=w.length<=20/\∀z∈w,1<=z.length/\z.length<=12
def Wy14(w:List Str):Prop:=w.length<=14/\∀z∈w,1<=z.length/\z.length<=12
theorem WyOk.ne{w:List Str}(h:WyOk w):("" : Str)∉w:=λm=>by
 have:=(h.2 _ m).1
 have e:("" : Str).length=0:=by decide +kernel
 lia
def prR(r:Row):List Str×D:=(r.1,thD r.2)
theorem qql(rs:List Row)(w:List Str):lkP (rs.map prR) w=(rs.find? λr=>decide (r.1=w)).map λr=>thD r.2:=by
 unfold lkP
 rw[List.find?_map,Option.map_map]
 rfl
theorem qss(rs:List Row):(rs.map prR).map (·.1)=rs.map (·.1):=by rw[List.map_map];rfl
def bulk(p:List Row):Nat:=(p.filter λr=>!decide (r.1=[])).length
def mkOk(r:Row):Prop:=(r.2.1=qav\/r.2.1=qb0)\/(r.2.1=qai/\r.2.2=tEmpty)\/r.2.1=qcy\/r.2.1=qee
def FS(m:Str):Prop:=m=qai\/m=qcy
def qv9(rs:List Row)(f:List Str):Prop:=Wy14 f/\(f=[]\/∃q∈rs,q.1=f/\FS q.2.1)
def qzs(rs:List Row)(r:Row):Prop:=(r.1=[]/\r.2.1=qcy)\/(r.1≠[]/\Wy14 r.1/\qv9 rs r.1.dropLast/\mkOk r)
structure PInv(i:Nat)(rs:List Row)(fs:List (List Str)):Prop where
 nd:(rs.map (·.1)).Nodup
 row:∀r∈rs,qzs rs r
 blk:bulk rs<=i
 len:rs.length<=i+1
 ne:fs≠[]
 fol:∀f∈fs,qv9 rs f
 fln:fs.length<=i+1
 nu:∀r∈rs,r.2.1=qee\/r.2.1=qcy->q3d rs r.1=false
theorem anc{rs:List Row}(row:∀r∈rs,qzs rs r):∀(n:Nat) (f:List Str),f.length=n->qv9 rs f->∀k,0<k->k<=f.length->∃q∈rs,q.1=f.take k/\FS q.2.1
|0,f,hn,_,k,h0,hk=>by lia
|n+1,f,hn,hf,k,h0,hk=>by
  have fne:f≠[]:=λz=>by rw[z] at hn;cases hn
  obtain⟨q,mq,eq,fq⟩:=hf.2.resolve_left fne
  rcases Nat.lt_or_ge k f.length with h|h
  ·rcases row q mq with c|⟨_,_,c,_⟩
   ·exact absurd (eq▸c.1) fne
   ·rw[eq] at c
    have hl:f.dropLast.length=n:=by rw[List.length_dropLast];lia
    obtain⟨o,mo,eo,fo⟩:=anc row n f.dropLast hl c k h0 (by lia)
    refine⟨o,mo,?_,fo⟩
    rw[eo,List.dropLast_eq_take,List.take_take,Nat.min_eq_left (by lia)]
  ·have:k=f.length:=by lia
   rw[this,List.take_length]
   exact⟨q,mq,eq,fq⟩
def lkR(rs:List Row)(w:List Str):Str×Str:=((rs.find? λr=>decide (r.1=w)).map (·.2)).getD (tEmpty,tEmpty)
theorem qib{rs:List Row}(nd:(rs.map (·.1)).Nodup){r:Row}(h:r∈rs):(rs.find? λq=>decide (q.1=r.1))=some r:=by
 cases e:rs.find? λq=>decide (q.1=r.1) with
|none=>exact absurd (decide_eq_true rfl) (List.find?_eq_none.mp e r h)
|some q =>
  have h1:=List.mem_of_find?_eq_some e
  have h2:q.1=r.1:=of_decide_eq_true (p:=q.1=r.1) (by simpa using List.find?_some e)
  rw[qj1 nd h1 h h2]
theorem qka{rs:List Row}(nd:(rs.map (·.1)).Nodup){vs:List (List Str)}(hv:vs.Perm (rs.map (·.1)))(hs:vs.Pairwise (λa b=>ltW a b=true)):(vs.map λw=>(w,lkR rs w)).Perm rs/\qa7 (vs.map λw=>(w,lkR rs w)):=by
 constructor
 ·refine(hv.map _).trans (List.Perm.of_eq ?_)
  rw[List.map_map]
  refine(List.map_congr_left λr hr=>?_).trans (List.map_id _)
  show (r.1,lkR rs r.1)=r
  unfold lkR
  rw[qib nd hr]
  rfl
 ·show List.Pairwise _ (List.map _ _)
  rw[List.pairwise_map]
  exact hs
theorem qw8{rs:List Row}(nd:(rs.map (·.1)).Nodup){w:List Str}(h:w∈rs.map (·.1)):lkP (rs.map prR) w=some (thD (lkR rs w)):=by
 obtain⟨r,mr,rfl⟩:=List.mem_map.mp h
 rw[qql]
 unfold lkR
 rw[qib nd mr]
 rfl
def s6(u:Nat):Nat:=u%99991%9+(u+96542*1)%99991%9+(u+96542*2)%99991%9+(u+96542*3)%99991%9+(u+96542*4)%99991%9+(u+96542*5)%99991%9
end L2
namespace L2
open PySem PySem.Spec PyProof.Rows
section
variable {K:PySem.W.Frag} {B:Hp} {ad:Addr}
end
section
variable {X:Cx} {EX:St->XK} {pos p:Pos} {x y:Str} {es:List Expr} {tA:TVA}
end
end L2
namespace L2
open PySem PySem.Spec PyProof.Rows
structure PaneC(p:List Row):Prop where
 so:qa7 p
 cl:∀r∈p,r.1=[]\/r.1.dropLast=[]\/∃q∈p,q.1=r.1.dropLast/\q.2.1≠qee
section
variable {α:Type} {f:α->D} {τ:VSt} {k:Nat} {g:TVG} {ti:TVT} {te:TV} {Q:R->Prop}
end
def s5(u:Nat):Nat:=u%99991%8+(u+96542*1)%99991%8+(u+96542*2)%99991%8+(u+96542*3)%99991%8+(u+96542*4)%99991%8
theorem v_if{t:TVT}{a b:TVS}{Dv:VEnds}{τ:VSt}(P:Bool->Prop)(ht:∀Y:Bool->Prop,(∀c,P c->Y c)->t τ Y)(ha:P true->a Dv τ)(hb:P false->b Dv τ):vIfS t a b Dv τ :=
 ht _ λc hc=>by
  cases c with
 |true=>exact iteT (ha hc)
 |false=>exact iteF (hb hc)
end L2
namespace L2
open PySem PySem.Spec PyProof.Rows
section
variable {X:Cx} {pins:List (Addr×Obj)} {σ:St} {H:Hp} {s:Shared} {h':Heap}
theorem Inv.turnL{t':Nat}{ch:List Addr}(I:Inv X pins σ H s)(k:∀b o,b∉ch->s.heap.get? b=some o->h'.get? b=some o)(f:∀b∈ch,FpOk X pins H b):Inv X pins σ H { s with heap:=h',toks:=t' }:=by
 refine I.step (g':=s.gens) (d':=s.drawn) (ch:=ch) (λb hb=>?_) (λb o _ _ hc e _=>k b o hc e) (λb o _ _ hc e _=>⟨o.slots,k b o hc e⟩) (λ_ _ _ _ n=>n)
  (λb o hc e=>⟨o,k b o hc e⟩) (λ_ _ e=>e) (λ_ _ _ e=>e) (λb ps e=>⟨#[],by rw[e];simp⟩) (λm hm=>?_) (λb u e=>?_) I.bare
 ·obtain⟨f0,f1,f2,f3,f4,f5⟩:=f b hb
  exact⟨f3,f1,f4,f5⟩
 ·obtain⟨o,es,ep,ho,r⟩:=hm
  exact⟨o,es,ep,k _ o (λz=>(f _ z).2.1 rfl) ho,r⟩
 ·refine(I.hok b u e).stay (λc v hc q=>k c v ?_ q) (λ_ q=>q) λ_ _ q=>q
  rcases hc with z|z
  ·rw[z]
   exact λm=>by rw[(f b m).1] at e;cases e
  ·exact λm=>by rw[(f c m).1] at z;cases z
theorem Inv.turnN{t':Nat}{ch:List Addr}{a:Addr}{o:HO}(I:Inv X pins σ H s)(k:∀b o,b∉ch->s.heap.get? b=some o->h'.get? b=some o)(f:∀b∈ch,FpOk X pins H b)(hp:s.heap.objs.size<=a)(new:ObjOk X.prog X.w (upd H a o) h' a o) :
  Inv X pins σ (upd H a o) { s with heap:=h',toks:=t' }:=by
 have hn:=I.hok.fresh hp
 have lt:∀b u,s.heap.get? b=some u->b≠a:=λb u e=>Nat.ne_of_lt (Nat.lt_of_lt_of_le (Heap.lt_size e) hp)
 refine I.step (g':=s.gens) (d':=s.drawn) (ch:=ch) (λb hb=>?_) (λb o _ _ hc e _=>k b o hc e) (λb o _ _ hc e _=>⟨o.slots,k b o hc e⟩) (λb u _ e n=>by rw[qau (lt b u e)];exact n)
  (λb o hc e=>⟨o,k b o hc e⟩) (λb xs e=>by rw[qau (qa2 e hn)];exact e) (λb u xs e=>by rw[qau (qa2 e hn)];exact e) (λb ps e=>⟨#[],by rw[qau (qa2 e hn),e];simp⟩) (λm hm=>?_) (λb u e=>?_) I.bare
 ·obtain⟨f0,f1,f2,f3,f4,f5⟩:=f b hb
  exact⟨f3,f1,f4,f5⟩
 ·obtain⟨o,es,ep,ho,r⟩:=hm
  exact⟨o,es,ep,k _ o (λz=>(f _ z).2.1 rfl) ho,r⟩
 ·by_cases hb:b=a
  ·subst hb
   rw[qa0] at e
   cases e
   exact new
  ·rw[qau hb] at e
   refine(I.hok b u e).stay (λc v hc q=>k c v ?_ q) (λc q=>by rw[qau (qa2 q hn)];exact q) λc xs q=>by rw[qau (qa2 q hn)];exact q
   rcases hc with z|z
   ·rw[z]
    exact λm=>by rw[(f b m).1] at e;cases e
   ·exact λm=>by rw[(f c m).1] at z;cases z
end
section
variable {X:Cx} {elts:List Expr} {kk:Nat} {tp p pos:Pos}
end
section
variable {X:Cx} {EX:St->XK} {elts:List Expr} {kk:Nat} {tp p pos:Pos} {K:PySem.W.Frag} {B:Hp} {a:Expr} {ta:TV}
end
end L2
namespace L2
open PySem PySem.Spec PyProof.Rows
section
variable {prog:Program} {w:World} {A:Around}
end
section
variable {X:Cx} {p kp pos:Pos} {a d:Expr}
end
section
variable {X:Cx} {EX:St->XK} {p kp pos cp:Pos} {a:Expr} {te:TV} {j:Nat}
end
end L2
namespace L2
open PySem PySem.Spec PyProof.Rows
section
variable {X:Cx} {EX:St->XK} {pos pos' p apos cpos:Pos} {x y:Str} {e:Expr}
end
end L2
namespace L2
open PySem PySem.Spec PyProof.Rows
section
variable {X:Cx} {pins:List (Addr×Obj)} {σ:St} {H:Hp} {s:Shared} {tg:Expr}
end
section
variable {X:Cx} {EX:St->XK} {K:PySem.W.Frag} {B H:Hp} {tg:Expr} {x:Str} {pos:Pos} {rest:List Stmt} {t:TVS}
end
end L2
namespace L2
open PySem PySem.Spec PyProof.Rows
section
variable {X:Cx}
def qyu:V->List V->Hp->VK->Prop:=λx vs H Q=>∃l xs i y,x=.ref l/\vs=[.int i,y]/\H l=some (.lst xs)/\0<=i/\i<=xs.length/\i<2 ^ 60/\xs.length<sizeLine/\Q .non (upd H l (.lst (xs.take i.toNat++y::xs.drop i.toNat)))
theorem qqv:MtM X "list.insert" qyu:=by
 intro pins s σ H x vs v us Q I rx rv h
 obtain⟨l,xs,i,y,rfl,rfl,hH,h0,hk,hk2,hz,q⟩:=h
 cases rx
 obtain⟨u1,us1,rfl,r1,r2⟩:∃u1 us1,us=u1::us1/\RelV (V.int i) u1/\Vals [y] us1:=by
  cases rv with
 |cons a b=>exact⟨_,_,rfl,a,b⟩
 obtain⟨u,rfl,ru⟩:=r2.one
 obtain⟨t,rfl⟩:=r1
 obtain⟨z,its,n,r,hl,e⟩:=I.lstM hH
 have hfit:¬ (!Builtin.List.listFitsIndex i)=true:=by
  rw[fitsIndex_both (by lia) (by lia)]
  decide
 have m:=AutoSeq1.list_insert_list_int_val_1 l its.toArray n i t u hfit (by rw[List.size_toArray];lia)
 refine call_meets F.slot_list_insert ⟨_,e,rfl⟩ F.entry_list_insert (F.args_list_insert_3 _ _ _) m ⟨e,?_⟩
 refine⟨.non,_,I.lset (its':=its.take i.toNat++u::its.drop i.toNat) hH e ?_ ((r.take i.toNat).append (.cons ru (r.drop i.toNat))) ?_,rfl,q⟩
 ·have h0:¬ i<0:=by lia
  simp only[if_neg h0,List.size_toArray]
  rw[Nat.min_eq_left (by lia)]
  apply Array.toList_inj.mp
  simp[Array.toList_extract,List.extract_eq_take_drop]
  rw[List.take_of_length_le (by rw[List.length_drop];exact Nat.le_refl _)]
 ·rw[List.length_append,List.length_cons,List.length_take,List.length_drop]
  lia
theorem q12{i:Nat}{x:Str}{e:Expr}{te:TE}{op:Operator}{ti:TIp}{pos pos':Pos}(hN:X.N.Nodup)(hi:X.N[i]?=some x)(hx:Loc X.env.scope x)(he:QE X e te)(ho:PIp X op ti)(hf:X.fn x=true\/X.env.scope.names.lookup x=some .local):QS X (.AugAssign (.Name x pos') op e pos) (tAug i te ti):=⟨q1i hN hi hx he.u ho hf⟩
end
section
variable {X:Cx} {EX:St->XK} {pos pos' p apos cpos:Pos} {x:Str} {e:Expr} {es:List Expr} {te:TV} {tA:TVA} {K:PySem.W.Frag} {B B' H H0:Hp} {τ:VSt} {σ:St}
def vAug(i:Nat)(te:TV):TVS:=λDv τ=>match τ[i]? with
|some (some (.val (.int n)))=>te τ λr=>match r with
 |.val (.int m)=>Dv.nx (τ.set i (some (.val (.int (n+m)))))
 |_=>False
|_=>False
theorem q2y{i:Nat}(hN:X.N.Nodup)(hi:X.N[i]?=some x)(hx:Loc X.env.scope x)(h:VE X EX e te)(hf:X.fn x=true\/X.env.scope.names.lookup x=some .local:=by first|exact .inl rfl|exact .inr rfl|assumption):VS X EX (.AugAssign (.Name x pos') .Add e pos) (vAug i te) :=
 let ⟨_,a1,a2⟩:=h.u;⟨_,q12 hN hi hx a1 q0c hf,λB0 H0 B H τ σ Dv Dh p S h E=>by
  unfold vAug at h
  split at h
  ·rename_i n en
   obtain⟨v,q,r⟩:=S.val i _ en
   unfold Rep at r
   subst r
   refine⟨_,q,a2 H0 B H τ σ _ _ p.s S h (xno λ_ q=>q) λr v B' H' q' hr hq=>?_⟩
   split at hq
   ·rename_i m
    have hr':Rep X.K B' (.int m) v:=hr
    unfold Rep at hr'
    subst hr'
    exact⟨n,m,rfl,rfl,E.nx B' H' _ _ (p.trans q') ((S.step q').setVal i (by unfold Rep;rfl)) hq⟩
   ·exact hq.elim
  ·exact h.elim⟩
end
end L2
namespace L2
open PySem PySem.Spec PyProof.Rows
section
variable {X:Cx} {pins:List (Addr×Obj)} {σ:St} {H:Hp} {s:Shared} {st:Stmt} {rest:List Stmt}
end
section
variable {X:Cx} {EX:St->XK} {K:PySem.W.Frag} {B B' H H0:Hp} {τ:VSt} {σ:St} {x:Str} {e:Expr} {te:TV} {rest:List Stmt} {u:TVS} {pos pos':Pos}
end
end L2
namespace L2
open PySem PySem.Spec PyProof.Rows
section
variable {X:Cx} {EX:St->XK} {pos p cpos:Pos} {x y:Str} {e:Expr} {es:List Expr} {tA:TVA} {K:PySem.W.Frag} {B B' H H0:Hp} {τ:VSt} {σ:St}
end
end L2
namespace L2
open PySem PySem.Spec PyProof.Rows
def Itz(K:PySem.W.Frag)(a b:Addr):It :=
 ⟨λi H=>∃xs ys x y,SqL K H a xs/\SqL K H b ys/\xs[i]?=some x/\ys[i]?=some y,λi H x H'=>∃T y z,x=.ref T/\H T=none/\(∀xs,SqL K H a xs->xs[i]?=some y)/\(∀ys,SqL K H b ys->ys[i]?=some z)/\H'=upd H T (.tup [y,z]),λi H=>∃xs ys,SqL K H a xs/\SqL K H b ys/\(xs[i]?=none\/ys[i]?=none)⟩
theorem qur{P:Program}{w:World}{K:PySem.W.Frag}{elts:List Expr}{kk:Nat}{pos:Pos}(a b z TI TO i1 i2:Addr)(D:ZipApart z TI TO i1 i2 a b):Turn P w K (.Tuple elts kk pos) (Itz K a b) [z,TI,TO,i1,i2] z (λi h=>IsZip h z TI TO .none/\IsPair h TI (.ref i1) (.ref i2)/\(∃x y,IsPair h TO x y)/\h.IsListIter i1 a i/\h.IsListIter i2 b i) where
 mem:=by simp
 obj:=λi h st c hc=>by
  obtain⟨hz,hTI,⟨x,y,hTO⟩,⟨o1,e1,_,d1⟩,⟨o2,e2,_,d2⟩⟩:=st
  simp only[List.mem_cons,List.not_mem_nil,or_false] at hc
  rcases hc with rfl|rfl|rfl|rfl|rfl
  ·exact⟨_,hz,λv q=>by
    have q':Data.fields _=Data.cell v:=q
    cases q'⟩
  ·exact⟨_,hTI,λv q=>by
    have q':Data.seq _ _=Data.cell v:=q
    cases q'⟩
  ·exact⟨_,hTO,λv q=>by
    have q':Data.seq _ _=Data.cell v:=q
    cases q'⟩
  ·exact⟨o1,e1,λv q=>by rw[d1] at q;cases q⟩
  ·exact⟨o2,e2,λv q=>by rw[d2] at q;cases q⟩
 keep:=λi h h' st k=>by
  obtain⟨hz,hTI,⟨x,y,hTO⟩,h1,h2⟩:=st
  exact⟨k z (by simp) _ hz,k TI (by simp) _ hTI,⟨x,y,k TO (by simp) _ hTO⟩,h1.at λo q=>k i1 (by simp) o q,h2.at λo q=>k i2 (by simp) o q⟩
 item:=by
  intro X hP hw hK hc i pins s σ H E I hf st hg
  subst hP hw hK
  obtain⟨xs,ys,x,y,hq1,hq2,hx,hy⟩:=hg
  obtain⟨its1,rv1,p1,_⟩:=I.list hq1
  obtain⟨its2,rv2,p2,_⟩:=I.list hq2
  obtain⟨u,hu,ru⟩:=rv1.get hx
  obtain⟨u2,hu2,ru2⟩:=rv2.get hy
  have W:=WalksT.zip2 (prog:=X.prog) (w:=X.w) (I.ok.hd hc) z TI TO i1 i2 a b D its1.toArray its2.toArray
  have l1:=(List.getElem?_eq_some_iff.mp hu).1
  have l2:=(List.getElem?_eq_some_iff.mp hu2).1
  refine W.item i s _ _ (by rw[List.size_toArray,List.size_toArray];lia) ⟨st.1,st.2.1,st.2.2.1,st.2.2.2.1,st.2.2.2.2,p1.isList,p2.isList⟩ λT vals h1 tk hv hT ht mid kp=>?_
  refine⟨.ref T,rfl,W.go elts kk pos i T _ _ _ mid λh2 st2 kp2=>?_⟩
  obtain⟨x',y',hx',hy',rfl⟩:=hv
  have ex:x'=u:=by
   have hx2:its1[i]?=some x':=by simpa using hx'
   exact Option.some.inj (hx2.symm.trans hu)
  have ey:y'=u2:=by
   have hy2:its2[i]?=some y':=by simpa using hy'
   exact Option.some.inj (hy2.symm.trans hu2)
  subst ex ey
  have nT:=W.apart _ _ _ mid
  obtain⟨oT,eT,cT,dT⟩:=ht
  have new:ObjOk X.prog X.w (upd H T (.tup [x,y])) h2 T (.tup [x,y]):=⟨by show 2<=sizeLine;decide,[x',y'],.cons ru (.cons ru2 .nil),oT,kp2 T oT nT eT,cT,dT⟩
  have sub:∀c,c∉[z,TI,TO,i1,i2]->c∉[z,TO,i1,i2]:=λc hc m=>hc (by
   simp only[List.mem_cons,List.not_mem_nil,or_false] at m ⊢
   rcases m with q | q | q | q<;>simp[q])
  have I2:=I.turnN (t':=tk) (h':=h2) (ch:=[z,TI,TO,i1,i2]) (λb o hb q=>kp2 b o (sub b hb) (kp b o (sub b hb) q)) hf hT new
  refine⟨.ref T,_,I2,rfl,⟨T,x,y,rfl,I.hok.fresh hT,λys hy'=>by rw[I.list_inj hy' hq1];exact hx,λys hy'=>by rw[I.list_inj hy' hq2];exact hy,rfl⟩,⟨st2.1,st2.2.1,st2.2.2.1,st2.2.2.2.1,st2.2.2.2.2.1⟩,λb hb=>?_⟩
  have hb2:=(hf b hb).1
  obtain⟨o,eo,_⟩:∃o,s.heap.get? b=some o/\True:=by
   obtain⟨hz,hTI,⟨q1,q2,hTO⟩,⟨o1,e1,_⟩,⟨o2,e2,_⟩⟩:=st
   simp only[List.mem_cons,List.not_mem_nil,or_false] at hb
   rcases hb with rfl|rfl|rfl|rfl|rfl
   ·exact⟨_,hz,trivial⟩
   ·exact⟨_,hTI,trivial⟩
   ·exact⟨_,hTO,trivial⟩
   ·exact⟨_,e1,trivial⟩
   ·exact⟨_,e2,trivial⟩
  have:b≠T:=Nat.ne_of_lt (Nat.lt_of_lt_of_le (Heap.lt_size eo) hT)
  rw[qau this]
  exact hb2
 done:=by
  intro X hP hw hK hc i pins s σ H E I hf st hg
  subst hP hw hK
  obtain⟨xs,ys,hq1,hq2,hx⟩:=hg
  obtain⟨its1,rv1,p1,_⟩:=I.list hq1
  obtain⟨its2,rv2,p2,_⟩:=I.list hq2
  obtain⟨hz,hTI,⟨q1,q2,hTO⟩,h1,h2⟩:=st
  have l1:=rv1.length
  have l2:=rv2.length
  have hend:its1.toArray[i]?=none\/its2.toArray[i]?=none:=by
   refine hx.imp (λq=>?_) λq=>?_
   ·have:=List.getElem?_eq_none_iff.mp q
    simp
    lia
   ·have:=List.getElem?_eq_none_iff.mp q
    simp
    lia
  exact wpAny_pyNext_zip_end (I.ok.hd hc) D hz hTI hTO h1 h2 p1.isList p2.isList hend λh' eb=>⟨rfl,I.turnL (t':=s.toks) (ch:=[z,TI,TO,i1,i2]) (λb o hb q=>eb b o (λy=>hb (by simp[y])) (λy=>hb (by simp[y])) (λy=>hb (by simp[y])) (λy=>hb (by simp[y])) q) hf⟩
 self:=λ_ _ _ _ _ st h=>wpAny_pyIter_zip st.1 h
section
variable {X:Cx} {elts:List Expr} {kk:Nat} {tp p pos:Pos}
def iZip(K:PySem.W.Frag)(ta:TA):TI:=λσ H R=>ta σ H λvs H1=>∃a b xs ys,vs=[.ref a,.ref b]/\SqL K H1 a xs/\SqL K H1 b ys/\R (Itz K a b) H1
theorem q1g{a b:Expr}{ta:TA}(hg:Gl X "zip")(hm:X.mg "zip" = none)(ha:PA X [a,b] ta)(hs:starEach [a,b] X.env=[(false,eval a X.env),(false,eval b X.env)]:=by rfl)(hs2:starEach [b] X.env=[(false,eval b X.env)]:=by rfl):PI X (.Tuple elts kk tp) (.Call (.Name "zip" p) [a,b] [] pos) (iZip X.K ta):=by
 intro pins s σ H R I h
 refine Call_ (qjs I hg hm boot_zip (PyProof.Rows.callWith_type1 (thn (ha pos pins s σ H _ I h) λus s1 ⟨vs,H1,I1,r1,q1⟩=>?_) (by rw[hs,hs2]) (by rw[hs2];rfl)))
 obtain⟨ad,bd,xs,ys,e,hq1,hq2,q⟩:=q1
 subst e
 cases r1 with
|cons r rr =>
  cases rr with
 |cons r' rr =>
   cases rr
   cases r
   cases r'
   obtain⟨its1,rv1,p1,_⟩:=I1.list hq1
   obtain⟨its2,rv2,p2,_⟩:=I1.list hq2
   have a1:ad<s1.heap.objs.size:=by obtain⟨_,e,_⟩:=p1.isList;exact Heap.lt_size e
   have a2:bd<s1.heap.objs.size:=by obtain⟨_,e,_⟩:=p2.isList;exact Heap.lt_size e
   refine call_zip_2 p1.isList p2.isList λh' hz hTI hTO hi1 hi2 hsz kp=>wpAny_pyIter_zip hz ?_
   refine⟨s1.heap.objs.size+4,[s1.heap.objs.size+4,s1.heap.objs.size+2,s1.heap.objs.size+3,s1.heap.objs.size,s1.heap.objs.size+1],_,_,H1,rfl,I1.kept (t':=s1.toks) kp,qur ad bd _ _ _ _ _ (zipApart_new a1 a2),⟨hz,hTI,⟨_,_,hTO⟩,hi1,hi2⟩,λb hb=>?_,q⟩
   have hge:s1.heap.objs.size<=b:=by
    simp only[List.mem_cons,List.not_mem_nil,or_false] at hb
    rcases hb with q|q|q|q|q<;>rw[q]<;>first|exact Nat.le_add_right _ _|exact Nat.le_refl _
   exact I1.fpOk hge (I1.hok.fresh hge)
theorem q11{a b:Expr}{ta:TA}(hg:Gl X "zip")(hm:X.mg "zip" = none)(ha:QA X [a,b] ta)(hp:qaq a=true:=by rfl)(hp2:qaq b=true:=by rfl):QI X (.Tuple elts kk tp) (.Call (.Name "zip" p) [a,b] [] pos) (iZip X.K ta):=⟨q1g hg hm ha.u (by rw[qbg hp,qbg hp2];rfl) (qbg hp2)⟩
end
def zipL(ds es:List D):List D:=(ds.zip es).map λp=>.tup [p.1,p.2]
section
variable {X:Cx} {EX:St->XK} {elts:List Expr} {kk:Nat} {tp p pos:Pos} {K:PySem.W.Frag} {B:Hp} {a b:Expr} {ta tb:TV}
theorem q0h{ad bd:Addr}{ds es:List D}{xs ys:List V}(h:SqL K B ad xs)(h2:SqL K B bd ys)(r:Reps K B ds xs)(r2:Reps K B es ys):ItOk K B (Itz K ad bd) (zipL ds es):=λi B2 H sb s2=>by
 have s:=sb.trans s2
 unfold zipL
 refine⟨λd e=>?_,λe=>⟨xs,ys,s.seq h,s.seq h2,?_⟩⟩
 ·rw[List.getElem?_map] at e
  obtain⟨pq,e0,rfl⟩:=Option.map_eq_some_iff.mp e
  have e1:=List.getElem?_zip_eq_some.mp e0
  obtain⟨w,hw,rw1⟩:=r.at e1.1
  obtain⟨w2,hw2,rw2⟩:=r2.at e1.2
  refine⟨⟨xs,ys,w,w2,s.seq h,s.seq h2,hw,hw2⟩,λy H' q=>?_⟩
  obtain⟨T,z,z2,rfl,hT,hz,hz2,rfl⟩:=q
  have ez:z=w:=Option.some.inj ((hz xs (s.seq h)).symm.trans hw)
  have ez2:z2=w2:=Option.some.inj ((hz2 ys (s.seq h2)).symm.trans hw2)
  subst ez ez2
  refine⟨upd B2 T (.tup [z,z2]),.new s2 hT,?_⟩
  have rr:Reps K B2 [pq.1,pq.2] [z,z2]:=.cons (rw1.same sb) (.one (rw2.same sb))
  exact qfw rr (s2.free hT)
 ·rw[List.getElem?_map] at e
  have e1:=List.getElem?_eq_none_iff.mp (Option.map_eq_none_iff.mp e)
  rw[List.length_zip] at e1
  have l1:=r.length
  have l2:=r2.length
  rcases Nat.le_total ds.length es.length with q|q
  ·exact .inl (List.getElem?_eq_none_iff.mpr (by lia))
  ·exact .inr (List.getElem?_eq_none_iff.mpr (by lia))
def vZip(tA:TVA):TVA:=λτ Q=>tA τ λa=>match a with
|.ok [.lst ds,.lst es]=>Q (.ok (zipL ds es))
|_=>False
theorem q2w{tA:TVA}(hg:Gl X "zip")(hm:X.mg "zip" = none)(h:VA X EX [a,b] tA)(hp:qaq a=true:=by rfl)(hp2:qaq b=true:=by rfl):VI X EX (.Tuple elts kk tp) (.Call (.Name "zip" p) [a,b] [] pos) (vZip tA):=by
 obtain⟨_,a1,a2⟩:=h.u
 exact⟨_,q11 hg hm a1 hp hp2,λH0 B H τ σ Q Qd s S h xc k=>a2 H0 B H τ σ _ _ s S h (xno λ_ q=>q) λds vs B' H' q hr hq=>by
  split at hq
  ·rename_i ar d1 d2 ea
   cases ea
   unfold Reps at hr
   obtain⟨v0,vs0,rfl,r0,hr⟩:=hr
   unfold Reps at hr
   obtain⟨v1,vs1,rfl,r1,hr⟩:=hr
   unfold Reps at hr
   subst hr
   unfold Rep at r0 r1
   obtain⟨ad,xs,rfl,ha,q1⟩:=r0
   obtain⟨bd,ys,rfl,hb,q2⟩:=r1
   exact⟨ad,bd,xs,ys,rfl,SqL.of (q.s _ _ ha),SqL.of (q.s _ _ hb),k _ _ B' H' q (q0h (SqL.of ha) (SqL.of hb) q1 q2) hq⟩
  ·exact hq.elim⟩
end
section
variable {X:Cx} {EX:St->XK}
def rLtD(K:PySem.W.Frag):R2:=λx y H Q=>∃d e,Rep K H d x/\Rep K H e y/\ordD d e=true/\depD d<=50/\Q (.bl (ltD d e)) H
theorem q0x(hu:X.A.units+60<cLine):OpR X (compareOp .Lt) (rLtD X.K):=by
 intro pins s σ H x y v u Q I rx ry h
 obtain⟨d,e,hd,he,hc,hn,q⟩:=h
 exact qm5 I _ X.A d e x y v u (Nat.le_refl _) hd he rx ry hc (by lia) X.prog X.w X.xe _ ⟨.bl (ltD d e),H,I,rfl,q⟩
def vLtD(rx ry:R)(Q:R->Prop):Prop:=ordD rx.d ry.d=true/\depD rx.d<=50/\Q (.val (.bl (ltD rx.d ry.d)))
theorem qv5(hu:X.A.units+64<cLine):VO X (compareOp .Lt) vLtD:=⟨_,q0x (by lia),λB H x y rx ry Q Qd s px py h k=>⟨rx.d,ry.d,px.rep s,py.rep s,h.1,h.2.1,k (.val (.bl (ltD rx.d ry.d))) _ B H (.refl s) (repV rfl) h.2.2⟩⟩
end
end L2
namespace L2
open PySem PySem.Spec PyProof.Rows Builtin.Str
section
variable {X:Cx}
abbrev TJ:=St->Hp->Str->VK->Prop
structure QJ(X:Cx)(vs:List Expr)(t:TJ):Prop where
 u:∀(pins:List (Addr×Obj)) (s:Shared) (σ:St) (H:Hp) (out:Str) (Q:VK),Inv X pins σ H s->t σ H out Q->wpAny (model X.prog X.w) X.A (joinParts out (evalEach vs X.env)) (EP X pins σ Q) X.xe s
end
section
variable {X:Cx} {EX:St->XK} {K:PySem.W.Frag} {o e e1 e2:Expr} {to te t1 t2:TV} {apos cpos p pos:Pos} {x:Str} {rest:List Expr}
abbrev TVJ:=VSt->Str->(R->Prop)->Prop
def RfJ(K:PySem.W.Frag)(t:TJ)(u:TVJ):Prop:=∀(H0 B H:Hp) (τ:VSt) (σ:St) (out:Str) (Q:VK) (Qd:R->Prop),Same B H->Slots K H0 B H τ σ->u τ out Qd->(∀r v B' H',Stp B H B' H'->RepR K B' H H' r v->Qd r->Q v H')->t σ H out Q
structure VJ(X:Cx)(EX:St->XK)(vs:List Expr)(t:TVJ):Prop where
 u:∃tj,QJ X vs tj/\RfJ X.K tj t
end
end L2
namespace L2
open PySem PySem.Spec PyProof.Rows
section
variable {X:Cx} {EX:St->XK} {K:PySem.W.Frag} {B H H0:Hp} {e:Expr} {t:TV} {τ:VSt} {σ:St}
theorem Slots.frzE(S:Slots K H0 B H τ σ)(s:Same B H)(i:Nat):∃B2,Same B B2/\Same B2 H/\Slots K H0 B2 H (L2.frz i τ) σ:=by
 unfold L2.frz
 split
 ·rename_i d e
  obtain⟨a,q,h0,hb,o⟩:=S.own i d e
  obtain⟨u,eu,rp⟩:=o.pub hb
  refine⟨L2.upd B a u,qak hb _,qgr s eu,?_⟩
  refine⟨by rw[List.length_set,S.len],λj f q'=>?_,λj f q'=>?_,λj f q'=>?_,λj k f g c q1 q2 q3 q4=>?_⟩
  ·rcases qat q' with ⟨rfl,z,l⟩|⟨n,q'⟩
   ·cases z
    exact⟨_,q,rp⟩
   ·obtain⟨w,q1,r⟩:=S.val j f q'
    exact⟨w,q1,r.same (qak hb _)⟩
  ·rcases qat q' with ⟨rfl,z,l⟩|⟨n,q'⟩
   ·cases z
   ·obtain⟨w,q1,r⟩:=S.fz j f q'
    exact⟨w,q1,r.same (qak hb _)⟩
  ·rcases qat q' with ⟨rfl,z,l⟩|⟨n,q'⟩
   ·cases z
   ·obtain⟨c,q1,h0',hb',w⟩:=S.own j f q'
    have ne:c≠a:=λz=>by subst z;exact n (S.sep i j d f c e q' q q1)
    exact⟨c,q1,h0',by rw[qau ne];exact hb',w.step (qak hb _) rfl⟩
  ·rcases qat q1 with ⟨rfl,z,l⟩|⟨n,q1⟩
   ·cases z
   rcases qat q2 with ⟨rfl,z,l⟩|⟨n2,q2⟩
   ·cases z
   exact S.sep j k f g c q1 q2 q3 q4
 ·exact⟨B,Same.refl _,s,S⟩
theorem qww{i:Nat}{d:D}(h:τ[i]?=some (some (.own d))):frz i τ=τ.set i (some (.val d)):=by
 unfold frz
 rw[h]
end
end L2
namespace L2
open PySem PySem.Spec PyProof.Rows
def hidH(H:Hp)(c:Addr):Hp:=λb=>if b=c then none else H b
theorem qgf{H:Hp}{b c:Addr}(n:b≠c):hidH H c b=H b:=if_neg n
theorem qve{H:Hp}{c:Addr}:hidH H c c=none:=if_pos rfl
theorem qs5{H:Hp}{c:Addr}:Same (hidH H c) H:=λb o e=>by
 by_cases z:b=c
 ·subst z
  rw[qve] at e
  cases e
 ·rw[qgf z] at e
  exact e
section
variable {X:Cx} {EX:St->XK} {K:PySem.W.Frag} {B H B' H' H0 B0 B1 H1:Hp} {st:Stmt} {rest:List Stmt} {t u:TVS} {e a:Expr} {te ta:TV} {tT:TVT} {tA:TVA} {es:List Expr} {pos pos' p p2 apos cpos:Pos} {x y:Str} {τ:VSt} {σ:St} {r:R} {v:V}
theorem qgp{c ad:Addr}{ds:List D}(h:OwnAt K B H (.io c ds) ad):ad=c/\∃xs,H ad=some (.lst xs)/\Reps K B ds xs:=let ⟨xs,e,z,r⟩:=h;⟨z,xs,e,r⟩
theorem qxr{c ad:Addr}{e:D}(h:OwnAt K B H e ad)(ha:ioA e=some c):ad=c:=by
 cases e with
|io c' ds=>cases ha;exact(qgp h).1
|ioT c' ks ds=>cases ha;obtain⟨_,_,z,_⟩:=h;exact z
|_=>cases ha
theorem qvf{c:Addr}{ds:List D}{xs:List V}(h:H c=some (.lst xs))(r:Reps K B ds xs):OwnAt K B H (.io c ds) c:=⟨xs,h,rfl,r⟩
theorem Slots.io(S:Slots K H0 B H τ σ){j:Nat}{ds:List D}(e:τ[j]?=some (some (.own (.lst ds)))):∃c,Slots K H0 B H (τ.set j (some (.own (.io c ds)))) σ:=by
 obtain⟨c,q,h0,hb,xs,hx,rp⟩:=S.own j _ e
 refine⟨c,by rw[List.length_set,S.len],λk d q'=>?_,λk d q'=>?_,λk d q'=>?_,λk l d f b q1 q2 q3 q4=>?_⟩
 ·rcases qat q' with ⟨rfl,z,_⟩|⟨_,q'⟩
  ·cases z
  ·exact S.val k d q'
 ·rcases qat q' with ⟨rfl,z,_⟩|⟨_,q'⟩
  ·cases z
  ·exact S.fz k d q'
 ·rcases qat q' with ⟨rfl,z,_⟩|⟨_,q'⟩
  ·cases z
   exact⟨c,q,h0,hb,qvf hx rp⟩
  ·exact S.own k d q'
 ·have hk:∃d',τ[k]?=some (some (.own d')):=by
   rcases qat q1 with ⟨rfl,_,_⟩|⟨_,q'⟩
   ·exact⟨_,e⟩
   ·exact⟨_,q'⟩
  have hl:∃d',τ[l]?=some (some (.own d')):=by
   rcases qat q2 with ⟨rfl,_,_⟩|⟨_,q'⟩
   ·exact⟨_,e⟩
   ·exact⟨_,q'⟩
  obtain⟨_,hk⟩:=hk
  obtain⟨_,hl⟩:=hl
  exact S.sep k l _ _ b hk hl q3 q4
def vIo(j:Nat)(t:TVS):TVS:=λDv τ=>match τ[j]? with
|some (some (.own (.lst ds)))=>∀c:Addr,t Dv (τ.set j (some (.own (.io c ds))))
|_=>False
theorem q20(j:Nat)(h:VSs X EX rest t):VSs X EX rest (vIo j t) :=
 let ⟨_,a1,a2⟩:=h.u;⟨_,a1,λB0 H0 B H τ σ Dv Dh p S h E=>by
  unfold vIo at h
  split at h
  ·rename_i ds e
   obtain⟨c,S2⟩:=S.io e
   exact a2 B0 H0 B H _ σ _ _ p S2 (h c) E
  ·exact h.elim⟩
def qc0(i:Nat):TV:=λτ Q=>match τ[i]? with
|some (some (.own (.io _ ds)))=>Q (.peek (.lst ds))
|_=>False
theorem qyz{i:Nat}:RfE K EX (tVar i) (qc0 i):=λH0 B H τ σ Q Qd s S h _ k=>by
 unfold qc0 at h
 split at h
 ·rename_i c ds e
  obtain⟨ad,q,_,hb,ow⟩:=S.own i _ e
  obtain⟨_,xs,hx,rp⟩:=qgp ow
  exact⟨.ref ad,q,k (.peek (.lst ds)) (.ref ad) B H (.refl s) ⟨ad,rfl,hb,xs,hx,rp⟩ h⟩
 ·exact h.elim
theorem vvI(i:Nat)(hN:X.N[i]?=some x:=by rfl)(hv:Vis X.env.scope x:=by first|exact Or.inl rfl|exact Or.inr (Or.inl rfl)|exact Or.inr (Or.inr rfl))(hd:(x==("__debug__" : Str))=false:=by decide)
  (hcd:(x==("__classdict__" : Str))=false:=by decide):VE X EX (.Name x pos) (qc0 i):=⟨_,qv i hN hv hd hcd,qyz⟩
def qef(te:TV):TVS:=λDv τ=>te τ λr=>exS τ Dv r (pubR r λ_=>Dv.ro τ r)
theorem qcj(h:VE X EX e te):VS X EX (.Return (some e) pos) (qef te) :=
 let ⟨_,a1,a2⟩:=h.u;⟨_,qne a1,λB0 H0 B H τ σ Dv Dh p S h E=>a2 H0 B H τ σ _ _ p.s S h (E.raised p S) λr v B' H' q hr hq=>by
  cases r with
 |val d=>exact E.ro (.val d) v B' H' τ σ (p.trans q) (S.step q) hr (λ_ _ _ _ z=>by cases z) hq
 |own d =>
   refine E.ro (.own d) v B' H' τ σ (p.trans q) (S.step q) (hr.back p.h) (λ_ _ i c _ e ha z=>?_) hq
   obtain⟨ad,rfl,hn,_⟩:=hr
   cases z
   obtain⟨a',_,_,_,ow⟩:=S.own i _ e
   have:=ow.some
   rw[qxr ow ha] at this
   exact this hn
 |peek d=>exact hq.elim
 |  exc n=>exact hr.elim⟩
def RfAI(K:PySem.W.Frag)(EX:St->XK)(te:TA)(t:TVA)(k j:Nat):Prop:=∀(H0 B H:Hp) (τ:VSt) (σ:St) (Q:List V->Hp->Prop) (Qd:AR->Prop),Same B H->Slots K H0 B H τ σ->(∃c ps,τ[j]?=some (some (R.own (.io c ps))))->t τ Qd->(∀n C B' H',Stp B H B' H'->clsOf K n C->Qd (.exc n)->EX σ (.ref C) none H') ->
 (∀ds vs B' H' ad,Stp B H B' H'->k<=vs.length->σ[j]?=some (some (.ref ad))->Reps K B' ds vs->Qd (.ok ds)->Q (vs.insertIdx k (.ref ad)) H')->te σ H Q
structure VAI(X:Cx)(EX:St->XK)(es:List Expr)(t:TVA)(k j:Nat):Prop where
 u:∃te,QA X es te/\RfAI X.K EX te t k j
theorem qfz(j:Nat)(hr:VA X EX es tA)(hN:X.N[j]?=some x:=by rfl)(hv:Vis X.env.scope x:=by first|exact Or.inl rfl|exact Or.inr (Or.inl rfl)|exact Or.inr (Or.inr rfl))(hd:(x==("__debug__" : Str))=false:=by decide)
  (hcd:(x==("__classdict__" : Str))=false:=by decide):VAI X EX (.Name x pos::es) tA 0 j :=
 let ⟨_,b1,b2⟩:=hr.u;⟨_,qac (qv j hN hv hd hcd) b1 rfl,λH0 B H τ σ Q Qd s S ⟨c,ps,e⟩ h xc k=>by
  obtain⟨ad,q,_,hb,ow⟩:=S.own j _ e
  exact⟨.ref ad,q,b2 H0 B H τ σ _ _ s S h xc λds vs B1 H1 p1 q1 h1=>k ds vs B1 H1 ad p1 (Nat.zero_le _) q q1 h1⟩⟩
abbrev DPI:=List D->List D->(R->List D->Prop)->Prop
def qfr(K:PySem.W.Frag)(g:DPI)(k:Nat):Sp:=λvs H Q _=>∃ds ws B c ps Qd,Same B H/\Reps K B ds ws/\k<=ws.length/\vs=ws.insertIdx k (.ref c)/\B c=none/\OwnAt K B H (.io c ps) c/\g ds ps Qd /\
 ∀r v B' H' ps',Qd r ps'->Stp B (hidH H c) B' H'->B' c=none->OwnAt K B' H' (.io c ps') c->RepR K B' (hidH H c) H' r v->(∀d,r=.own d->v≠.ref c)->Q v H'
def qlh(k:Nat)(c:Addr)(τ:VSt)(P:List D->Prop):Prop:=match τ[k]? with
|some (some (.own (.io c' ps)))=>c'=c/\P ps
|_=>False
theorem qm2{k:Nat}{c:Addr}{P:List D->Prop}(h:qlh k c τ P):∃ps,τ[k]?=some (some (.own (.io c ps)))/\P ps:=by
 unfold qlh at h
 split at h
 ·rename_i c' ps e
  obtain⟨rfl,h⟩:=h
  exact⟨ps,e,h⟩
 ·exact h.elim
abbrev EnI(k:Nat)(c:Addr)(Q:R->List D->Prop):VEnds:={ nx:=λτ=>qlh k c τ (Q (.val .non)),rt:=λ_=>False,ro:=λτ r=>qlh k c τ (Q r) }
def qeh(N:List Str)(k:Nat)(c:Addr)(ds ps:List D):VSt:=(ds.map λd=>some (R.val d)).insertIdx k (some (.own (.io c ps)))++List.replicate (N.length-(ds.length+1)) none
theorem Slots.consV{d:D}(S:Slots K H0 B H τ σ)(h:Rep K B d v):Slots K H0 B H (some (.val d)::τ) (some v::σ):=by
 refine⟨by have:=S.len;simp[this],λi f e=>?_,λi f e=>?_,λi f e=>?_,λi j f g ad e1 e2 e3 e4=>?_⟩
 ·cases i with
 |zero=>simp at e;subst e;exact⟨v,rfl,h⟩
 |succ i=>simpa using S.val i f (by simpa using e)
 ·cases i with
 |zero=>simp at e
 |succ i=>simpa using S.fz i f (by simpa using e)
 ·cases i with
 |zero=>simp at e
 |succ i=>simpa using S.own i f (by simpa using e)
 ·cases i with
 |zero=>simp at e1
 |succ i =>
   cases j with
  |zero=>simp at e2
  |succ j =>
    rw[S.sep i j f g ad (by simpa using e1) (by simpa using e2) (by simpa using e3) (by simpa using e4)]
theorem Slots.consO{d:D}{ds:List D}{c:Addr}(S:Slots K H0 B H (ds.map λd=>some (R.val d)) σ)(h0:H0 c=none)(hb:B c=none)(o:OwnAt K B H d c):Slots K H0 B H (some (.own d)::ds.map λd=>some (R.val d)) (some (.ref c)::σ):=by
 refine⟨by have:=S.len;simp[this],λi f e=>?_,λi f e=>?_,λi f e=>?_,λi j f g ad e1 e2 e3 e4=>?_⟩
 ·cases i with
 |zero=>simp at e
 |succ i=>simpa using S.val i f (by simpa using e)
 ·cases i with
 |zero=>simp at e
 |succ i=>simp at e
 ·cases i with
 |zero=>simp at e;subst e;exact⟨c,rfl,h0,hb,o⟩
 |succ i=>simp at e
 ·cases i with
 |zero =>
   cases j with
  |zero=>rfl
  |succ j=>simp at e2
 |succ i=>simp at e1
theorem qfm{c:Addr}{ps:List D}(h0:H0 c=none)(hb:B c=none)(o:OwnAt K B H (.io c ps) c):∀(k:Nat) {ds:List D} {ws:List V},Reps K B ds ws->k<=ws.length->Slots K H0 B H ((ds.map λd=>some (R.val d)).insertIdx k (some (.own (.io c ps)))) ((ws.insertIdx k (.ref c)).map some)
|0,ds,ws,h,_=>by
  rw[List.insertIdx_zero,List.insertIdx_zero]
  exact(qeb h).consO h0 hb o
|k+1,ds,ws,h,l=>by
  cases ds with
 |nil =>
   unfold Reps at h
   subst h
   exact absurd l (by simp)
 |cons d ds =>
   unfold Reps at h
   obtain⟨w,ws,rfl,h1,h2⟩:=h
   rw[List.map_cons,List.insertIdx_succ_cons,List.insertIdx_succ_cons,List.map_cons]
   exact(qfm h0 hb o k h2 (Nat.le_of_succ_le_succ l)).consV h1
theorem Fun.okI{P:Program}{w:World}{mg:Str->Option Value}{base:Heap}{x qual:Str}{st:Stmt}{f:Addr}{fd:FuncData}{N ps:List Str}{k m:Nat}{g:DPI}(F:Fun K x qual st f fd)(S:FnScope N ps (qab st))(len:∀ds zs Q,g ds zs Q->ds.length+1=ps.length)
  (hbody:∀(cdv:Value) (A:Around) (outer:List Env) (s:Shared) (H:Hp) (E:XK),Room m (A.deeper (envOfC qual (qab st) s.heap.objs.size f cdv)) ->
   ∃t,VSs (cxOf CX0 P w K mg base N qual (qab st) f cdv A outer s H E).nox EX0 (qal st) t/\∀ds zs c Q,g ds zs Q->t (EnI k c Q) (qeh N k c ds zs)):FnOk P w K mg base CX0 (m+1) f fd ps (qfr K g k):=by
 refine F.okQ S (λvs H Q E h=>?_) (λcdv A outer s H vs Q E hr h=>?_)
 ·obtain⟨ds,ws,B,c,zs,Qd,_,rp,lk,rfl,_,_,hg,_⟩:=h
  rw[List.length_insertIdx_of_le_length lk,←rp.length]
  exact len ds zs Qd hg
 ·obtain⟨ds,ws,B,c,zs,Qd,sm,rp,lk,rfl,hb,ow,hg,kk⟩:=h
  obtain⟨t,⟨ts,q1,q2⟩,ht⟩:=hbody cdv A outer s H E hr
  refine⟨ts,q1,q2 B (hidH H c) B H (qeh N k c ds zs) (start N (ws.insertIdx k (.ref c))) _ _ ⟨Same.refl _,qs5,sm,λ_ z=>.inl z⟩ ?_ (ht ds zs c Qd hg) ⟨λB' H' τ σ p S h=>?_,λ_ _ _ _ _ _ h=>h.elim,λ_ _ _ _ _ _ h=>h.elim,λ_ _ _ _ _ _ h=>h.elim,λ_ _ _ _ _ _ _ _ _ h=>h.elim,λr v B' H' τ σ p S hr ne h=>?_⟩⟩
  ·unfold qeh start
   rw[rp.length,List.length_insertIdx_of_le_length lk]
   exact(qfm qve hb ow k rp lk).more _
  ·obtain⟨qs,e,q⟩:=qm2 h
   obtain⟨a',_,_,hb',ow'⟩:=S.own k _ e
   obtain⟨rfl,_⟩:=qgp ow'
   exact kk (.val .non) .non B' H' qs q p hb' ow' (repV rfl) λ_ z=>by cases z
  ·obtain⟨qs,e,q⟩:=qm2 h
   obtain⟨a',_,_,hb',ow'⟩:=S.own k _ e
   obtain⟨rfl,_⟩:=qgp ow'
   exact kk r v B' H' qs q p hb' ow' hr λd z=>ne d _ k _ z e rfl
theorem Stp.lent{c:Addr}(p:Stp B0 H0 B1 H1)(h0:H0 c=none)(q:Stp B1 (hidH H1 c) B' H')(hb:B' c=none):Stp B0 H0 B' H' :=
 ⟨p.b.trans q.b,λb o e=>by
  have n:b≠c:=λz=>by rw[z,h0] at e;cases e
  exact q.h _ _ (by rw[qgf n];exact p.h _ _ e),q.s,λb z=>by
  have n:b≠c:=λw=>by rw[w] at z;exact z hb
  rcases q.d b z with w|w|⟨xs,w⟩
  ·exact p.d b w
  ·rw[qgf n] at w
   exact .inr (.inl (p.h.free w))
  ·rw[qgf n] at w
   cases e:H0 b with
  |none=>exact .inr (.inl rfl)
  |some o =>
    rw[p.h _ _ e] at w
    exact .inr (.inr ⟨xs,w⟩)⟩
theorem Slots.lent{c:Addr}{j:Nat}{ps qs:List D}(S:Slots K H0 B1 H1 τ σ)(e:τ[j]?=some (some (.own (.io c ps))))(q:Stp B1 (hidH H1 c) B' H')(hb:B' c=none)(o:OwnAt K B' H' (.io c qs) c):Slots K H0 B' H' (τ.set j (some (.own (.io c qs)))) σ:=by
 obtain⟨a',e1,h0,_,ow⟩:=S.own j _ e
 obtain⟨rfl,_⟩:=qgp ow
 refine⟨by rw[List.length_set,S.len],λk d q'=>?_,λk d q'=>?_,λk d q'=>?_,λk l d f b q1 q2 q3 q4=>?_⟩
 ·rcases qat q' with ⟨rfl,z,_⟩|⟨_,q'⟩
  ·cases z
  ·obtain⟨w,w1,w2⟩:=S.val k d q'
   exact⟨w,w1,w2.same q.b⟩
 ·rcases qat q' with ⟨rfl,z,_⟩|⟨_,q'⟩
  ·cases z
  ·obtain⟨w,w1,w2⟩:=S.fz k d q'
   exact⟨w,w1,w2.same q.b⟩
 ·rcases qat q' with ⟨rfl,z,_⟩|⟨n,q'⟩
  ·cases z
   exact⟨_,e1,h0,hb,o⟩
  ·obtain⟨b,w1,w2,w3,w4⟩:=S.own k d q'
   have nb:b≠a':=λz=>n (S.sep j k _ _ a' e q' e1 (by rw[←z];exact w1))
   have hs:hidH H1 a' b≠none:=by rw[qgf nb];exact w4.some
   refine⟨b,w1,w2,q.keep w3 hs (λxs=>by rw[qgf nb];exact w4.nt xs),w4.step q.b ?_⟩
   rw[q.h.at hs,qgf nb]
 ·have hk:∃d',τ[k]?=some (some (.own d')):=by
   rcases qat q1 with ⟨rfl,_,_⟩|⟨_,q'⟩
   ·exact⟨_,e⟩
   ·exact⟨_,q'⟩
  have hl:∃d',τ[l]?=some (some (.own d')):=by
   rcases qat q2 with ⟨rfl,_,_⟩|⟨_,q'⟩
   ·exact⟨_,e⟩
   ·exact⟨_,q'⟩
  obtain⟨_,hk⟩:=hk
  obtain⟨_,hl⟩:=hl
  exact S.sep k l _ _ b hk hl q3 q4
theorem pubI{c:Addr}{Hh:Hp}{Q:D->Prop}(q:Stp B1 Hh B' H')(hc:B' c=none)(h:RepR K B' Hh H' r v)(ne:∀d,r=.own d->v≠.ref c)(hq:pubR r Q):∃d B2,Stp B1 Hh B2 H'/\Same B' B2/\B2 c=none/\Rep K B2 d v/\Q d:=by
 cases r with
|val d=>exact⟨d,B',q,Same.refl _,hc,h,hq⟩
|own d =>
  have ne':=ne d rfl
  obtain⟨ad,rfl,h0,hb,o⟩:=h
  obtain⟨u,e,rp⟩:=o.pub hb
  have n:c≠ad:=λz=>ne' (by rw[z])
  refine⟨d,upd B' ad u,⟨q.b.trans (qak hb _),q.h,qgr q.s e,λb z=>?_⟩,qak hb _,by rw[qau n];exact hc,rp,hq⟩
  by_cases w:b=ad
  ·exact .inr (.inl (w▸h0))
  ·rw[qau w] at z
   exact q.d b z
|peek d=>exact hq.elim
|exc n=>exact hq.elim
def qfn(g:DPI)(j:Nat)(tA:TVA)(τ:VSt)(k:D->VSt->Prop):Prop:=match τ[j]? with
|some (some (.own (.io c ps)))=>tA τ λa=>match a with
 |.ok ds=>g ds ps λr qs=>pubR r λd=>k d (τ.set j (some (.own (.io c qs))))
 |.exc _=>False
|_=>False
theorem qnh{g:DPI}{j k:Nat}{teA:TA}(hA:RfAI K EX teA tA k j){Q:VK}{P:D->VSt->Prop}(pp:Stp B0 H0 B H)(S:Slots K H0 B H τ σ)(h:qfn g j tA τ P)(kk:∀d τ' v B' H',Stp B0 H0 B' H'->Slots K H0 B' H' τ' σ->Rep K B' d v->P d τ'->Q v H'):quo (qfr K g k) [] E0 teA σ H Q:=by
 unfold qfn at h
 split at h
 ·rename_i c ps e
  refine hA H0 B H τ σ _ _ pp.s S ⟨c,ps,e⟩ h (xno λ_ q=>q) λds vs B1 H1 ad p1 lk hj rp h1=>?_
  have S1:=S.step p1
  obtain⟨a',e1,h0,hb,ow⟩:=S1.own j _ e
  obtain⟨rfl,_⟩:=qgp ow
  rw[hj] at e1
  cases e1
  refine⟨ds,vs,B1,ad,ps,_,p1.s,rp,lk,by rw[List.append_nil],hb,ow,h1,λr v B' H' qs hq q hc o hr ne=>?_⟩
  obtain⟨d,B2,q2,s2,hc2,rp2,hd⟩:=pubI q hc hr ne hq
  exact kk d _ v B2 H' ((pp.trans p1).lent h0 q2 hc2) (S1.lent e q2 hc2 (o.step s2 rfl)) rp2 hd
 ·exact h.elim
def qkn(i:Nat)(g:DPI)(j:Nat)(tA:TVA):TVS:=λDv τ=>qfn g j tA τ λd τ'=>Dv.nx (τ'.set i (some (.val d)))
theorem qu2{i m k j:Nat}{ps:List Str}{g:DPI}(hN:X.N.Nodup)(hi:X.N[i]?=some y)(hx:Loc X.env.scope y)(C:Cal X.prog X.w X.K X.mg X.base m x ps (qfr X.K g k))(hr:Room m X.A)(hg:Gl X x)(ha:VAI X EX (e::es) tA k j)(hp:(e::es).all qaq=true:=by rfl)(hdb:(x==("__debug__" : Str))=false:=by decide)
  (hs:swapsWith (.Call (.Name x p) (e::es) [] p2) (some (.Name y pos')) pos.line X.env=pure false:=by rfl)
  (hf:X.fn y=true\/X.env.scope.names.lookup y=some .local:=by first|exact .inl rfl|exact .inr rfl|assumption):VS X EX (.Assign [.Name y pos'] (.Call (.Name x p) (e::es) [] p2) pos) (qkn i g j tA) :=
 let ⟨_,a1,a2⟩:=ha.u;⟨_,qnf hN hi hx (qrc C hr hg a1 hp hdb) hs hf,λB0 H0 B H τ σ Dv Dh p S h E=>qnh a2 p S h λd τ' v B' H' q S' rp hd=>E.nx B' H' _ _ q (S'.setVal i rp) hd⟩
def qy7(g:DPI)(j:Nat)(tA:TVA)(tg:TVG):TVS:=λDv τ=>qfn g j tA τ λd τ'=>tg d τ' Dv.nx
end
section
variable {K:PySem.W.Frag} {x qual:Str} {st:Stmt} {f:Addr} {fd:FuncData} {ps:List Str}
theorem qce{α:Type}{us:List α}{n:Nat}(h:us.length=n+1):∃a t,us=a::t/\t.length=n:=by
 cases us with
|nil=>cases h
|cons a t=>exact⟨a,t,rfl,Nat.succ.inj h⟩
theorem Fun.binds1(F:Fun K x qual st f fd)(hp:ps.length=1)(h:∀(kV doc pm:Value) (an:Option Addr) (cdv ct a0:Value),bindArgs (PySem.W.fnOf x qual (qao st) (qal st) (qab st) .none kV doc pm an cdv ct) ⟨[a0],[]⟩=pure (ps.zip [a0])):Binds K fd ps [] :=
 F.binds λkV doc pm an cdv ct us hl=>by
  obtain⟨a0,t,rfl,h0⟩:=qce (hl.trans hp)
  cases List.length_eq_zero_iff.mp h0
  exact h kV doc pm an cdv ct a0
theorem Fun.binds2(F:Fun K x qual st f fd)(hp:ps.length=2)(h:∀(kV doc pm:Value) (an:Option Addr) (cdv ct a0 a1:Value),bindArgs (PySem.W.fnOf x qual (qao st) (qal st) (qab st) .none kV doc pm an cdv ct) ⟨[a0,a1],[]⟩=pure (ps.zip [a0,a1])):Binds K fd ps [] :=
 F.binds λkV doc pm an cdv ct us hl=>by
  obtain⟨a0,t,rfl,h0⟩:=qce (hl.trans hp)
  obtain⟨a1,t,rfl,h1⟩:=qce h0
  cases List.length_eq_zero_iff.mp h1
  exact h kV doc pm an cdv ct a0 a1
theorem Fun.binds3(F:Fun K x qual st f fd)(hp:ps.length=3)(h:∀(kV doc pm:Value) (an:Option Addr) (cdv ct a0 a1 a2:Value),bindArgs (PySem.W.fnOf x qual (qao st) (qal st) (qab st) .none kV doc pm an cdv ct) ⟨[a0,a1,a2],[]⟩=pure (ps.zip [a0,a1,a2])):Binds K fd ps [] :=
 F.binds λkV doc pm an cdv ct us hl=>by
  obtain⟨a0,t,rfl,h0⟩:=qce (hl.trans hp)
  obtain⟨a1,t,rfl,h1⟩:=qce h0
  obtain⟨a2,t,rfl,h2⟩:=qce h1
  cases List.length_eq_zero_iff.mp h2
  exact h kV doc pm an cdv ct a0 a1 a2
theorem Fun.binds4(F:Fun K x qual st f fd)(hp:ps.length=4)(h:∀(kV doc pm:Value) (an:Option Addr) (cdv ct a0 a1 a2 a3:Value),bindArgs (PySem.W.fnOf x qual (qao st) (qal st) (qab st) .none kV doc pm an cdv ct) ⟨[a0,a1,a2,a3],[]⟩=pure (ps.zip [a0,a1,a2,a3])):Binds K fd ps [] :=
 F.binds λkV doc pm an cdv ct us hl=>by
  obtain⟨a0,t,rfl,h0⟩:=qce (hl.trans hp)
  obtain⟨a1,t,rfl,h1⟩:=qce h0
  obtain⟨a2,t,rfl,h2⟩:=qce h1
  obtain⟨a3,t,rfl,h3⟩:=qce h2
  cases List.length_eq_zero_iff.mp h3
  exact h kV doc pm an cdv ct a0 a1 a2 a3
end
end L2
namespace L2
open PySem PySem.Spec PyProof.Rows
section
variable {X:Cx} {EX:St->XK} {a b e:Expr} {es:List Expr} {pos p tp:Pos} {tA:TVA} {te:TV}
end
end L2
namespace L2
open PySem PySem.Spec PyProof.Rows
section
variable {X:Cx} {EX:St->XK} {K:PySem.W.Frag} {B H B' H' H0 B0 B1 H1:Hp} {st:Stmt} {rest:List Stmt} {t u:TVS} {e a:Expr} {te ta tk:TV} {tT:TVT} {tA:TVA} {es:List Expr} {pos pos' p p2 apos cpos:Pos} {x y:Str} {τ:VSt} {σ:St} {r:R} {v:V}
def q25(K:PySem.W.Frag)(EX:St->XK)(te:TA)(t:TVA)(k j:Nat):Prop:=∀(H0 B H:Hp) (τ:VSt) (σ:St) (Q:List V->Hp->Prop) (Qd:AR->Prop),Same B H->Slots K H0 B H τ σ->(∃ks ps,τ[j]?=some (some (R.own (.dT ks ps))))->t τ Qd->(∀n C B' H',Stp B H B' H'->clsOf K n C->Qd (.exc n)->EX σ (.ref C) none H') ->
 (∀ds vs B' H' ad,Stp B H B' H'->k<=vs.length->σ[j]?=some (some (.ref ad))->Reps K B' ds vs->Qd (.ok ds)->Q (vs.insertIdx k (.ref ad)) H')->te σ H Q
structure VAIT(X:Cx)(EX:St->XK)(es:List Expr)(t:TVA)(k j:Nat):Prop where
 u:∃te,QA X es te/\q25 X.K EX te t k j
def repL(ds:List D)(n:Nat):List D:=(List.replicate n ds).flatten
def qmg(rx ry:R)(Q:R->Prop):Prop:=match rx.d,ry.d with
|.lst ds,.int n=>-(2 ^ 63)<=n/\n<2 ^ 63/\ds.length*n.toNat<=sizeLine/\Q (.own (.lst (repL ds n.toNat)))
|_,_=>False
theorem qng{ds:List D}{xs:List V}(h:Reps K B ds xs):∀n,Reps K B (repL ds n) (List.replicate n xs).flatten
|0=>by unfold repL;unfold Reps;rfl
|n+1=>by
  have:=h.append (qng h n)
  unfold repL at this ⊢
  rw[List.replicate_succ,List.replicate_succ,List.flatten_cons,List.flatten_cons]
  exact this
theorem qsa:VO X (binaryOp .Mult) qmg:=⟨_,q01,λB H x y rx ry Q Qd s px py h k=>by
 unfold qmg at h
 split at h
 ·rename_i ds n e1 e2
  obtain⟨a,xs,rfl,h1,r1⟩:=px.lst s e1
  obtain⟨c1,c2,c3,hq⟩:=h
  exact⟨a,n,xs,rfl,py.scal (by rw[e2];rfl),h1,c1,c2,by rw[←r1.length];exact c3,λp hp=>k (.own (.lst (repL ds n.toNat))) _ B _ (.grow s (qak hp _)) ⟨p,rfl,hp,s.free hp,qbt (qng r1 _)⟩ hq⟩
 ·exact h.elim⟩
end
section
variable {X:Cx} {p kp pos:Pos} {a d:Expr}
end
section
variable {X:Cx} {EX:St->XK} {p kp pos cp:Pos} {a:Expr} {te:TV} {j:Nat}
end
section
variable {prog:Program} {w:World} {A:Around} {E:Value->Shared->Prop} {s:Shared} {d:Addr} {es:Array DictEntry} {ep:Nat}
end
section
variable {X:Cx}
end
section
variable {P:Program} {w:World} {K:PySem.W.Frag} {mg:Str->Option Value} {base h:Heap} {x:Str} {st:Stmt} {k:Nat} {ps:List Str} {sp:Sp}
end
end L2
namespace L2
open PySem PySem.Spec PyProof.Rows
section
variable {X:Cx}
end
end L2
namespace L2
open PySem PySem.Spec PyProof.Rows
section
variable {X:Cx} {EX:St->XK} {K:PySem.W.Frag} {B B' H H0:Hp} {τ:VSt} {σ:St} {x:Str} {e:Expr} {te:TV} {rest:List Stmt} {u:TVS} {pos pos':Pos}
end
end L2
namespace L2
open PySem PySem.Spec PyProof.Rows
section
variable {X:Cx} {EX:St->XK} {e a o i:Expr} {te ta to ti:TV} {pos pos' p p2 apos cpos:Pos} {x:Str} {f:Expr} {tf:TV}
theorem Reps.erase{K:PySem.W.Frag}{B:Hp}:∀ {ds:List D} {xs:List V} (k:Nat),Reps K B ds xs->Reps K B (ds.eraseIdx k) (xs.eraseIdx k)
|[],xs,k,h=>by
  unfold Reps at h
  subst h
  unfold Reps
  rfl
|d::ds,xs,0,h=>by
  unfold Reps at h
  obtain⟨x,r,rfl,_,h⟩:=h
  exact h
|d::ds,xs,k+1,h=>by
  unfold Reps at h
  obtain⟨x,r,rfl,h1,h⟩:=h
  show Reps K B (d::ds.eraseIdx k) (x::r.eraseIdx k)
  unfold Reps
  exact⟨x,_,rfl,h1,h.erase k⟩
end
end L2
namespace L2
open PySem PySem.Spec PyProof.Rows
section
variable {X:Cx}
end
end L2
namespace PySem
section
variable {prog:Program} {w:World} {K:Type} [DecidableEq K] {knd:HeapKind prog w K} {A:Around} {E:Value->Shared->Prop} {s:Shared}
theorem qsu{d a:Addr}{xs:List (K×Addr×Value)}{k:K}{v:Value}{Q:Value->Shared->Prop}(hu:knd.room A)(hkey:knd.is s.heap k a)(hm:s.heap.DictOfH knd d xs)
  (h1:∀u,(atKey xs k).map (·.2)=some u->Q u { s with toks:=s.toks+knd.draws k })
  (h2:(atKey xs k).map (·.2)=none->∀h',h'.DictOfH knd d (storedH xs k a v)->Heap.SameBut d s.heap h'->Q v { s with heap:=h',toks:=s.toks+knd.draws k })
  (hsz:xs.length<=sizeLine):wpAny (model prog w) A (dictSetDefault d (.ref a) v) Q E s:=by
 obtain⟨o,es,ep,ho,hc,hd,he,his,hn⟩:=hm
 unfold dictSetDefault
 try with_reducible refine wpAny_holding ?_
 refine wpAny_bind (knd.pyHash hu hkey (wpAny_bind (wpAny_dictFind_heap (s:={ s with toks:=s.toks+knd.draws k }) hu hkey ho hd he his hn ?_ ?_)))
 ·intro hno
  have hnot:k∉xs.map (·.1):=not_mem_keys_of_get hno
  have hn0:(atKey xs k).map (·.2)=none:=by rw[atKey_none_of_get hno];rfl
  refine wpAny_bind (wpAny_rule (wpAny_bind (wpAny_updateDictKeys (hz:=by have e:=size_of_entries he;lia) (s:={ s with toks:=s.toks+knd.draws k }) ho hd (wpAny_pure (h2 hn0 _ ⟨_,_,ep+1,Heap.get?_update_self _ ho (Obj.isFreed_of_dict (Obj.data_mapDictKeys hd _)),
   hc.mapDictKeys _,Obj.data_mapDictKeys hd _,?_,?_,?_⟩ (Heap.SameBut.update ..))))))
  ·rw[storedH_new (atKey_none_of_get hno)]
   simp[he,entryOfKey]
  ·rw[storedH_new (atKey_none_of_get hno)]
   intro x hx
   rcases List.mem_append.mp hx with hx|hx
   ·exact knd.keeps (his x hx) ho hd (Heap.SameBut.update ..)
   ·simp only[List.mem_singleton] at hx
    subst hx
    exact knd.keeps hkey ho hd (Heap.SameBut.update ..)
  ·rw[storedH_new (atKey_none_of_get hno)]
   rw[List.map_append,List.nodup_append]
   refine⟨hn,by simp,?_⟩
   intro x hx y hy
   simp only[List.map_cons,List.map_nil,List.mem_singleton] at hy
   subst hy
   exact λe=>hnot (e▸hx)
 ·intro j p hj
  refine wpAny_bind (wpAny_dictEntries (s:={ s with toks:=s.toks+knd.draws k }) ho hd ?_)
  rw[entry_at he j,hj]
  exact wpAny_bind (wpAny_rule (wpAny_pure (h1 _ (by rw[atKey_of_get hn hj];rfl))))
end
section
variable {prog:Program} {w:World} {K:Type} [DecidableEq K] (knd:HeapKind prog w K) (d a:Addr)
theorem qqs(hd:(d==sysModules)=false)(dflt:Value) :
  MeetsIn prog w (Builtin.«dict.setdefault» ⟨[.ref d,.ref a,dflt],[]⟩) (λA R s=>knd.room A.in1/\∃k xs,knd.is s.heap k a/\s.heap.DictOfH knd d xs/\xs.length<=sizeLine /\
   (∀u,(atKey xs k).map (·.2)=some u->R (.ok (.ret u)) { s with toks:=s.toks+knd.draws k }) /\
   ((atKey xs k).map (·.2)=none->∀h',h'.DictOfH knd d (storedH xs k a dflt)->Heap.SameBut d s.heap h'->R (.ok (.ret dflt)) { s with heap:=h',toks:=s.toks+knd.draws k })) :=
 .of_wp λA R s ⟨hu,k,xs,hkey,hm,hz,h1,h2⟩=>by
  unfold Builtin.«dict.setdefault»
  refine wpAny_bind ?_
  unfold Builtin.Dict.keyAndDefault
  refine wpAny_bind (wpAny_notOrdered_dict hm.typeIs ?_)
  show wpAny _ _ (pure (d,Value.ref a,some dflt)) _ _ s
  refine wpAny_pure ?_
  show wpAny _ _ (if (d==sysModules)=true then _ else (dictSetDefault d (.ref a) dflt >>= _)) _ _ s
  rw[if_neg (by rw[hd];exact Bool.false_ne_true)]
  exact wpAny_bind (qsu hu hkey hm (λv hv=>wpAny_pure ⟨v,rfl,h1 v hv⟩) (λhn h' hm' hs'=>wpAny_pure ⟨dflt,rfl,h2 hn h' hm' hs'⟩) hz)
end
end PySem
namespace L2
open PySem PySem.Spec PyProof.Rows
section
variable {X:Cx} {pins:List (Addr×Obj)} {σ:St} {H:Hp} {s:Shared} {a b:Addr} {u r:Value} {d:V} {A:Around} {E:Value->Shared->Prop}
theorem d_sd{kvs:List (List Key×V)}{k:List Key}{Q:Value->Shared->Prop}(hu:A.units+1<cLine)(I:Inv X pins σ H s)(e:H a=some (.dT kvs))(eb:H b=some (.tup (k.map kV)))(hl:kvs.length<sizeLine)(rd:RelV d r)
  (h1:∀v w' s',valV kvs k=some v->Inv X pins σ H s'->RelV v w'->Q w' s') (h2:∀s',valV kvs k=none->Inv X pins σ (upd H a (.dT (putK kvs k d))) s'->Q r s') :
  wpAny (model X.prog X.w) A (call (.builtin "dict.setdefault") [.ref a,.ref b,r]) Q E s:=by
 obtain⟨z,hd,xs,rel,dd⟩:=qwr I.hok e
 have hz:xs.length<=sizeLine:=by rw[←Paired.length rel];exact z
 have hl:(putK kvs k d).length<=sizeLine:=by have:=qej kvs k d;lia
 refine call_meetsIn PySem.F.slot_dict_setdefault dd.typeIs PySem.F.entry_dict_setdefault (PySem.F.args_dict_setdefault_3 _ _ _) (qqs (tupleKind (qbs X.prog X.w)) a b hd r) ⟨tupleKind_room_in1 hu,k,xs,qhm I.hok eb,dd,hz,λw' hw=>?_,λhn h' dd' hs=>h2 _ ?_ ?_⟩
 ·have:=rel.val k
  rw[hw] at this
  cases hv:valV kvs k with
 |none=>rw[hv] at this;exact this.elim
 |some v=>rw[hv] at this;exact h1 v w' _ hv (I.tok _) this
 ·have:=rel.val k
  rw[hn] at this
  cases hv:valV kvs k with
 |none=>rfl
 |some v=>rw[hv] at this;exact this.elim
 ·obtain⟨q,es,ep,hq,h2,h3,h4,_,h5⟩:=dd'
  refine qh6 I (by rw[e];exact True.intro) hs ⟨q,hq⟩ ⟨hl,hd,_,(rel.put k eb rd).keeps λc ys ec=>?_,q,es,ep,hq,h2,h3,h4,h5⟩
  rw[qau (qxg ec e (λz=>nomatch z))]
  exact ec
end
end L2
namespace L2
open PySem PySem.Spec PyProof.Rows
def tDSd(td ty tx:TE):TE:=λσ H Q=>td σ H λx H1=>∃a,x=.ref a/\IsD H1 a/\ty σ H1 λy H2=>tx σ H2 λz H3=>∃kvs k b,H3 a=some (.dT kvs)/\y=.ref b/\H3 b=some (.tup (k.map kV))/\kvs.length<sizeLine /\
 (∀v,valV kvs k=some v->Q v H3)/\(valV kvs k=none->Q z (upd H3 a (.dT (putK kvs k z))))
section
variable {X:Cx} {o e f:Expr} {apos cpos:Pos} {td ty tx:TE}
theorem q06(hu:X.A.units+1<cLine)(ho:PE X o td)(he:PE X e ty)(hf:PE X f tx)(m:M2 X o "setdefault" apos e f cpos):PE X (.Call (.Attribute o "setdefault" apos) [e,f] [] cpos) (tDSd td ty tx):=by
 intro pins s σ H Q I h
 refine wpAny_Call_method m.base m.few m.line PySem.F.plainAttrs_dict PySem.F.slot_dict_setdefault PySem.F.type_dict_setdefault (thn (ho pins s σ H _ I h) λu s1 ⟨x,H1,I1,rx,a,ex,d,q1⟩=>?_)
 subst ex
 obtain rfl:u=Value.ref a:=rx
 obtain⟨t1,t2,_⟩:=q0d I1 d
 refine⟨t1,t2,?_⟩
 rw[m.trees]
 refine Calls.callWith_builtin rfl (Calls.evalArgs_plain (Calls.spliced_cons (thn (he pins s1 σ H1 _ I1 q1) λiv s2 ⟨y,H2,I2,ry,q2⟩ =>
  Calls.spliced_cons (thn (hf pins s2 σ H2 _ I2 q2) λfv s3 ⟨z,H3,I3,rz,kvs,k,b,ea,ey,eb,hl,g1,g2⟩=>Calls.spliced_nil ?_))))
 subst ey
 obtain rfl:iv=Value.ref b:=ry
 exact d_sd hu I3 ea eb hl rz (λv w' s4 hv I4 rw'=>⟨v,H3,I4,rw',g1 v hv⟩) λs4 hn I4=>⟨z,_,I4,rz,g2 hn⟩
theorem q1t(hu:X.A.units+1<cLine)(ho:QE X o td)(he:QE X e ty)(hf:QE X f tx)(m:M2 X o "setdefault" apos e f cpos):QE X (.Call (.Attribute o "setdefault" apos) [e,f] [] cpos) (tDSd td ty tx):=⟨q06 hu ho.u he.u hf.u m⟩
end
section
variable {X:Cx} {EX:St->XK} {K:PySem.W.Frag} {B H B' H' H0 B0 B1 H1:Hp} {st:Stmt} {rest:List Stmt} {t u:TVS} {e f a:Expr} {te ta tk tf:TV} {tT:TVT} {tA:TVA} {es:List Expr} {pos pos' p p2 p3 apos cpos:Pos} {x y:Str} {τ:VSt} {σ:St} {r:R} {v:V}
def vSd(i:Nat)(tk te:TV):TVS:=λDv τ=>ownT τ i λks ds=>tk τ λrk=>match rk with
|.val (.tup es)=>∃w,es=w.map D.str/\("" : Str)∉w/\ks.length<sizeLine/\te τ λr=>match r with
 |.val d=>Dv.nx (if (lkD ks ds w).isSome=true then τ else τ.set i (some (.own (putD ks ds w d))))
 |_=>False
|_=>False
theorem q4a(i:Nat)(hu:X.A.units+64<cLine)(hk:VE X EX e tk)(h:VE X EX f te)(hN:X.N[i]?=some x:=by rfl)(hv:Vis X.env.scope x:=by first|exact Or.inl rfl|exact Or.inr (Or.inl rfl)|exact Or.inr (Or.inr rfl))(hd:(x==("__debug__" : Str))=false:=by decide)
  (hcd:(x==("__classdict__" : Str))=false:=by decide) (m:M2 X (.Name x p) "setdefault" apos e f cpos:=by exact⟨rfl,rfl,rfl,rfl⟩)
  (hs:swapsWith (.Call (.Attribute (.Name x p) "setdefault" apos) [e,f] [] cpos) none pos.line X.env=pure false:=by rfl) :
  VS X EX (.Expr (.Call (.Attribute (.Name x p) "setdefault" apos) [e,f] [] cpos) pos) (vSd i tk te) :=
 let ⟨_,a1,a2⟩:=h.u;let ⟨_,b1,b2⟩:=hk.u;⟨_,qis (q1t (by lia) (qv i hN hv hd hcd) b1 a1 m) hs,λB0 H0 B H τ σ Dv Dh p S h E=>by
  obtain⟨ks,ds,e1,h⟩:=qq5 h
  obtain⟨ad,e2,h0,hbb,kvs,f4,f5,f6⟩:=S.own i _ e1
  refine⟨.ref ad,e2,ad,rfl,.inr ⟨kvs,.inl f4⟩,b2 H0 B H τ σ _ _ p.s S h (xno λ_ q=>q) λrk vk B2 H2 q2 hk hh=>?_⟩
  split at hh
  ·rename_i es
   obtain⟨w,rfl,hne,hz,hh⟩:=hh
   refine a2 H0 B2 H2 τ σ _ _ q2.s (S.step q2) hh (xno λ_ q=>q) λr v B3 H3 q3 hr hn=>?_
   split at hn
   ·rename_i d
    have qq:=q2.trans q3
    have S3:=S.step qq
    obtain⟨a',g1,h0,hbb,kvs,g4,g5,g6⟩:=S3.own i _ e1
    rw[e2] at g1
    cases g1
    obtain⟨b,rfl,hb⟩:=hk.pk.way (rfl:(R.val (D.tup (w.map D.str))).d=_) hne
    have hl:kvs.length<sizeLine:=by
     have:kvs.length=ks.length:=by simpa using congrArg List.length g5
     lia
    have rp:Rep X.K B3 d v:=hr
    refine⟨kvs,wK w,b,g4,rfl,by rw[qo4];exact q3.s _ _ (q3.b _ _ hb),hl,λv' hv=>?_,λhv=>?_⟩
    ·have hs:(lkD ks ds w).isSome=true:=by rw[←qgk w g5 g6,hv];rfl
     rw[if_pos hs] at hn
     exact E.nx B3 H3 τ σ (p.trans qq) S3 hn
    ·have hs:(lkD ks ds w).isSome=false:=by rw[←qgk w g5 g6,hv];rfl
     rw[if_neg (by rw[hs];decide)] at hn
     obtain⟨ks',ds',ep,k1,k2⟩:=qrb w g5 g6 rp
     rw[ep] at hn
     exact E.nx B3 _ _ σ ((p.trans qq).upd h0 hbb) (S3.upd (d:=.dT ks' ds') e1 e2 ⟨_,qa0,k1,k2⟩) hn
   ·exact hn.elim
  ·exact hh.elim⟩
def ioL(τ:VSt)(i:Nat)(k:Addr->List D->Prop):Prop:=match τ[i]? with
|some (some (.own (.io c ds)))=>k c ds
|_=>False
theorem qjq{i:Nat}{k:Addr->List D->Prop}(h:ioL τ i k):∃c ds,τ[i]?=some (some (.own (.io c ds)))/\k c ds:=by
 unfold ioL at h
 split at h
 ·rename_i c ds e
  exact⟨c,ds,e,h⟩
 ·exact h.elim
theorem Slots.ioL{i:Nat}{c:Addr}{ds:List D}(S:Slots K H0 B H τ σ)(e:τ[i]?=some (some (.own (.io c ds)))):σ[i]?=some (some (.ref c))/\H0 c=none/\B c=none/\∃xs,H c=some (.lst xs)/\Reps K B ds xs:=by
 obtain⟨ad,e2,h0,hb,ow⟩:=S.own i _ e
 obtain⟨rfl,xs,e3,r⟩:=qgp ow
 exact⟨e2,h0,hb,xs,e3,r⟩
theorem Slots.ioNew{i:Nat}{c:Addr}{ds ds':List D}{xs':List V}(S:Slots K H0 B H τ σ)(p:Stp B0 H0 B H)(e:τ[i]?=some (some (.own (.io c ds))))(r:Reps K B ds' xs'):Stp B0 H0 B (L2.upd H c (.lst xs'))/\Slots K H0 B (L2.upd H c (.lst xs')) (τ.set i (some (.own (.io c ds')))) σ:=by
 obtain⟨e2,h0,hb,_⟩:=S.ioL e
 exact⟨p.upd h0 hb,S.upd e e2 (qvf qa0 r)⟩
def qd4(i:Nat)(tk te:TV):TVS:=λDv τ=>ioL τ i λc ds=>te τ λr=>exS τ Dv r <| pubR r λd=>tk τ λrk=>match rk.d with
|.int k=>∃j,ixN ds.length k=some j/\Dv.nx (τ.set i (some (.own (.io c (ds.set j d)))))
|_=>False
theorem qdy{ek:Expr}(i:Nat)(hk:VE X EX ek tk)(h:VE X EX e te)(hN:X.N[i]?=some x:=by rfl)(hv:Vis X.env.scope x:=by first|exact Or.inl rfl|exact Or.inr (Or.inl rfl)|exact Or.inr (Or.inr rfl))(hd:(x==("__debug__" : Str))=false:=by decide)
  (hcd:(x==("__classdict__" : Str))=false:=by decide)
  (ha:∀v,assign (.Subscript (.Name x p) ek p2) X.env v=(do
   let ov ←holding [v] (eval (.Name x p) X.env)
   let iv ←holding [v,ov] (eval ek X.env)
   standAt p2
   holding [v,ov,iv] (setItem ov iv v)
   release [v,ov,iv] []):=by intro _;rfl)
  (hs:swapsWithSole [.Subscript (.Name x p) ek p2] e pos.line X.env=pure false:=by rfl) (hw:swappedStores [.Subscript (.Name x p) ek p2] e X.env=pure none:=by rfl)
  (h1:(assignEach [.Subscript (.Name x p) ek p2] X.env).map (·.2)=[assign (.Subscript (.Name x p) ek p2) X.env]:=by rfl):VS X EX (.Assign [.Subscript (.Name x p) ek p2] e pos) (qd4 i tk te) :=
 let ⟨_,a1,a2⟩:=h.u;let ⟨_,b1,b2⟩:=hk.u;⟨_,qvp a1 (qvn (qv i hN hv hd hcd) b1 set_list ha) hs hw h1,λB0 H0 B H τ σ Dv Dh p S h E=>by
  obtain⟨c,ds,e1,h⟩:=qjq h
  refine a2 H0 B H τ σ _ _ p.s S h (E.raised p S) λr v B' H' q hr hq=>?_
  obtain⟨d,B2,q2,_,rp,hn⟩:=pub q hr (hr.okS hq)
  obtain⟨e2,_⟩:=S.ioL e1
  refine⟨.ref c,e2,b2 H0 B2 H' τ σ _ _ q2.s (S.step q2) hn (xno λ_ q=>q) λrk vk B3 H3 q3 hk hh=>?_⟩
  split at hh
  ·rename_i k ek
   obtain⟨j,hj,hn⟩:=hh
   have qq:=q2.trans q3
   have S3:=S.step qq
   obtain⟨_,_,_,xs2,f4,f3⟩:=S3.ioL e1
   refine⟨c,xs2,k,j,rfl,hk.pk.scal (by rw[ek];rfl),f4,by rw[←f3.length];exact hj,?_⟩
   obtain⟨p4,S4⟩:=S3.ioNew (p.trans qq) e1 (f3.set j (rp.same q3.b))
   exact E.nx B3 _ _ σ p4 S4 hn
  ·exact hh.elim⟩
def qdw(i:Nat)(tA:TVA):TVS:=λDv τ=>ioL τ i λc ds=>tA τ λa=>match a with
|.ok [.int k,d]=>0<=k/\k<=ds.length/\k<1000/\ds.length<sizeLine/\Dv.nx (τ.set i (some (.own (.io c (ds.take k.toNat++d::ds.drop k.toNat)))))
|_=>False
theorem qfi(i:Nat)(h:VA X EX (e::es) tA)(hN:X.N[i]?=some x:=by rfl)(hv:Vis X.env.scope x:=by first|exact Or.inl rfl|exact Or.inr (Or.inl rfl)|exact Or.inr (Or.inr rfl))(hd:(x==("__debug__" : Str))=false:=by decide)
  (hcd:(x==("__classdict__" : Str))=false:=by decide) (hp:(e::es).all qaq=true:=by rfl) (hfew:decide ((e::es).length<30)=true:=by rfl)
  (hbase:attributeBase (.Name x p) "insert" X.env (eval (.Name x p) X.env)=eval (.Name x p) X.env:=by rfl) (hline:(apos.endLine==cpos.line)=true:=by rfl)
  (hs:swapsWith (.Call (.Attribute (.Name x p) "insert" apos) (e::es) [] cpos) none pos.line X.env=pure false:=by rfl) :
  VS X EX (.Expr (.Call (.Attribute (.Name x p) "insert" apos) (e::es) [] cpos) pos) (qdw i tA) :=
 let ⟨_,a1,a2⟩:=h.u;⟨_,qis (qbm PySem.F.plainAttrs_list PySem.F.slot_list_insert PySem.F.type_list_insert qqv (qv i hN hv hd hcd) a1 hp hfew hbase hline) hs,λB0 H0 B H τ σ Dv Dh p S h E=>by
  obtain⟨c,ds,e1,h⟩:=qjq h
  obtain⟨e2,_,_,xs,e3,_⟩:=S.ioL e1
  refine⟨.ref c,e2,.inl ⟨rfl,xs,SqL.of e3⟩,a2 H0 B H τ σ _ _ p.s S h (xno λ_ q=>q) λds' vs B' H' q hr hq=>?_⟩
  split at hq
  ·rename_i a k d ea
   cases ea
   obtain⟨k0,k1,k2,hz,hn⟩:=hq
   unfold Reps at hr
   obtain⟨v0,vs0,rfl,r0,hr⟩:=hr
   unfold Reps at hr
   obtain⟨v1,vs1,rfl,r1,hr⟩:=hr
   unfold Reps at hr
   subst hr
   unfold Rep at r0
   subst r0
   have S2:=S.step q
   obtain⟨_,_,_,xs2,q4,q3⟩:=S2.ioL e1
   have hl:=q3.length
   refine⟨c,xs2,k,v1,rfl,rfl,q4,k0,by lia,by lia,by lia,?_⟩
   obtain⟨p3,S3⟩:=S2.ioNew (p.trans q) e1 ((q3.take k.toNat).append (.cons r1 (q3.drop k.toNat)))
   exact E.nx B' _ _ σ p3 S3 hn
  ·exact hq.elim⟩
def qkl(j i:Nat)(tk:TV):TVS:=λDv τ=>ioL τ i λc ds=>tk τ λr=>match r with
|.val (.int k)=>0<=k/\k<1000/\∃d es,ds[k.toNat]?=some (.tup (d::es))/\Dv.nx ((τ.set i (some (.own (.io c (ds.eraseIdx k.toNat))))).set j (some (.val d)))
|_=>False
theorem qu0{j i n:Nat}(hnd:X.N.Nodup)(hj:X.N[j]?=some x)(hx:Loc X.env.scope x)(h:VE X EX e tk)(hN:X.N[i]?=some y:=by rfl)(hv:Vis X.env.scope y:=by first|exact Or.inl rfl|exact Or.inr (Or.inl rfl)|exact Or.inr (Or.inr rfl))(hd:(y==("__debug__" : Str))=false:=by decide)
  (hcd:(y==("__classdict__" : Str))=false:=by decide) (hp:qaq e=true:=by rfl)
  (hbase:attributeBase (.Name y p) "pop" X.env (eval (.Name y p) X.env)=eval (.Name y p) X.env:=by rfl) (hline:(apos.endLine==cpos.line)=true:=by rfl)
  (hix:qh2 (.Constant (.int 0) n p2):=by intro _ _;rfl)
  (hs:swapsWith (.Subscript (.Call (.Attribute (.Name y p) "pop" apos) [e] [] cpos) (.Constant (.int 0) n p2) p3) (some (.Name x pos')) pos.line X.env=pure false:=by rfl)
  (hf:X.fn x=true\/X.env.scope.names.lookup x=some .local:=by first|exact .inl rfl|exact .inr rfl|assumption) :
  VS X EX (.Assign [.Name x pos'] (.Subscript (.Call (.Attribute (.Name y p) "pop" apos) [e] [] cpos) (.Constant (.int 0) n p2) p3) pos) (qkl j i tk) :=
 let ⟨_,a1,a2⟩:=h.u;⟨_,qnf hnd hj hx (q1u ix_tup (qbm PySem.F.plainAttrs_list PySem.F.slot_list_pop PySem.F.type_list_pop qtg (qv i hN hv hd hcd) (qac a1 qeg hp) (by simp[hp]) rfl hbase hline) qvm hix) hs hf,λB0 H0 B H τ σ Dv Dh p S h E=>by
  obtain⟨c,ds,e1,h⟩:=qjq h
  obtain⟨e2,_,_,xs,e3,_⟩:=S.ioL e1
  refine⟨.ref c,e2,.inl ⟨rfl,xs,SqL.of e3⟩,a2 H0 B H τ σ _ _ p.s S h (xno λ_ q=>q) λr v B' H' q hr hq=>?_⟩
  split at hq
  ·rename_i k
   obtain⟨k0,k2,d,es,hk,hn⟩:=hq
   have ev:v=.int k:=hr.pk.scal (z:=.int k) rfl
   subst ev
   have S2:=S.step q
   obtain⟨_,_,_,xs2,q4,q3⟩:=S2.ioL e1
   have hl:=q3.length
   obtain⟨m,rfl⟩:=Int.eq_ofNat_of_zero_le k0
   rw[Int.toNat_natCast] at hk hn
   obtain⟨w,hw,rw'⟩:=q3.at hk
   have hm:m<xs2.length:=(List.getElem?_eq_some_iff.mp hw).1
   refine⟨c,xs2,m,m,w,rfl,rfl,q4,by lia,by lia,?_,hw,?_⟩
   ·rw[seqIndex_of (by lia) (by lia)]
    rfl
   ·obtain⟨p3,S3⟩:=S2.ioNew (p.trans q) e1 (q3.erase m)
    unfold Rep at rw'
    obtain⟨ad,ys,rfl,ht,r1⟩:=rw'
    unfold Reps at r1
    obtain⟨w0,ys',rfl,r0,r2⟩:=r1
    obtain⟨y0,hy,hy2⟩:=qhd (xs:=w0::ys') (k:=0) (by decide) (by rw[List.length_cons];lia)
    cases hy2
    refine⟨ad,w0::ys',0,w0,rfl,rfl,p3.s.sqT ht.sq,hy,?_⟩
    exact E.nx B' _ _ _ p3 (S3.setVal j r0) hn
  ·exact hq.elim⟩
def qgx(g:DPI)(j:Nat)(tA:TVA):TVS:=λDv τ=>qfn g j tA τ λd τ'=>Dv.ro τ' (.val d)
theorem qi4{m k j:Nat}{ps:List Str}{g:DPI}(C:Cal X.prog X.w X.K X.mg X.base m x ps (qfr X.K g k))(hr:Room m X.A)(hg:Gl X x)(ha:VAI X EX (e::es) tA k j)(hp:(e::es).all qaq=true:=by rfl)(hdb:(x==("__debug__" : Str))=false:=by decide):VS X EX (.Return (some (.Call (.Name x p) (e::es) [] p2)) pos) (qgx g j tA) :=
 let ⟨_,a1,a2⟩:=ha.u;⟨_,qne (qrc C hr hg a1 hp hdb),λB0 H0 B H τ σ Dv Dh p S h E=>qnh a2 p S h λd τ' v B' H' q S' rp hd=>E.ro (.val d) v B' H' τ' σ q S' rp (λ_ _ _ _ z=>by cases z) hd⟩
def qhw(i:Nat)(t:TV):TV:=λτ Q=>ioL τ i λ_ ds=>t (τ.set i (some (.val (.lst ds)))) λr=>qor r Q
theorem Slots.noio{i:Nat}{c:Addr}{ds:List D}(S:Slots K H0 B H τ σ)(e:τ[i]?=some (some (.own (.io c ds)))):Slots K H0 B H (τ.set i (some (.own (.lst ds)))) σ:=by
 obtain⟨e2,h0,hb,xs,e3,r⟩:=S.ioL e
 refine⟨by rw[List.length_set,S.len],λk d q'=>?_,λk d q'=>?_,λk d q'=>?_,λk l d f b q1 q2 q3 q4=>?_⟩
 ·rcases qat q' with ⟨rfl,z,_⟩|⟨_,q'⟩
  ·cases z
  ·exact S.val k d q'
 ·rcases qat q' with ⟨rfl,z,_⟩|⟨_,q'⟩
  ·cases z
  ·exact S.fz k d q'
 ·rcases qat q' with ⟨rfl,z,_⟩|⟨_,q'⟩
  ·cases z
   exact⟨c,e2,h0,hb,xs,e3,r⟩
  ·exact S.own k d q'
 ·have hk:∃d',τ[k]?=some (some (.own d')):=by
   rcases qat q1 with ⟨rfl,_,_⟩|⟨_,q'⟩
   ·exact⟨_,e⟩
   ·exact⟨_,q'⟩
  have hl:∃d',τ[l]?=some (some (.own d')):=by
   rcases qat q2 with ⟨rfl,_,_⟩|⟨_,q'⟩
   ·exact⟨_,e⟩
   ·exact⟨_,q'⟩
  obtain⟨_,hk⟩:=hk
  obtain⟨_,hl⟩:=hl
  exact S.sep k l _ _ b hk hl q3 q4
theorem qnr{t:TV}(i:Nat)(h:VE X EX e t):VE X EX e (qhw i t) :=
 let ⟨_,a1,a2⟩:=h.u;⟨_,a1,λH0 B H τ σ Q Qd s S h xc kk=>by
  obtain⟨c,ds,e1,h⟩:=qjq h
  have li:i<τ.length:=(List.getElem?_eq_some_iff.mp e1).1
  obtain⟨B2,s1,s2,S2⟩:=(S.noio e1).frzE s i
  rw[qww (by rw[List.getElem?_set_self li]),List.set_set] at S2
  refine a2 H0 B2 H _ σ Q (λr=>qor r Qd) s2 S2 h (λn C B' H' p c q=>(show False from q).elim) λr v B' H' p q hq=>?_
  unfold qor at hq
  split at hq
  ·rename_i d'
   split at hq
   ·rename_i z ez
    have:=(show Pk X.K B' H' (.val d') v from q).scal ez
    subst this
    exact kk (.val d') _ B H' (.grow s p.h) (repV ez) hq
   ·exact hq.elim
  ·exact hq.elim⟩
def qle(i:Nat)(c:Addr)(ds:List D)(g:TVG)(tb:TVS)(Dv:VEnds):List D->VSt->Prop
|[],τ=>τ[i]?=some (some (.own (.io c ds)))/\Dv.nx τ
|d::rest,τ=>τ[i]?=some (some (.own (.io c ds)))/\g d τ λτ'=>tb { Dv with nx:=qle i c ds g tb Dv rest,ct:=qle i c ds g tb Dv rest,bk:=Dv.nx } τ'
def qr2(i:Nat)(g:TVG)(tb:TVS):TVS:=λDv τ=>ioL τ i λc ds=>qle i c ds g tb Dv ds τ
theorem qzh{tg:Expr}{body:List Stmt}{g:TVG}(i:Nat)(hp:PassesOwn (model X.prog X.w) X.A X.env X.xe)(hc:X.calm=true)(hg:VG X tg g)(hb:VSs X EX body t)(hN:X.N[i]?=some x:=by rfl)(hv:Vis X.env.scope x:=by first|exact Or.inl rfl|exact Or.inr (Or.inl rfl)|exact Or.inr (Or.inr rfl))(hd:(x==("__debug__" : Str))=false:=by decide)
  (hcd:(x==("__classdict__" : Str))=false:=by decide)
  (hs:∀z,foldedSetIterable (.Name x p) X.env z=pure z:=by intro _;rfl):VS X EX (.For tg (.Name x p) body [] pos) (qr2 i g t) :=
 let ⟨_,b1,b2⟩:=hg.u;let ⟨_,c1,c2⟩:=hb.u;⟨_,qvq hp hc (qvo (qv i hN hv hd hcd)) b1 c1 hs,λB0 H0 B H τ σ Dv Dh p S h E=>by
  obtain⟨c,ds,e1,h⟩:=qjq h
  obtain⟨e2,_,_,xs,e3,r3⟩:=S.ioL e1
  refine⟨.ref c,e2,.inl ⟨c,rfl,⟨xs,SqL.of e3⟩,?_⟩⟩
  refine⟨λk m σ H=>m=ds.length-k/\k<=ds.length/\∃B2 τ,Stp B0 H0 B2 H/\Slots X.K H0 B2 H τ σ/\qle i c ds g t Dv (ds.drop k) τ,⟨ds.length,by lia,Nat.zero_le _,B,τ,p,S,h⟩,?_⟩
  rintro k m σ2 H2 ⟨rfl,hk,B2,τ2,p2,S2,w⟩
  by_cases hlt:k<ds.length
  ·rw[List.drop_eq_getElem_cons hlt] at w
   obtain⟨e4,w⟩:=w
   obtain⟨_,_,_,xs2,e5,r5⟩:=S2.ioL e4
   obtain⟨v,hv',rv⟩:=r5.at (List.getElem?_eq_getElem hlt)
   refine .inr ⟨⟨xs2,v,SqL.of e5,hv'⟩,λσ' H'=>∃B2 τ,Stp B0 H0 B2 H'/\Slots X.K H0 B2 H' τ σ'/\qle i c ds g t Dv (ds.drop (k+1)) τ,λσ' H' ⟨B3,τ3,a1,a2,a3⟩=>⟨ds.length-(k+1),by lia,rfl,by lia,B3,τ3,a1,a2,a3⟩,λy H' hy=>?_⟩
   have ey:=hy.2 xs2 (SqL.of e5)
   rw[hv'] at ey
   cases ey
   have eh:=hy.1
   subst eh
   refine b2 H0 B2 H' τ2 σ2 v _ _ _ p2.s S2 rv w λτ' σ' S' _ h'=>?_
   exact c2 B0 H0 B2 H' τ' σ' _ _ p2 S' h' ⟨λB H τ σ a1 a2 a3=>⟨B,τ,a1,a2,a3⟩,E.rt,λB H τ σ a1 a2 a3=>E.nx B H τ σ a1 a2 a3,λB H τ σ a1 a2 a3=>⟨B,τ,a1,a2,a3⟩,E.xc,E.ro⟩
  ·have ek:ds.drop k=[]:=List.drop_eq_nil_of_le (by lia)
   rw[ek] at w
   obtain⟨e4,w⟩:=w
   obtain⟨_,_,_,xs2,e5,r5⟩:=S2.ioL e4
   exact .inl ⟨⟨xs2,SqL.of e5,by rw[←r5.length];lia⟩,E.nx B2 H2 τ2 σ2 p2 S2 w⟩⟩
end
end L2
set_option maxHeartbeats 4000000
namespace K07
open PySem L2
local macro_rules|`(tactic| simp! only[$xs,*])=>`(tactic| simp only[vSeq,vIfS,vBl,vOp,vLt,vLe,vGt,vGe,vI2',vI2,vVar,vF1,vLen,qkk,qhx,qr4,vStr,vRet,qo1,qy9,vIxR,qbj,vC,vAdd,vSub,vMul,vDiv,vMod,vPow,vEq,vNe,qc8,vSlR,qcd,qen,vNeg,qry,qar,qae,vNil,vTup,vLst,vSet,qhc,qgw,qr3,ownL,vSd,qd4,qdw,qkl,qgx,qhw,qr2,ioL,vFor,qkm,qza,qdq,qfs,qkj,isTy,qfe,qhb,vOrT,qy8,qha,vOrE,vIfE,vAsg,qbk,qmk,qd1,qml,qmg,vFrz,frz,qr1,vAll,qmf,vIsN,qhv,qba,dV,scal,qrh,qrg,ql9,qrf,ql8,ql7,qp8,qp7,qlc,qp6,qk7,qk6,qh9,qk5,qlb,qla,qia,qk9,qp4,qgd,qp5,qk8,qly,qil,qhy,vTry,VEnds.calm,VEnds.wiped,qrz,vDIn,qr0,qkh,qo0,ownT,qki,qff,qor,vAug,vZip,vLtD,vNeD,qgy,qko,qmh,vIn,vIo,qc0,qef,qfn,qkn,qy7,qlh,qeh,List.insertIdx_zero,List.insertIdx_succ_cons,strsOf,qfc,Option.map_some,List.map_cons,List.map_nil,List.length_cons,List.length_nil,List.cons_append,List.nil_append,List.getElem?_cons_zero,List.getElem?_cons_succ,List.set_cons_zero,List.set_cons_succ,List.replicate_succ,List.replicate_zero,Nat.reduceSub,Nat.reduceAdd,if_true,if_false,ite_true,ite_false,Bool.not_true,Bool.not_false,decide_true,decide_false,eq_int,eq_str,qpu,qk2,qpz,qp0,true_and,and_true,Nat.zero_le,List.take_succ_cons,List.take_zero,reduceIte,Bool.false_eq_true,eq_self,List.length_map,V.int.injEq,V.str.injEq,CDiv,Int.reduceLT,Int.zero_add,and_self,List.cons.injEq,D.scr.injEq,D.int.injEq,D.str.injEq,D.tup.injEq,D.lst.injEq,D.bl.injEq,and_assoc,exists_and_left,exists_eq_left,exists_eq_left',qek,qgl,qnj,qni,qmx,qps,qh5,Int.reduceLE,Int.le_refl,qno,qjm,qpn,qmq,Option.some.injEq,$xs,*])
local macro_rules|`(tactic| dsimp! only[$xs,*])=>`(tactic| ((try dsimp only[vIfS,vBl,vOp,vLt,vLe,vGt,vGe,vI2',vI2,vVar,vF1,vLen,qkk,qhx,qr4,vStr,vRet,qo1,qy9,vIxR,qbj,vC,vAdd,vSub,vMul,vDiv,vMod,vPow,vEq,vNe,qc8,vSlR,qcd,qen,vNeg,qry,qar,qae,vNil,vTup,vLst,vSet,qhc,qgw,qr3,ownL,vSd,qd4,qdw,qkl,qgx,qhw,qr2,ioL,vFor,qkm,qza,qdq,qfs,qkj,isTy,qfe,qhb,vOrT,qy8,qha,vOrE,vIfE,vAsg,qbk,qmk,qd1,qml,qmg,vFrz,frz,qr1,vAll,qmf,vIsN,qhv,qba,dV,scal,qrh,qrg,ql9,qrf,ql8,ql7,qp8,qp7,qlc,qp6,qk7,qk6,qh9,qk5,qlb,qla,qia,qk9,qp4,qgd,qp5,qk8,qly,qil,qhy,vTry,VEnds.calm,VEnds.wiped,qrz,vDIn,qr0,qkh,qo0,ownT,qki,qff,qor,vAug,vZip,vLtD,vNeD,qgy,qko,qmh,vIn,vIo,qc0,qef,qfn,qkn,qy7,qlh,qeh,List.insertIdx_zero,List.insertIdx_succ_cons,strsOf,Option.map_some,List.map_cons,List.map_nil,List.length_cons,List.length_nil,List.cons_append,List.nil_append,List.getElem?_cons_zero,List.getElem?_cons_succ,List.set_cons_zero,List.set_cons_succ,List.take_succ_cons,List.take_zero,CDiv,$xs,*]);(try simp only[vIfS,vBl,vOp,vLt,vLe,vGt,vGe,vI2',vI2,vVar,vF1,vLen,qkk,qhx,qr4,vStr,vRet,qo1,qy9,vIxR,qbj,vC,vAdd,vSub,vMul,vDiv,vMod,vPow,vEq,vNe,qc8,vSlR,qcd,qen,vNeg,qry,qar,qae,vNil,vTup,vLst,vSet,qhc,qgw,qr3,ownL,vSd,qd4,qdw,qkl,qgx,qhw,qr2,ioL,vFor,qkm,qza,qdq,qfs,qkj,isTy,qfe,qhb,vOrT,qy8,qha,vOrE,vIfE,vAsg,qbk,qmk,qd1,qml,qmg,vFrz,frz,qr1,vAll,qmf,vIsN,qhv,qba,dV,scal,qrh,qrg,ql9,qrf,ql8,ql7,qp8,qp7,qlc,qp6,qk7,qk6,qh9,qk5,qlb,qla,qia,qk9,qp4,qgd,qp5,qk8,qly,qil,qhy,vTry,VEnds.calm,VEnds.wiped,qrz,vDIn,qr0,qkh,qo0,ownT,qki,qff,qor,vAug,vZip,vLtD,vNeD,qgy,qko,qmh,vIn,vIo,qc0,qef,qfn,qkn,qy7,qlh,qeh,List.insertIdx_zero,List.insertIdx_succ_cons,strsOf,qfc,Option.map_some,List.map_cons,List.map_nil,List.length_cons,List.length_nil,List.cons_append,List.nil_append,List.getElem?_cons_zero,List.getElem?_cons_succ,List.set_cons_zero,List.set_cons_succ,List.replicate_succ,List.replicate_zero,Nat.reduceSub,Nat.reduceAdd,if_true,if_false,ite_true,ite_false,Bool.not_true,Bool.not_false,decide_true,decide_false,eq_int,eq_str,qpu,qk2,qpz,qp0,true_and,and_true,Nat.zero_le,List.take_succ_cons,List.take_zero,reduceIte,Bool.false_eq_true,eq_self,List.length_map,V.int.injEq,V.str.injEq,CDiv,Int.reduceLT,Int.zero_add,and_self,List.cons.injEq,D.scr.injEq,D.int.injEq,D.str.injEq,D.tup.injEq,D.lst.injEq,D.bl.injEq,and_assoc,exists_and_left,exists_eq_left,exists_eq_left',qek,qgl,qnj,qni,qmx,qps,qh5,Int.reduceLE,Int.le_refl,qno,qjm,qpn,qmq,Option.some.injEq,$xs,*])))
local macro_rules | `(tactic| rfl')=>`(tactic| dsimp! only [true_and])
local macro_rules | `(tactic| ac_rfl)=>`(tactic| simp! only [true_and])
def NS:Str:="abcdefghijklmnopqrstuvwxyz0123456789"
theorem q3e(c:Nat):(!(Builtin.Str.occurrences NS ⟨#[c]⟩ 0 NS.length 1).isEmpty)=decide (c∈NS.cps.toList):=StrLaws.found_one NS c
theorem qui:("/" : Str)=⟨#[47]⟩:=by decide +kernel
theorem qti:(47:Nat)∉NS.cps.toList:=by decide +kernel
def nmL(l:List Nat):Bool:=decide (1<=l.length)&&decide (l.length<=12)&&l.all λc=>decide (c∈NS.cps.toList)
def nmB(z:Str):Bool:=nmL z.cps.toList
def wdB(z:Str):Bool:=decide (z∈[(".": Str),".."])||nmB z
theorem qqw{z:Str}(h:nmB z=true):(47:Nat)∉z.cps.toList:=λm=>by
 unfold nmB nmL at h
 rw[Bool.and_eq_true,List.all_eq_true] at h
 exact qti (of_decide_eq_true (h.2 47 m))
theorem qdz{z:Str}(h:nmB z=true):1<=z.length/\z.length<=12:=by
 unfold nmB nmL at h
 rw[Bool.and_eq_true,Bool.and_eq_true] at h
 exact⟨of_decide_eq_true h.1.1,of_decide_eq_true h.1.2⟩
def rt(z:Str):Bool:=z.cps.toList.head?==some 47
def wsW(z:Str):List Str:=(sp 47 (if rt z=true then z.cps.toList.drop 1 else z.cps.toList)).map mkS
def qbh(z:Str):Option (Bool×List Str):=if z="/" then some (true,[]) else if (wsW z).length<=40/\(wsW z).all wdB=true then some (rt z,wsW z) else none
theorem qqy{z:Str}(h:nmB z=true):wdB z=true:=by unfold wdB;rw[h,Bool.or_true]
def qbz:DP:=λds Q=>∃z,ds=[.str z]/\z.length<=5000/\Q (.val (.bl (nmB z)))
theorem qll:∀ds Q,qbz ds Q->ds.length=1:=by rintro ds Q ⟨_,rfl,_⟩;rfl
def qcx:DP:=λds Q=>∃z,ds=[.str z]/\z.length<=5000/\Q (.val (.bl (wdB z)))
theorem qln:∀ds Q,qcx ds Q->ds.length=1:=by rintro ds Q ⟨_,rfl,_⟩;rfl
def qcq:DP:=λds Q=>∃z,ds=[.str z]/\z.length<=5000/\(∀r ws,qbh z=some (r,ws)->Q (.val (.tup [.bl r,q2j ws])))/\(qbh z=none->Q (.exc "NoWay"))
theorem qjy:∀ds Q,qcq ds Q->ds.length=1:=by rintro ds Q ⟨_,rfl,_⟩;rfl
def qwh(ns:List Int)(k:Int):Int:=(ns[k.toNat]?).getD 0
def qa8:DP:=λds Q=>∃ns k,ds=[.scr ns,.int k]/\0<=k/\Q (.val (.int (qwh ns k)))
theorem qlj:∀ds Q,qa8 ds Q->ds.length=2:=by rintro ds Q ⟨_,_,rfl,_⟩;rfl
abbrev En(Q:R->Prop):VEnds:={ nx:=λ_=>Q (.val .non),rt:=Q }
abbrev EnX(Q:R->Prop):VEnds:={ nx:=λ_=>Q (.val .non),rt:=Q,xc:=λ_ n=>Q (.exc n) }
def qfd(ws:List Str):List Nat:=ws.flatMap λw=>47::w.cps.toList
theorem qfy:∀(ws:List Str) (w:List Nat),47∉w->(∀z∈ws,(47:Nat)∉z.cps.toList)->sp 47 (w++qfd ws)=w::ws.map (·.cps.toList)
|[],w,hw,_=>by
  show sp 47 (w++[])=_
  rw[List.append_nil,qmb 47 w hw]
  rfl
|z::ws,w,hw,h=>by
  show sp 47 (w++(47::z.cps.toList++qfd ws))=_
  rw[List.cons_append,qro 47 w _ hw,qfy ws _ (h z (List.mem_cons_self ..)) λy hy=>h y (List.mem_cons_of_mem _ hy)]
  rfl
theorem app_list(a b:Str):(a++b).cps.toList=a.cps.toList++b.cps.toList:=by
 show (a.cps++b.cps).toList=_
 rw[Array.toList_append]
theorem qhs:("/" : Str).cps.toList=[47]:=by rw[qui]
theorem join_list:∀(ws:List Str) (w:Str),(PySem.Str.join "/" (w::ws)).cps.toList=w.cps.toList++qfd ws
|[],w=>(List.append_nil _).symm
|y::ws,w=>by
  have e:PySem.Str.join "/" (w::y::ws)=w++("/" : Str)++PySem.Str.join "/" (y::ws):=rfl
  rw[e,app_list,app_list,join_list ws y,qhs,List.append_assoc]
  rfl
theorem qa9(w:Str)(ws:List Str):(glue "/" (w::ws)).cps.toList=w.cps.toList++qfd ws:=by
 show (Builtin.Str.glued "/" (w::ws)).cps.toList=_
 rw[StrLaws.glued_eq_join,join_list]
theorem qg4{z:Str}(h:wdB z=true):(47:Nat)∉z.cps.toList:=by
 unfold wdB at h
 rw[Bool.or_eq_true] at h
 rcases h with q|q
 ·have:=of_decide_eq_true q
  rw[List.mem_cons,List.mem_singleton] at this
  rcases this with rfl|rfl
  ·decide +kernel
  ·decide +kernel
 ·exact qqw q
theorem qu6{z:Str}(h:wdB z=true):z≠"" := λe=>by subst e;revert h;decide +kernel
theorem qst{z:Str}(h:wdB z=true):∃x xs,z.cps.toList=x::xs/\x≠47:=by
 have hf:=qg4 h
 cases hc:z.cps.toList with
|nil=>exact absurd (qdc (by rw[hc];decide +kernel)) (qu6 h)
|cons x xs=>exact⟨x,xs,rfl,λe=>by rw[hc,e] at hf;exact hf (List.mem_cons_self ..)⟩
theorem qnl(w:Str)(ws:List Str)(h:∀z∈w::ws,wdB z=true):(sp 47 (w.cps.toList++qfd ws)).map mkS=w::ws:=by
 rw[qfy ws _ (qg4 (h w (List.mem_cons_self ..))) λz hz=>qg4 (h z (List.mem_cons_of_mem _ hz)),List.map_cons,qb1,List.map_map]
 congr 1
 exact(List.map_congr_left λz _=>qb1 z).trans (List.map_id _)
theorem qkw{ws:List Str}(h0:ws≠[])(hl:ws.length<=40)(hw:∀z∈ws,wdB z=true):qbh (glue "/" ws)=some (false,ws):=by
 cases ws with
|nil=>exact absurd rfl h0
|cons w ws =>
  obtain⟨x,xs,e1,e2⟩:=qst (hw w (List.mem_cons_self ..))
  have hr:rt (glue "/" (w::ws))=false:=by
   unfold rt
   rw[qa9,e1,List.cons_append,List.head?_cons]
   simpa using e2
  have hs:wsW (glue "/" (w::ws))=w::ws:=by
   unfold wsW
   rw[hr,if_neg (by decide),qa9]
   exact qnl w ws hw
  unfold qbh
  rw[if_neg (λz=>?_),hr,hs,if_pos ⟨hl,List.all_eq_true.mpr hw⟩]
  have hz:=congrArg (λy:Str=>y.cps.toList.head?) z
  simp only[qa9,e1,List.cons_append,List.head?_cons,qhs] at hz
  exact e2 (Option.some.inj hz)
theorem qpa{ws:List Str}(hl:ws.length<=40)(hw:∀z∈ws,wdB z=true):qbh (("/" : Str)++glue "/" ws)=some (true,ws):=by
 cases ws with
|nil =>
  have:("/" : Str)++glue "/" []="/" := by decide +kernel
  rw[this]
  rfl
|cons w ws =>
  obtain⟨x,xs,e1,e2⟩:=qst (hw w (List.mem_cons_self ..))
  have el:(("/" : Str)++glue "/" (w::ws)).cps.toList=47::(w.cps.toList++qfd ws):=by
   rw[app_list,qa9,qhs]
   rfl
  have hr:rt (("/" : Str)++glue "/" (w::ws))=true:=by
   unfold rt
   rw[el]
   rfl
  have hs:wsW (("/" : Str)++glue "/" (w::ws))=w::ws:=by
   unfold wsW
   rw[hr,if_pos rfl,el]
   exact qnl w ws hw
  unfold qbh
  rw[if_neg (λz=>?_),hr,hs,if_pos ⟨hl,List.all_eq_true.mpr hw⟩]
  have hz:=congrArg (λy:Str=>y.cps.toList.length) z
  simp only[el,qhs,e1,List.length_cons,List.cons_append] at hz
  have e3:([]:List Nat).length=0:=rfl
  omega
theorem q22{z:Str}(h:wdB z=true):z.length<=12:=by
 unfold wdB at h
 rw[Bool.or_eq_true] at h
 rcases h with q|q
 ·have:=of_decide_eq_true q
  rw[List.mem_cons,List.mem_singleton] at this
  rcases this with rfl|rfl
  ·decide +kernel
  ·decide +kernel
 ·exact(qdz q).2
theorem qvw:∀ {ws:List Str},(∀z∈ws,wdB z=true)->(ws.map (·.length)).sum<=12*ws.length
|[],_=>Nat.le_refl _
|w::ws,h=>by
  have:=qvw λz m=>h z (List.mem_cons_of_mem w m)
  have:=q22 (h w (List.mem_cons_self ..))
  rw[List.map_cons,List.sum_cons,List.length_cons]
  omega
theorem qj3:("/" : Str).length=1:=by decide +kernel
theorem qqa{ws:List Str}(h:∀z∈ws,wdB z=true):(glue "/" ws).length<=13*ws.length:=by
 have:=qs3 "/" ws
 have:=qvw h
 rw[qj3] at *
 omega
theorem qv7:wdB "." = true:=by decide +kernel
theorem qzo:wdB ".." = true:=by decide +kernel
def fsB(m:Str):Bool:=decide (m=qai\/m=qcy)
def trB(m:Str):Bool:=decide (m=qav\/m=qb0\/m=qai)
def fitB(b:Str×Str):Bool:=decide (b.1=qav)||(decide (b.1=qb0)&&(qbh b.2).isSome)||(decide (b.1=qai\/b.1=qee\/b.1=qcy)&&decide (b.2=tEmpty))
def entB(r:Row):Bool:=r.1.all nmB&&fitB r.2
def mkAt(rs:List Row)(w:List Str):Option Str:=(rs.find? λr=>decide (r.1=w)).map (·.2.1)
def q0t(S:List Str->Option Bool)(r:Row):List Str->Option Bool:=if fsB r.2.1=true then λw=>if w=r.1 then some (decide (r.2.1=qcy)||(S r.1.dropLast).getD false) else S w else S
section
variable {rs:List Row}
theorem qxd(so:qa7 rs){r:Row}(h:r∈rs):mkAt rs r.1=some r.2.1:=by
 unfold mkAt
 rw[qib (qe8 so) h]
 rfl
def clB(M:List Str->Option Str)(w:List Str):Bool:=(List.range (w.length+1)).any λk=>decide (M (w.take k)=some qcy)
theorem qu9{M:List Str->Option Str}{w:List Str}:clB M w=true↔∃k,k<=w.length/\M (w.take k)=some qcy:=by
 unfold clB
 rw[List.any_eq_true]
 constructor
 ·rintro⟨k,mk,e⟩
  have:=List.mem_range.mp mk
  exact⟨k,by omega,of_decide_eq_true e⟩
 ·rintro⟨k,hk,e⟩
  exact⟨k,List.mem_range.mpr (by omega),decide_eq_true e⟩
structure ShI(M:List Str->Option Str)(ps:List Row)(S:List Str->Option Bool):Prop where
 on:∀w,(w=[]\/∃r∈ps,r.1=w/\fsB r.2.1=true)->S w=some (clB M w)
 off:∀w,¬ (w=[]\/∃r∈ps,r.1=w/\fsB r.2.1=true)->S w=none
theorem qp2{w:List Str}{k:Nat}(h:k<w.length):w.dropLast.take k=w.take k:=by
 rw[List.dropLast_eq_take,List.take_take]
 congr 1
 omega
theorem q27{M:List Str->Option Str}{w:List Str}(h:w≠[]):clB M w=(decide (M w=some qcy)||clB M w.dropLast):=by
 have l0:=List.length_pos_iff.mpr h
 refine qa3 ?_
 rw[Bool.or_eq_true,qu9,qu9,decide_eq_true_iff]
 constructor
 ·rintro⟨k,hk,e⟩
  by_cases q:k=w.length
  ·rw[q,List.take_length] at e
   exact .inl e
  ·exact .inr ⟨k,by rw[List.length_dropLast];omega,by rw[qp2 (by omega)];exact e⟩
 ·rintro (e|⟨k,hk,e⟩)
  ·exact⟨w.length,Nat.le_refl _,by rw[List.take_length];exact e⟩
  ·rw[List.length_dropLast] at hk
   rw[qp2 (by omega)] at e
   exact⟨k,by omega,e⟩
end
section
variable {rs:List Row}
theorem ShI.step(so:qa7 rs){ps t:List Row}{r:Row}{S:List Str->Option Bool}(e:rs=ps++r::t)(I:ShI (mkAt rs) ps S)(h0:r.1≠[])(up:r.1.dropLast=[]\/∃p∈ps,p.1=r.1.dropLast/\fsB p.2.1=true):ShI (mkAt rs) (ps++[r]) (q0t S r):=by
 have mr:r∈rs:=by rw[e];simp
 have M:=qxd so mr
 unfold q0t
 by_cases f:fsB r.2.1=true
 ·rw[if_pos f]
  refine⟨λw hw=>?_,λw hw=>?_⟩
  ·show (if w=r.1 then _ else _)=_
   by_cases ew:w=r.1
   ·rw[if_pos ew,I.on _ up,ew,q27 h0,M]
    congr 2
    refine qa3 ?_
    rw[decide_eq_true_iff,decide_eq_true_iff]
    exact⟨λz=>by rw[z],λz=>Option.some.inj z⟩
   ·rw[if_neg ew]
    refine I.on w (hw.imp id λ⟨q,mq,eq,fq⟩=>?_)
    rcases List.mem_append.mp mq with m|m
    ·exact⟨q,m,eq,fq⟩
    ·rw[List.mem_singleton.mp m] at eq
     exact absurd eq.symm ew
  ·show (if w=r.1 then _ else _)=_
   have ew:w≠r.1:=λz=>hw (.inr ⟨r,by simp,z.symm,f⟩)
   rw[if_neg ew]
   exact I.off w λz=>hw (z.imp id λ⟨q,mq,eq,fq⟩=>⟨q,List.mem_append_left _ mq,eq,fq⟩)
 ·rw[if_neg f]
  have same:∀w,(w=[]\/∃q∈ps++[r],q.1=w/\fsB q.2.1=true)↔(w=[]\/∃q∈ps,q.1=w/\fsB q.2.1=true):=λw=>by
   constructor
   ·refine λz=>z.imp id λ⟨q,mq,eq,fq⟩=>?_
    rcases List.mem_append.mp mq with m|m
    ·exact⟨q,m,eq,fq⟩
    ·rw[List.mem_singleton.mp m] at fq
     exact absurd fq f
   ·exact λz=>z.imp id λ⟨q,mq,eq,fq⟩=>⟨q,List.mem_append_left _ mq,eq,fq⟩
  exact⟨λw hw=>I.on w ((same w).mp hw),λw hw=>I.off w λz=>hw ((same w).mpr z)⟩
end
def risB:List Row->Bool
|a::b::t=>ltW a.1 b.1&&risB (b::t)
|_=>true
theorem qrk:∀rs:List Row,risB rs=true↔qa7 rs
|[]=>⟨λ_=>List.Pairwise.nil,λ_=>rfl⟩
|[a]=>⟨λ_=>List.pairwise_singleton _ _,λ_=>rfl⟩
|a::b::t=>by
  show (ltW a.1 b.1&&risB (b::t))=true↔_
  rw[Bool.and_eq_true,qrk (b::t)]
  constructor
  ·rintro⟨h1,h2⟩
   refine List.pairwise_cons.mpr ⟨λq mq=>?_,h2⟩
   rcases List.mem_cons.mp mq with m|m
   ·rw[m];exact h1
   ·exact qqp h1 ((List.pairwise_cons.mp h2).1 q m)
  ·intro h
   have:=List.pairwise_cons.mp h
   exact⟨this.1 b List.mem_cons_self,this.2⟩
def areB(rs:List Row):Bool:=risB rs&&rs.all entB
structure RowG(r:Row):Prop where
 wl:r.1.length<=100
 zl:∀z∈r.1,z.length<=5000
 tl:r.2.2.length<=5000
def qe5:DP:=λds Q=>∃w,ds=[wayD w]/\Q (.val (wayD w.dropLast))
def qbo:DP:=λds Q=>∃t:Str,ds=[.str t]/\t.length<=5000/\Q (.val (.bl (qbh t).isSome))
def qhk:DP:=λds Q=>∃m t:Str,ds=[.str m,.str t]/\t.length<=5000/\Q (.val (.bl (fitB (m,t))))
def qcp:DP:=λds Q=>∃r:Row,ds=[wayD r.1,.str r.2.1,.str r.2.2]/\RowG r/\Q (.val (.bl (entB r)))
def qbn:DP:=λds Q=>∃ts:List Row,ds=[qbd ts]/\ts.length<200/\(∀r∈ts,RowG r)/\Q (.val (.bl (areB ts)))
theorem qqi:∀ds Q,qe5 ds Q->ds.length=1:=by rintro ds Q ⟨_,rfl,_⟩;rfl
theorem qgj:∀ds Q,qbo ds Q->ds.length=1:=by rintro ds Q ⟨_,rfl,_⟩;rfl
theorem qtd:∀ds Q,qhk ds Q->ds.length=2:=by rintro ds Q ⟨_,_,rfl,_⟩;rfl
theorem qjw:∀ds Q,qcp ds Q->ds.length=3:=by rintro ds Q ⟨_,rfl,_⟩;rfl
theorem qgi:∀ds Q,qbn ds Q->ds.length=1:=by rintro ds Q ⟨_,rfl,_⟩;rfl
theorem qdd{t:TVT}{a u:TVS}{Dv:VEnds}{τ:VSt}(P:Bool->Prop)(ht:∀Y:Bool->Prop,(∀c,P c->Y c)->t τ Y)(ha:P true->a { nx:=u Dv,rt:=Dv.rt,bk:=Dv.bk,ct:=Dv.ct,xc:=Dv.xc,ro:=Dv.ro } τ)(hb:P false->u Dv τ):vSeq (vIfS t a qbj) u Dv τ:=qft (v_if P ht ha hb)
theorem zip_rows(ts us:List Row):zipL (ts.map rowD) (us.map rowD)=(ts.zip us).map λp=>.tup [rowD p.1,rowD p.2]:=by
 unfold zipL
 rw[List.zip_map,List.map_map]
 rfl
theorem qnd(a b:List Str):ordD (.tup (a.map D.str)) (.tup (b.map D.str))=true:=by
 unfold ordD
 induction a generalizing b with
|nil=>unfold qc4;cases b<;>rfl
|cons x a ih =>
  cases b with
 |nil=>unfold qc4;rfl
 |cons y b =>
   rw[List.map_cons,List.map_cons]
   unfold qc4
   rw[ih b]
   rfl
theorem qrl:∀ts:List Row,(ts.zip (ts.drop 1)).all (λp=>ltW p.1.1 p.2.1)=risB ts
|[]=>rfl
|[a]=>rfl
|a::b::t=>by
  have:=qrl (b::t)
  show (ltW a.1 b.1&&((b::t).zip t).all λp=>ltW p.1.1 p.2.1)=(ltW a.1 b.1&&risB (b::t))
  rw[←this]
  rfl
theorem all_map{α:Type}(xs:List α)(p:α->Bool):(xs.map p).all id=xs.all p:=by rw[List.all_map];rfl
theorem qw7(kds:List (List Str×D))(w:List Str)(d:D)(u:List Str):lkP (insP kds w d) u=if u=w then some d else lkP kds u:=by
 unfold lkP insP
 split
 ·rename_i h
  rw[List.find?_map]
  have e1:((λp:List Str×D=>decide (p.1=u)) ∘ λp:List Str×D=>if p.1=w then (p.1,d) else p)=λp=>decide (p.1=u):=by
   funext q
   show decide ((if q.1=w then (q.1,d) else q).1=u)=decide (q.1=u)
   split<;>rfl
  rw[e1]
  cases hf:kds.find? λp=>decide (p.1=u) with
 |none =>
   have:u≠w:=λe=>by
    obtain⟨p,mp,ep⟩:=List.mem_map.mp h
    exact absurd (decide_eq_true (ep.trans e.symm)) (List.find?_eq_none.mp hf p mp)
   rw[if_neg this]
   rfl
 |some q =>
   have:=of_decide_eq_true (List.find?_some (p:=λp:List Str×D=>decide (p.1=u)) hf)
   show some (if q.1=w then (q.1,d) else q).2=_
   by_cases e:u=w
   ·rw[if_pos e,if_pos (this.trans e)]
   ·rw[if_neg e,if_neg (by rw[this];exact e)]
    rfl
 ·rename_i h
  rw[List.find?_append]
  cases hf:kds.find? λp=>decide (p.1=u) with
 |none =>
   by_cases e:u=w
   ·simp[e]
   ·simp[e,Ne.symm e]
 |some q =>
   have:=of_decide_eq_true (List.find?_some (p:=λp:List Str×D=>decide (p.1=u)) hf)
   have:u≠w:=λe=>h (List.mem_map.mpr ⟨q,List.mem_of_find?_eq_some hf,this.trans e⟩)
   rw[if_neg this]
   rfl
theorem qw0(kds:List (List Str×D))(w:List Str)(d:D):(insP kds w d).length<=kds.length+1:=by
 unfold insP
 split
 ·rw[List.length_map];omega
 ·rw[List.length_append,List.length_singleton];exact Nat.le_refl _
theorem qq0{a:Bool}(h:true=!a):a=false:=by cases a<;>first|rfl|cases h
theorem qqz{a:Bool}(h:false=!a):a=true:=by cases a<;>first|rfl|cases h
def qiy:(List Str->Bool)->List Row->Bool
|_,[]=>true
|F,r::t=>(!decide (r.1=[])&&(trB r.2.1&&F r.1.dropLast))&&qiy (if r.2.1=qai then λw=>decide (w=r.1)||F w else F) t
def F0:List Str->Bool:=λw=>decide (w=[])
def qbv(rs:List Row):Bool:=areB rs&&qiy F0 rs
def FolT(rs:List Row)(f:List Str):Prop:=f=[]\/∃q∈rs,q.1=f/\q.2.1=qai
structure TreeP(rs:List Row):Prop where
 so:qa7 rs
 en:∀r∈rs,entB r=true
 n0:∀r∈rs,r.1≠[]
 tr:∀r∈rs,trB r.2.1=true
 up:∀r∈rs,FolT rs r.1.dropLast
theorem ql6{rs:List Row}(so:qa7 rs){a b:Row}(ha:a∈rs)(hb:b∈rs)(h:a.1=b.1):a=b:=qj1 (qe8 so) ha hb h
theorem qzt{rs:List Row}(so:qa7 rs){ps t:List Row}{r q:Row}(e:rs=ps++r::t)(mq:q∈rs)(l:ltW q.1 r.1=true):q∈ps:=by
 rw[e] at mq so
 rcases List.mem_append.mp mq with m|m
 ·exact m
 ·exfalso
  have so2:=(List.pairwise_append.mp so).2.1
  rcases List.mem_cons.mp m with m|m
  ·rw[m] at l
   have:=qfl l
   rw[l] at this
   cases this
  ·have:=(List.pairwise_cons.mp so2).1 q m
   rw[qfl l] at this
   cases this
theorem qmd{rs:List Row}(so:qa7 rs):∀(t ps:List Row) (F:List Str->Bool),rs=ps++t->(∀w,F w=true↔(w=[]\/∃q∈ps,q.1=w/\q.2.1=qai))->(qiy F t=true↔∀r∈t,r.1≠[]/\trB r.2.1=true/\FolT rs r.1.dropLast)
|[],ps,F,_,_=>⟨(λ_ r m=>by cases m),λ_=>rfl⟩
|r::t,ps,F,e,hF=>by
  have e2:rs=(ps++[r])++t:=by rw[e];simp
  have hF2:∀w,(if r.2.1=qai then λw=>decide (w=r.1)||F w else F) w=true↔(w=[]\/∃q∈ps++[r],q.1=w/\q.2.1=qai):=λw=>by
   by_cases f:r.2.1=qai
   ·rw[if_pos f,Bool.or_eq_true,decide_eq_true_iff,hF]
    constructor
    ·rintro (q|q|⟨q,mq,eq⟩)
     ·exact .inr ⟨r,by simp,q.symm,f⟩
     ·exact .inl q
     ·exact .inr ⟨q,List.mem_append_left _ mq,eq⟩
    ·rintro (q|⟨q,mq,eq,fq⟩)
     ·exact .inr (.inl q)
     ·rcases List.mem_append.mp mq with m|m
      ·exact .inr (.inr ⟨q,m,eq,fq⟩)
      ·rw[List.mem_singleton.mp m] at eq
       exact .inl eq.symm
   ·rw[if_neg f,hF]
    constructor
    ·exact λz=>z.imp id λ⟨q,mq,eq⟩=>⟨q,List.mem_append_left _ mq,eq⟩
    ·rintro (q|⟨q,mq,eq,fq⟩)
     ·exact .inl q
     ·rcases List.mem_append.mp mq with m|m
      ·exact .inr ⟨q,m,eq,fq⟩
      ·rw[List.mem_singleton.mp m] at fq
       exact absurd fq f
  have ih:=qmd so t (ps++[r]) _ e2 hF2
  show ((!decide (r.1=[])&&(trB r.2.1&&F r.1.dropLast))&&qiy _ t)=true↔_
  rw[Bool.and_eq_true,Bool.and_eq_true,Bool.and_eq_true,ih,hF]
  have up:r.1≠[]->((r.1.dropLast=[]\/∃q∈ps,q.1=r.1.dropLast/\q.2.1=qai)↔FolT rs r.1.dropLast):=λh0=>by
   constructor
   ·exact λz=>z.imp id λ⟨q,mq,eq⟩=>⟨q,by rw[e];exact List.mem_append_left _ mq,eq⟩
   ·exact λz=>z.imp id λ⟨q,mq,eq,fq⟩=>⟨q,qzt so e mq (by rw[eq];exact qte h0),eq,fq⟩
  constructor
  ·rintro⟨⟨h1,h2,h3⟩,h4⟩ q mq
   have h0:r.1≠[]:=of_decide_eq_false (by revert h1;cases decide (r.1=[])<;>simp)
   rcases List.mem_cons.mp mq with m|m
   ·rw[m];exact⟨h0,h2,(up h0).mp h3⟩
   ·exact h4 q m
  ·intro h
   obtain⟨h0,h2,h3⟩:=h r List.mem_cons_self
   exact⟨⟨by rw[decide_eq_false h0];rfl,h2,(up h0).mpr h3⟩,λq mq=>h q (List.mem_cons_of_mem _ mq)⟩
theorem qdv(rs:List Row):qbv rs=true↔TreeP rs:=by
 unfold qbv areB
 rw[Bool.and_eq_true,Bool.and_eq_true,qrk,List.all_eq_true]
 constructor
 ·rintro⟨⟨so,en⟩,h⟩
  have:=(qmd so rs [] F0 rfl λw=>⟨λz=>.inl (of_decide_eq_true z),λz=>z.elim (λq=>decide_eq_true q) λ⟨_,m,_⟩=>(by cases m)⟩).mp h
  exact⟨so,en,λr mr=>(this r mr).1,λr mr=>(this r mr).2.1,λr mr=>(this r mr).2.2⟩
 ·intro T
  exact⟨⟨T.so,T.en⟩,(qmd T.so rs [] F0 rfl λw=>⟨λz=>.inl (of_decide_eq_true z),λz=>z.elim (λq=>decide_eq_true q) λ⟨_,m,_⟩=>(by cases m)⟩).mpr λr mr=>⟨T.n0 r mr,T.tr r mr,T.up r mr⟩⟩
theorem qiz{rs:List Row}(h:¬ TreeP rs):qbv rs=false:=by
 cases e:qbv rs with
|false=>rfl
|true=>exact absurd ((qdv rs).mp e) h
theorem TreeP.anc{rs:List Row}(T:TreeP rs):∀(n:Nat) (r:Row),r∈rs->r.1.length=n->∀k,0<k->k<n->∃q∈rs,q.1=r.1.take k/\q.2.1=qai
|0,_,_,_,k,h0,hk=>by omega
|n+1,r,mr,hn,k,h0,hk=>by
  rcases T.up r mr with e|⟨q,mq,eq,fq⟩
  ·have:=congrArg List.length e
   rw[List.length_dropLast,List.length_nil] at this
   omega
  ·by_cases c:k=n
   ·refine⟨q,mq,?_,fq⟩
    rw[eq,List.dropLast_eq_take,c,hn]
    rfl
   ·have ql:q.1.length=n:=by rw[eq,List.length_dropLast,hn];rfl
    obtain⟨o,mo,eo,fo⟩:=T.anc n q mq ql k h0 (by omega)
    refine⟨o,mo,?_,fo⟩
    rw[eo,eq,List.dropLast_eq_take,List.take_take]
    congr 1
    omega
def qeo(rs:List Row)(w:List Str):Bool:=!rs.any λr=>decide (w.length<r.1.length)&&decide (r.1.take w.length=w)
theorem qep(rs:List Row)(w:List Str):qeo rs w=true↔∀r∈rs,¬ (w.length<r.1.length/\r.1.take w.length=w):=by
 unfold qeo
 rw[show (!rs.any λr=>decide (w.length<r.1.length)&&decide (r.1.take w.length=w))=true↔(rs.any λr=>decide (w.length<r.1.length)&&decide (r.1.take w.length=w))=false by cases rs.any _<;>simp,List.any_eq_false]
 constructor
 ·intro h r mr ⟨h1,h2⟩
  exact h r mr (by rw[decide_eq_true h1,decide_eq_true h2];rfl)
 ·intro h r mr q
  rw[Bool.and_eq_true] at q
  exact h r mr ⟨of_decide_eq_true q.1,of_decide_eq_true q.2⟩
theorem qhh{w r:List Str}(h0:r≠[])(e:r.dropLast=w):w.length<r.length/\r.take w.length=w:=by
 have:=List.length_pos_iff.mpr h0
 have l:w.length=r.length-1:=by rw[←e,List.length_dropLast]
 exact⟨by omega,by rw[l,←List.dropLast_eq_take,e]⟩
theorem qqt{rs:List Row}{i:Nat}{r:Row}(hi:rs[i]?=some r)(so:qa7 rs){q:Row}:q∈rs.eraseIdx i↔q∈rs/\q≠r:=by
 obtain⟨li,ei⟩:=List.getElem?_eq_some_iff.mp hi
 have e:rs=rs.take i++r::rs.drop (i+1):=by
  conv=>lhs;rw[←List.take_append_drop i rs,List.drop_eq_getElem_cons li,ei]
 have e2:rs.eraseIdx i=rs.take i++rs.drop (i+1):=List.eraseIdx_eq_take_drop_succ rs i
 rw[e2]
 rw[e] at so
 have P:=List.pairwise_append.mp so
 have P2:=List.pairwise_cons.mp P.2.1
 have ir:ltW r.1 r.1=true->False:=λz=>by
  have:=qfl z
  rw[z] at this
  cases this
 constructor
 ·intro m
  rcases List.mem_append.mp m with m|m
  ·exact⟨List.mem_of_mem_take m,λz=>ir (by have:=P.2.2 q m r List.mem_cons_self;rw[z] at this;exact this)⟩
  ·exact⟨List.mem_of_mem_drop m,λz=>ir (by have:=P2.1 q m;rw[z] at this;exact this)⟩
 ·rintro⟨m,n⟩
  rw[e] at m
  rcases List.mem_append.mp m with m|m
  ·exact List.mem_append_left _ m
  ·rcases List.mem_cons.mp m with m|m
   ·exact absurd m n
   ·exact List.mem_append_right _ m
theorem qou{rs:List Row}(T:TreeP rs){i:Nat}{r:Row}(hi:rs[i]?=some r):qbv (rs.eraseIdx i)=qeo (rs.eraseIdx i) r.1:=by
 have mr:=List.mem_of_getElem? hi
 have me:=λq=>qqt hi T.so (q:=q)
 refine qa3 ?_
 rw[qdv,qep]
 constructor
 ·rintro T2 q mq ⟨h1,h2⟩
  obtain⟨o,mo,eo,_⟩:=T2.anc _ q mq rfl r.1.length (List.length_pos_iff.mpr (T.n0 r mr)) h1
  rw[h2] at eo
  obtain⟨m1,n1⟩:=(me o).mp mo
  exact n1 (ql6 T.so m1 mr eo)
 ·intro h
  have sub:∀q∈rs.eraseIdx i,q∈rs:=λq m=>((me q).mp m).1
  refine⟨T.so.sublist (List.eraseIdx_sublist ..),λq m=>T.en q (sub q m),λq m=>T.n0 q (sub q m),λq m=>T.tr q (sub q m),λq m=>?_⟩
  rcases T.up q (sub q m) with e|⟨o,mo,eo,fo⟩
  ·exact .inl e
  ·by_cases c:o=r
   ·exfalso
    rw[c] at eo
    exact h q m (qhh (T.n0 q (sub q m)) eo.symm)
   ·exact .inr ⟨o,(me o).mpr ⟨mo,c⟩,eo,fo⟩
theorem quh{rs:List Row}{i:Nat}{r r':Row}(hi:rs[i]?=some r)(e:r'.1=r.1):(rs.set i r').map (·.1)=rs.map (·.1):=by
 rw[List.map_set,e]
 obtain⟨li,ei⟩:=List.getElem?_eq_some_iff.mp hi
 have:(rs.map (·.1)).set i r.1=rs.map (·.1):=by
  refine List.ext_getElem? λj=>?_
  by_cases c:i=j
  ·subst c
   rw[List.getElem?_set_self (by rw[List.length_map];exact li),List.getElem?_map,hi]
   rfl
  ·rw[List.getElem?_set_ne c]
 exact this
theorem qgs{rs:List Row}:qa7 rs↔(rs.map (·.1)).Pairwise (λa b=>ltW a b=true):=(List.pairwise_map (f:=λr:Row=>r.1) (R:=λa b=>ltW a b=true)).symm
theorem qxc{rs:List Row}(so:qa7 rs){i:Nat}{r r':Row}(hi:rs[i]?=some r)(e:r'.1=r.1){q:Row}:q∈rs.set i r'↔(q=r'\/q∈rs/\q≠r):=by
 have mr:=List.mem_of_getElem? hi
 obtain⟨li,ei⟩:=List.getElem?_eq_some_iff.mp hi
 constructor
 ·intro m
  obtain⟨j,lj,ej⟩:=List.mem_iff_getElem.mp m
  rw[List.length_set] at lj
  by_cases c:i=j
  ·subst c
   rw[List.getElem_set_self] at ej
   exact .inl ej.symm
  ·rw[List.getElem_set_ne c] at ej
   refine .inr ⟨by rw[←ej];exact List.getElem_mem lj,λz=>?_⟩
   have P:=List.pairwise_iff_getElem.mp so
   have ir:∀w,ltW w w=true->False:=λw z=>by
    have:=qfl z
    rw[z] at this
    cases this
   rcases Nat.lt_or_gt_of_ne c with l|l
   ·have:=P i j li lj l
    rw[ei,ej,z] at this
    exact ir _ this
   ·have:=P j i lj li l
    rw[ei,ej,z] at this
    exact ir _ this
 ·rintro (z|⟨m,n⟩)
  ·rw[z]
   exact List.mem_iff_getElem.mpr ⟨i,by rw[List.length_set];exact li,List.getElem_set_self _⟩
  ·obtain⟨j,lj,ej⟩:=List.mem_iff_getElem.mp m
   have c:i≠j:=λz=>n (by rw[←ej,←ei];congr 1;exact z.symm)
   exact List.mem_iff_getElem.mpr ⟨j,by rw[List.length_set];exact lj,by rw[List.getElem_set_ne c];exact ej⟩
theorem qkg{rs:List Row}{i:Nat}{r r':Row}(hi:rs[i]?=some r)(h:entB r'=false\/trB r'.2.1=false):qbv (rs.set i r')=false:=by
 obtain⟨li,ei⟩:=List.getElem?_eq_some_iff.mp hi
 have m:r'∈rs.set i r':=List.mem_iff_getElem.mpr ⟨i,by rw[List.length_set];exact li,List.getElem_set_self _⟩
 refine qiz λT=>?_
 rcases h with q|q
 ·rw[T.en _ m] at q;cases q
 ·rw[T.tr _ m] at q;cases q
theorem qrs{rs:List Row}(T:TreeP rs){i:Nat}{r:Row}(hi:rs[i]?=some r)(t:Str):qbv (rs.set i (r.1,qav,t))=qeo (rs.set i (r.1,qav,t)) r.1:=by
 have mr:=List.mem_of_getElem? hi
 have me:=λq=>qxc T.so hi (r':=(r.1,qav,t)) rfl (q:=q)
 have so:qa7 (rs.set i (r.1,qav,t)):=by rw[qgs,quh (r':=(r.1,qav,t)) hi rfl,←qgs];exact T.so
 have m0:(r.1,qav,t)∈rs.set i (r.1,qav,t):=(me _).mpr (.inl rfl)
 refine qa3 ?_
 rw[qdv,qep]
 constructor
 ·rintro T2 q mq ⟨h1,h2⟩
  obtain⟨o,mo,eo,fo⟩:=T2.anc _ q mq rfl r.1.length (List.length_pos_iff.mpr (T.n0 r mr)) h1
  rw[h2] at eo
  have:=ql6 so mo m0 eo
  rw[this] at fo
  exact absurd fo (by show ¬ qav=qai;exact mne.2.2.1)
 ·intro h
  have n0:∀q∈rs.set i (r.1,qav,t),q.1≠[]:=λq m=>by
   rcases (me q).mp m with z|⟨z,_⟩
   ·rw[z];exact T.n0 r mr
   ·exact T.n0 q z
  have up:∀q∈rs.set i (r.1,qav,t),FolT rs q.1.dropLast:=λq m=>by
   rcases (me q).mp m with z|⟨z,_⟩
   ·rw[z];exact T.up r mr
   ·exact T.up q z
  refine⟨so,λq m=>?_,n0,λq m=>?_,λq m=>?_⟩
  ·rcases (me q).mp m with z|⟨z,_⟩
   ·rw[z]
    have:=T.en r mr
    unfold entB at this ⊢
    rw[Bool.and_eq_true] at this
    show (r.1.all nmB&&fitB (qav,t))=true
    rw[this.1]
    unfold fitB
    rw[decide_eq_true (show (qav,t).1=qav from rfl)]
    rfl
   ·exact T.en q z
  ·rcases (me q).mp m with z|⟨z,_⟩
   ·rw[z];exact(by decide +kernel:trB qav=true)
   ·exact T.tr q z
  ·rcases up q m with e|⟨o,mo,eo,fo⟩
   ·exact .inl e
   ·by_cases c:o=r
    ·exfalso
     rw[c] at eo
     exact h q m (qhh (n0 q m) eo.symm)
    ·exact .inr ⟨o,(me o).mpr (.inr ⟨mo,c⟩),eo,fo⟩
theorem qru{rs:List Row}(so:qa7 rs){i j:Nat}{a b:Row}(hi:rs[i]?=some a)(hj:rs[j]?=some b)(n:i≠j):qbv ((rs.set j a).set i b)=false:=by
 refine qiz λT=>?_
 have P:=List.pairwise_iff_getElem.mp so
 have P2:=List.pairwise_iff_getElem.mp T.so
 obtain⟨li,ei⟩:=List.getElem?_eq_some_iff.mp hi
 obtain⟨lj,ej⟩:=List.getElem?_eq_some_iff.mp hj
 have l2:((rs.set j a).set i b).length=rs.length:=by rw[List.length_set,List.length_set]
 have g1:((rs.set j a).set i b)[i]'(by omega)=b:=List.getElem_set_self _
 have g2:((rs.set j a).set i b)[j]'(by omega)=a:=by rw[List.getElem_set_ne n,List.getElem_set_self]
 rcases Nat.lt_or_gt_of_ne n with l|l
 ·have h1:=P i j li lj l
  have h2:=P2 i j (by omega) (by omega) l
  rw[g1,g2] at h2
  rw[ei,ej] at h1
  rw[qfl h1] at h2
  cases h2
 ·have h1:=P j i lj li l
  have h2:=P2 j i (by omega) (by omega) l
  rw[g1,g2] at h2
  rw[ei,ej] at h1
  rw[qfl h1] at h2
  cases h2
theorem qov{rs:List Row}{k:Nat}{r:Row}(m:r∈rs):qbv (rs.take k++r::rs.drop k)=false:=by
 refine qiz λT=>?_
 have nd:=qe8 T.so
 rw[List.map_append,List.map_cons] at nd
 have N:=List.nodup_append.mp nd
 have m2:r∈rs.take k++rs.drop k:=by rw[List.take_append_drop];exact m
 rcases List.mem_append.mp m2 with q|q
 ·exact N.2.2 r.1 (List.mem_map.mpr ⟨r,q,rfl⟩) r.1 List.mem_cons_self rfl
 ·exact(List.nodup_cons.mp N.2.1).1 (List.mem_map.mpr ⟨r,q,rfl⟩)
theorem qrt{rs:List Row}{m t:Str}:qbv (([],m,t)::rs)=false:=qiz λT=>T.n0 ([],m,t) List.mem_cons_self rfl
theorem qow{rs:List Row}(T:TreeP rs){i k:Nat}{r:Row}{z:Str}(hi:rs[i]?=some r)(hz:nmB z=true)(nw:r.1++[z]∉rs.map (·.1))(lo:∀q∈rs.take k,ltW q.1 (r.1++[z])=true)(hh:∀q∈rs.drop k,ltW (r.1++[z]) q.1=true):qbv (rs.take k++(r.1++[z],qav,tEmpty)::rs.drop k)=decide (r.2.1=qai):=by
 have mr:=List.mem_of_getElem? hi
 have mem:∀q,q∈rs.take k++(r.1++[z],qav,tEmpty)::rs.drop k↔(q=(r.1++[z],qav,tEmpty)\/q∈rs):=λq=>by
  constructor
  ·intro m
   rcases List.mem_append.mp m with m|m
   ·exact .inr (List.mem_of_mem_take m)
   ·rcases List.mem_cons.mp m with m|m
    ·exact .inl m
    ·exact .inr (List.mem_of_mem_drop m)
  ·rintro (m|m)
   ·rw[m];exact List.mem_append_right _ List.mem_cons_self
   ·rw[←List.take_append_drop k rs] at m
    rcases List.mem_append.mp m with m|m
    ·exact List.mem_append_left _ m
    ·exact List.mem_append_right _ (List.mem_cons_of_mem _ m)
 have so:qa7 (rs.take k++(r.1++[z],qav,tEmpty)::rs.drop k):=by
  have P:=T.so
  rw[←List.take_append_drop k rs] at P
  have P:=List.pairwise_append.mp P
  refine List.pairwise_append.mpr ⟨P.1,List.pairwise_cons.mpr ⟨λq m=>hh q m,P.2.1⟩,λa ma b mb=>?_⟩
  rcases List.mem_cons.mp mb with m|m
  ·rw[m];exact lo a ma
  ·exact P.2.2 a ma b m
 refine qa3 ?_
 rw[qdv,decide_eq_true_iff]
 constructor
 ·intro T2
  rcases T2.up (r.1++[z],qav,tEmpty) ((mem _).mpr (.inl rfl)) with e|⟨q,mq,eq,fq⟩
  ·have e:(r.1++[z]).dropLast=[]:=e
   rw[List.dropLast_concat] at e
   exact absurd e (T.n0 r mr)
  ·have eq:q.1=(r.1++[z]).dropLast:=eq
   rw[List.dropLast_concat] at eq
   have:=ql6 so mq ((mem r).mpr (.inr mr)) eq
   rw[←this]
   exact fq
 ·intro f
  have fol:∀w,FolT rs w->FolT (rs.take k++(r.1++[z],qav,tEmpty)::rs.drop k) w:=λw h=>h.imp id λ⟨q,mq,eq⟩=>⟨q,(mem q).mpr (.inr mq),eq⟩
  refine⟨so,λq m=>?_,λq m=>?_,λq m=>?_,λq m=>?_⟩
  ·rcases (mem q).mp m with e|m
   ·rw[e]
    have:=T.en r mr
    unfold entB at this ⊢
    rw[Bool.and_eq_true] at this
    show ((r.1++[z]).all nmB&&fitB (qav,tEmpty))=true
    rw[List.all_append,this.1,List.all_cons,hz]
    decide +kernel
   ·exact T.en q m
  ·rcases (mem q).mp m with e|m
   ·rw[e];show r.1++[z]≠[];simp
   ·exact T.n0 q m
  ·rcases (mem q).mp m with e|m
   ·rw[e];exact(by decide +kernel:trB qav=true)
   ·exact T.tr q m
  ·rcases (mem q).mp m with e|m
   ·rw[e]
    show FolT _ (r.1++[z]).dropLast
    rw[List.dropLast_concat]
    exact .inr ⟨r,(mem r).mpr (.inr mr),rfl,f⟩
   ·exact fol _ (T.up q m)
structure EntT(r:Row):Prop where
 nm:∀z∈r.1,nmB z=true
 ft:fitB r.2=true
 tl:r.2.2.length<=1000
 wl:r.1.length<=14
 n0:r.1≠[]
 tr:trB r.2.1=true
structure TInv(rs:List Row):Prop where
 nd:(rs.map (·.1)).Nodup
 en:∀r∈rs,EntT r
 up:∀r∈rs,FolT rs r.1.dropLast
structure TreeF(p:List Row):Prop where
 t:TreeP p
 en:∀r∈p,EntT r
 len:p.length<=161
theorem EntT.ne{r:Row}(h:EntT r):("" : Str)∉r.1:=λm=>qu6 (qqy (h.nm _ m)) rfl
theorem EntT.ent{r:Row}(h:EntT r):entB r=true:=by
 unfold entB
 rw[h.ft,List.all_eq_true.mpr h.nm]
 rfl
theorem EntT.g{r:Row}(h:EntT r):RowG r:=⟨by have:=h.wl;omega,λz m=>by have:=(qdz (h.nm z m)).2;omega,by have:=h.tl;omega⟩
theorem TInv.tree{rs p:List Row}(T:TInv rs)(hl:rs.length<=161)(hp:p.Perm rs)(so:qa7 p):TreeF p:=by
 have me:∀r,r∈p↔r∈rs:=λr=>hp.mem_iff
 refine⟨⟨so,λr m=>(T.en r ((me r).mp m)).ent,λr m=>(T.en r ((me r).mp m)).n0,λr m=>(T.en r ((me r).mp m)).tr,λr m=>?_⟩,λr m=>T.en r ((me r).mp m),by rw[hp.length_eq];exact hl⟩
 exact(T.up r ((me r).mp m)).imp id λ⟨q,mq,e⟩=>⟨q,(me q).mpr mq,e⟩
theorem TInv.add{rs:List Row}(T:TInv rs){r:Row}(nw:r.1∉rs.map (·.1))(E:EntT r)(up:FolT rs r.1.dropLast):TInv (rs++[r]):=by
 have more:∀w,FolT rs w->FolT (rs++[r]) w:=λw h=>h.imp id λ⟨q,mq,e⟩=>⟨q,List.mem_append_left _ mq,e⟩
 refine⟨?_,λq m=>?_,λq m=>?_⟩
 ·rw[List.map_append]
  exact List.nodup_append.mpr ⟨T.nd,by simp,λa ma b mb e=>nw (by
   have q:b=r.1:=List.mem_singleton.mp mb
   rw[←q,←e]
   exact ma)⟩
 ·exact(List.mem_append.mp m).elim (T.en q) λz=>by rw[List.mem_singleton.mp z];exact E
 ·exact(List.mem_append.mp m).elim (λz=>more _ (T.up q z)) λz=>by rw[List.mem_singleton.mp z];exact more _ up
theorem TInv.none:TInv []:=⟨List.nodup_nil,λr m=>(by cases m),λr m=>(by cases m)⟩
structure RowsG(p:List Row):Prop where
 len:p.length<200
 g:∀r∈p,RowG r
def qci:DP:=λds Q=>∃ts:List Row,ds=[qbd ts]/\RowsG ts/\Q (.val (.bl (qbv ts)))
def qam:DP:=λds Q=>∃c,ds=[.int c]/\∀z:Str,nmB z=true->Q (.val (.str z))
def qbi:DP:=λds Q=>∃c,ds=[.int c]/\∀t:Str,t.length<=12->Q (.val (.str t))
def qdg:DP:=λds Q=>∃m c,ds=[.str m,.int c]/\(m=qai\/m=qav\/m=qb0)/\∀t:Str,t.length<=1000->fitB (m,t)=true->Q (.val (.str t))
def qdh:DP:=λds Q=>∃cs:List Int,ds=[.lst (cs.map D.int)]/\cs.length<=40/\∀rs,TInv rs->rs.length<=40->Q (.own (qbr (rs.map prR)))
def qcn:DP:=λds Q=>∃c,ds=[.int c]/\∀z:Str,z.length<=100->nmB z=false->Q (.val (.str z))
def qco:DP:=λds Q=>∃c,ds=[.int c]/\∀z:Str,z.length<=1000->(qbh z).isSome=false->Q (.val (.str z))
def qdt:DP:=λds Q=>∃(rs:List Row) (w:List Str),ds=[qbd rs,wayD w]/\Q (.val (.bl (qeo rs w)))
def qe6:DPI:=λds ps Q=>∃(p:List Row) (i:Nat) (road drawn:Int),ds=[.int i,.int road,.int drawn]/\ps=p.map rowD/\TreeF p/\i<p.length/\0<=drawn/\∀p',RowsG p'->Q (.val (.bl (qbv p'))) (p'.map rowD)
def qb5:DPI:=λds ps Q=>∃(p:List Row) (i:Nat) (drawn:Int),ds=[.int i,.int drawn]/\ps=p.map rowD/\TreeF p/\i<p.length/\∀p',RowsG p'->Q (.val (.bl (qbv p'))) (p'.map rowD)
def qd8:DPI:=λds ps Q=>∃(p:List Row) (i:Nat) (road drawn:Int),ds=[.int i,.int road,.int drawn]/\ps=p.map rowD/\TreeF p/\i<p.length/\0<=drawn/\∀p',RowsG p'->Q (.val (.bl (qbv p'))) (p'.map rowD)
def qdf:DPI:=λds ps Q=>∃(p:List Row) (ns:List Int),ds=[.scr ns]/\ps=p.map rowD/\TreeF p/\∀p',RowsG p'->Q (.val (.bl (qbv p'))) (p'.map rowD)
def qlf:DP:=λds Q=>∃ns,ds=[.scr ns]/\Q (.val (.bl true))
theorem qlm:∀ds Q,qci ds Q->ds.length=1:=by rintro ds Q ⟨_,rfl,_⟩;rfl
theorem qlo:∀ds Q,qam ds Q->ds.length=1:=by rintro ds Q ⟨_,rfl,_⟩;rfl
theorem qjx:∀ds Q,qbi ds Q->ds.length=1:=by rintro ds Q ⟨_,rfl,_⟩;rfl
theorem qlp:∀ds Q,qdg ds Q->ds.length=2:=by rintro ds Q ⟨_,_,rfl,_⟩;rfl
theorem qlq:∀ds Q,qdh ds Q->ds.length=1:=by rintro ds Q ⟨_,rfl,_⟩;rfl
theorem qjt:∀ds Q,qcn ds Q->ds.length=1:=by rintro ds Q ⟨_,rfl,_⟩;rfl
theorem qju:∀ds Q,qco ds Q->ds.length=1:=by rintro ds Q ⟨_,rfl,_⟩;rfl
theorem qqj:∀ds Q,qdt ds Q->ds.length=2:=by rintro ds Q ⟨_,_,rfl,_⟩;rfl
theorem qqk:∀ds zs Q,qe6 ds zs Q->ds.length+1=4:=by rintro ds zs Q ⟨_,_,_,_,rfl,_⟩;rfl
theorem qig:∀ds zs Q,qb5 ds zs Q->ds.length+1=3:=by rintro ds zs Q ⟨_,_,_,rfl,_⟩;rfl
theorem qn7:∀ds zs Q,qd8 ds zs Q->ds.length+1=4:=by rintro ds zs Q ⟨_,_,_,_,rfl,_⟩;rfl
theorem qlk:∀ds zs Q,qdf ds zs Q->ds.length+1=2:=by rintro ds zs Q ⟨_,_,rfl,_⟩;rfl
theorem qw6:∀ds Q,qlf ds Q->ds.length=1:=by rintro ds Q ⟨_,rfl,_⟩;rfl
theorem q0i:∀(ls:List Nat),(PySem.Str.join (Str.ofString "") (ls.map λc=>(⟨#[c]⟩:Str))).cps.toList=ls
|[]=>by decide +kernel
|[c]=>rfl
|c::d::ls=>by
  have e:PySem.Str.join (Str.ofString "") ((c::d::ls).map λc=>(⟨#[c]⟩:Str))=(⟨#[c]⟩:Str)++(Str.ofString "")++PySem.Str.join (Str.ofString "") ((d::ls).map λc=>(⟨#[c]⟩:Str)):=rfl
  have e0:(Str.ofString "").cps.toList=[]:=by decide +kernel
  rw[e,app_list,app_list,q0i (d::ls),e0]
  rfl
theorem q3c(ls:List Nat):(glue (Str.ofString "") (ls.map λc=>(⟨#[c]⟩:Str))).cps.toList=ls:=by
 show (Builtin.Str.glued (Str.ofString "") _).cps.toList=_
 rw[StrLaws.glued_eq_join,q0i]
theorem qna:∀ls:List Nat,((ls.map λc=>(⟨#[c]⟩:Str)).map (·.length)).sum=ls.length
|[]=>rfl
|c::ls=>by
  rw[List.map_cons,List.map_cons,List.sum_cons,qna ls,List.length_cons]
  show 1+ls.length=_
  omega
theorem qif{n:Nat}{k:Int}(h0:0<=k)(h1:k<n):ixN n k=some k.toNat:=by
 unfold ixN
 rw[if_pos h0,if_pos h1]
theorem qhu{zs:List Str}{k:Int}(h0:0<=k)(h1:k<zs.length):∃z∈zs,atI (zs.map D.str) k=some (.str z):=by
 obtain⟨y,hy,hy2⟩:=qhd (xs:=zs) (k:=k) h0 h1
 exact⟨y,List.mem_of_getElem? hy2,by rw[qpo,hy];rfl⟩
theorem qez{p:List Row}{i:Nat}{r:Row}(h:p[i]?=some r):atI (p.map rowD) (i:Int)=some (rowD r):=by
 obtain⟨li,_⟩:=List.getElem?_eq_some_iff.mp h
 obtain⟨y,h1,h2⟩:=qhd (xs:=p) (k:=(i:Int)) (by omega) (by omega)
 rw[Int.toNat_natCast,h] at h2
 cases h2
 rw[qpo,h1]
 rfl
theorem qip(z:Str):glue "/" [z]=z:=qdc (by rw[qa9];exact List.append_nil _)
theorem qmo(w:Str)(ws:List Str)(h:∀z∈w::ws,(47:Nat)∉z.cps.toList):wsW (("/" : Str)++glue "/" (w::ws))=w::ws:=by
 have el:(("/" : Str)++glue "/" (w::ws)).cps.toList=47::(w.cps.toList++qfd ws):=by
  rw[app_list,qa9,qhs]
  rfl
 have hr:rt (("/" : Str)++glue "/" (w::ws))=true:=by
  unfold rt
  rw[el]
  rfl
 unfold wsW
 rw[hr,if_pos rfl,el]
 show (sp 47 (w.cps.toList++qfd ws)).map mkS=_
 rw[qfy ws _ (h w (List.mem_cons_self ..)) λz hz=>h z (List.mem_cons_of_mem _ hz),List.map_cons,qb1,List.map_map]
 congr 1
 exact(List.map_congr_left λz _=>qb1 z).trans (List.map_id _)
theorem q23(w:Str)(ws:List Str)(h0:w≠"")(h:∀z∈w::ws,(47:Nat)∉z.cps.toList):wsW (glue "/" (w::ws))=w::ws:=by
 have hf:=h w (List.mem_cons_self ..)
 have hr:rt (glue "/" (w::ws))=false:=by
  unfold rt
  rw[qa9]
  cases hc:w.cps.toList with
 |nil=>exact absurd (qdc (by rw[hc];decide +kernel)) h0
 |cons x xs =>
   rw[List.cons_append,List.head?_cons]
   have:x≠47:=λe=>by rw[hc,e] at hf;exact hf (List.mem_cons_self ..)
   simpa using this
 unfold wsW
 rw[hr,if_neg (by decide),qa9,qfy ws _ hf λz hz=>h z (List.mem_cons_of_mem _ hz),List.map_cons,qb1,List.map_map]
 congr 1
 exact(List.map_congr_left λz _=>qb1 z).trans (List.map_id _)
theorem qin{t:Str}(h0:t≠"/")(h:(wsW t).all wdB=false\/40<(wsW t).length):(qbh t).isSome=false:=by
 unfold qbh
 rw[if_neg h0,if_neg λq=>?_]
 ·rfl
 ·rcases h with z|z
  ·rw[q.2] at z;cases z
  ·omega
theorem qj0{z:Str}{c:Nat}(m:c∈z.cps.toList)(h:c∉NS.cps.toList):nmB z=false:=by
 cases e:nmB z with
|false=>rfl
|true =>
  unfold nmB nmL at e
  rw[Bool.and_eq_true,List.all_eq_true] at e
  exact absurd (of_decide_eq_true (e.2 c m)) h
theorem qqx{z:Str}(h:12<z.length):nmB z=false:=by
 cases e:nmB z with
|false=>rfl
|true=>have:=(qdz e).2;omega
theorem qv8{z:Str}(h:nmB z=false)(h1:z≠".")(h2:z≠".."):wdB z=false:=by
 unfold wdB
 rw[h,Bool.or_false]
 exact decide_eq_false (by simp[h1,h2])
theorem qxh{z:Str}(h:nmB z=true):z≠"" := qu6 (qqy h)
theorem qwg:∀k:Fin 13,(Txt.mul (Str.ofString "b") (k.val:Int)).length=k.val:=by decide +kernel
theorem b_ok:∀k:Fin 13,MulOk (Str.ofString "b") (k.val:Int):=by unfold MulOk;decide +kernel
theorem qzx:∀k:Fin 13,(47:Nat)∉(Txt.mul (Str.ofString "b") (k.val:Int)).cps.toList:=by decide +kernel
theorem qj7(z:Str)(n:Nat):repL [.str z] n=(List.replicate n z).map D.str:=by
 unfold repL
 induction n with
|zero=>rfl
|succ n ih=>rw[List.replicate_succ,List.flatten_cons,ih,List.replicate_succ];rfl
theorem qri(z:Str)(n:Nat):((List.replicate n z).map (·.length)).sum=n*z.length:=by
 rw[List.map_replicate,List.sum_replicate_nat]
def qf3:TVS:=(vSeq (vIfS (vBl (vOp vLt (vVar 1) (vF1 vLen (vVar 0))))
  (vRet (vOp vIxR (vVar 0) (vVar 1)))
  qbj)
 (vRet (vC (.int 0))))
abbrev qpc:List Str:=["_law_script","_law_k"]
theorem qsi:∀ds Q,qa8 ds Q->qf3 (En Q) (qba qpc ds):=by
 rintro ds Q ⟨ns,k,rfl,h0,h⟩
 simp! only[qf3]
 split
 ·rename_i c
  obtain⟨v,hv,hv2⟩:=qhd (xs:=ns) h0 (of_decide_eq_true c)
  unfold qwh at h
  rw[hv2] at h
  exact⟨v,hv,h⟩
 ·rename_i c
  have hn:ns[k.toNat]?=none:=List.getElem?_eq_none (by have:=of_decide_eq_false (Bool.eq_false_iff.mpr c);omega)
  unfold qwh at h
  rw[hn] at h
  exact h
def qf4:TVS:=(vSeq (vIfS (qfe (vBl (qkj .str (vVar 0))))
  (vRet (vC (.bl false)))
  qbj)
 (vSeq (vIfS (qfe (vBl (qhv vLe vLe (vC (.int 1)) (vF1 vLen (vVar 0)) (vC (.int 12)))))
  (vRet (vC (.bl false)))
  qbj)
 (vRet (vF1 (vAll λbs=>bs.all id) (qfs (qdq (vVar 0)) (qbk 1) (λ_ Q=>Q true) (vOp (vIn id) (vVar 1) (vC (.str ("abcdefghijklmnopqrstuvwxyz0123456789" : Str)))) 1)))))
abbrev qpe:List Str:=["thing"]
theorem qsk:∀ds Q,qbz ds Q->qf4 (En Q) (qba qpe ds):=by
 rintro ds Q ⟨z,rfl,hz,h⟩
 have sz:z.length<=sizeLine:=Nat.le_trans hz (by decide)
 unfold nmB nmL at h
 have el:z.cps.toList.length=z.length:=rfl
 rw[el] at h
 simp! only[qf4]
 refine⟨sz,?_⟩
 by_cases h1:1<=z.length
 ·rw[decide_eq_true (by omega:1<=(z.length:Int))]
  refine iteT ?_
  rw[decide_eq_true h1,Bool.true_and] at h
  by_cases h2:z.length<=12
  ·rw[decide_eq_true (by omega:(z.length:Int)<=12)]
   refine iteF ?_
   rw[decide_eq_true h2,Bool.true_and] at h
   refine qd5 (λc=>.bl (decide (c∈NS.cps.toList))) z.cps.toList (Nat.le_trans (Nat.le_of_eq el) sz) (λc _ Y N hY=>?_) ?_
   ·ac_rfl
    show Y (.val (.bl (!(Builtin.Str.occurrences NS ⟨#[c]⟩ 0 NS.length 1).isEmpty)))
    rw[q3e]
    exact hY
   ·ac_rfl
    refine⟨z.cps.toList.map λc=>decide (c∈NS.cps.toList),?_,?_⟩
    ·rw[List.map_map]
     rfl
    ·rw[List.all_map]
     exact h
  ·rw[decide_eq_false (by omega:¬ (z.length:Int)<=12)]
   rw[decide_eq_false h2,Bool.false_and] at h
   exact iteT h
 ·rw[decide_eq_false (by omega:¬ 1<=(z.length:Int))]
  rw[decide_eq_false h1,Bool.false_and,Bool.false_and] at h
  exact iteF h
def qf5:TVS:=(vRet (vOrE (vOp (vIn id) (vVar 0) (vTup (qae (vC (.str ("." : Str))) (qae (vC (.str (".." : Str))) vNil)))) (qar qbz (qae (vVar 0) vNil))))
abbrev qpg:List Str:=["text"]
theorem qsm:∀ds Q,qcx ds Q->qf5 (En Q) (qba qpg ds):=by
 rintro ds Q ⟨z,rfl,hz,h⟩
 unfold wdB at h
 simp! only[qf5,qbz]
 refine⟨by decide,?_⟩
 show if decide (z∈[(".": Str),".."])=true then _ else _
 by_cases hm:z∈[(".": Str),".."]
 ·rw[decide_eq_true hm] at h ⊢
  exact iteT h
 ·rw[decide_eq_false hm] at h ⊢
  exact iteF ⟨hz,h⟩
def qe3:TVS:=(vSeq (vIfS (vBl (vOp vEq (vVar 0) (vC (.str ("/" : Str)))))
  (vRet (vTup (qae (vC (.bl true)) (qae (vLst vNil) vNil))))
  qbj)
 (vSeq (vSet 1 (qgy (vVar 0) (vC (.str ("/" : Str)))))
 (vSeq (vSet 2 (qko (vIfE (vBl (vVar 1)) (qc8 (vVar 0) (qen (vC (.int 1))) qcd) (vVar 0)) (vC (.str ("/" : Str)))))
 (vSeq (vIfS (vOrT (vBl (vOp vGt (vF1 vLen (vVar 2)) (vC (.int 40)))) (qfe (vBl (vF1 (vAll λbs=>bs.all id) (qfs (qdq (vVar 2)) (qbk 3) (λ_ Q=>Q true) (qar qcx (qae (vVar 3) vNil)) 1)))))
  (qhy "NoWay" (qae (vVar 0) vNil))
  qbj)
 (vRet (vTup (qae (vVar 1) (qae (vVar 2) vNil))))))))
abbrev qny:List Str:=["text","rooted","words"]
theorem ifT{c:Prop}[Decidable c]{p q:Prop}(h:c)(hp:p):if c then p else q:=by rw[if_pos h];exact hp
theorem ifF{c:Prop}[Decidable c]{p q:Prop}(h:¬ c)(hq:q):if c then p else q:=by rw[if_neg h];exact hq
theorem qzq(z:Str):(wsW z).length<=z.length+1/\∀w∈wsW z,w.length<=z.length:=by
 have el:z.cps.toList.length=z.length:=rfl
 have key:∀l:List Nat,l.length<=z.length->((sp 47 l).map mkS).length<=z.length+1/\∀w∈(sp 47 l).map mkS,w.length<=z.length:=λl hl=>by
  have:=qvv 47 l
  refine⟨by rw[List.length_map];omega,λw hw=>?_⟩
  obtain⟨p,hp,rfl⟩:=List.mem_map.mp hw
  rw[qqu]
  exact Nat.le_trans (qnk 47 l p hp) hl
 unfold wsW
 split
 ·exact key _ (by rw[List.length_drop];omega)
 ·exact key _ (Nat.le_of_eq el)
theorem qo9:∀ds Q,qcq ds Q->qe3 (EnX Q) (qba qny ds):=by
 rintro ds Q ⟨z,rfl,hz,hy,hn⟩
 have sz:z.length<=sizeLine:=Nat.le_trans hz (by decide)
 have el:z.cps.toList.length=z.length:=rfl
 unfold qbh at hy hn
 obtain⟨w1,w2⟩:=qzq z
 refine qft ?_
 dsimp! only[qe3]
 by_cases h0:z="/"
 ·rw[decide_eq_true h0]
  exact iteT ⟨by decide,hy true [] (by rw[if_pos h0])⟩
 rw[decide_eq_false h0]
 rw[if_neg h0] at hy hn
 refine iteF ?_
 refine qft ?_
 rfl'
 have hr:Txt.startswith z "/" = rt z:=by rw[qui,qot];rfl
 rw[hr]
 have sl:("/" : Str).length=1:=by decide +kernel
 have rest:vSeq
   (vIfS (vOrT (vBl (vOp vGt (vF1 vLen (vVar 2)) (vC (.int 40)))) (qfe (vBl (vF1 (vAll λbs=>bs.all id) (qfs (qdq (vVar 2)) (qbk 3) (λ_ Q=>Q true) (qar qcx (qae (vVar 3) vNil)) 1)))))
    (qhy "NoWay" (qae (vVar 0) vNil)) qbj)
   (vRet (vTup (qae (vVar 1) (qae (vVar 2) vNil)))) (EnX Q) [some (.val (.str z)),some (.val (.bl (rt z))),some (.val (.lst ((wsW z).map D.str)))]:=by
  refine qft ?_
  rfl'
  have one:1<=sizeLine:=by decide
  by_cases hl:(wsW z).length<=40
  ·rw[decide_eq_false (by omega:¬ 40<((wsW z).length:Int))]
   refine iteF ?_
   refine qd5 (λw=>.bl (wdB w)) (wsW z) (Nat.le_trans hl (by decide)) (λw hw Y N hY=>?_) ?_
   ·simp! only[qcx]
    exact⟨Nat.le_trans (w2 w hw) hz,hY⟩
   ·ac_rfl
    refine⟨(wsW z).map wdB,by rw[List.map_map];rfl,?_⟩
    rw[List.all_map]
    show if (!(wsW z).all wdB)=true then _ else _
    by_cases ha:(wsW z).all wdB=true
    ·rw[ha]
     refine iteF ⟨by decide,hy _ _ (by rw[if_pos ⟨hl,ha⟩])⟩
    ·rw[Bool.eq_false_iff.mpr ha]
     exact iteT ⟨one,hn (by rw[if_neg (λq=>ha q.2)])⟩
  ·rw[decide_eq_true (by omega:40<((wsW z).length:Int))]
   exact iteT ⟨one,hn (by rw[if_neg (λq=>hl q.1)])⟩
 have hws:(wsW z).length<=sizeLine:=Nat.le_trans w1 (Nat.le_trans (by omega) (show 5001<=sizeLine by decide))
 refine qft ?_
 rfl'
 by_cases hrt:rt z=true
 ·have e:Txt.split (Txt.slice z (some 1) none) "/" = wsW z:=by
   rw[qui,qnm _ (by decide),slice_list]
   unfold wsW
   rw[if_pos hrt,show (some 1:Option Int)=some ((1:Nat):Int) from rfl,qga]
  refine ifT hrt ⟨sz,by rw[sl];rfl,Nat.le_trans (Txt.slice_le z _ _) sz,by rw[e];exact hws,?_⟩
  rw[e]
  exact rest
 ·have e:Txt.split z "/" = wsW z:=by
   rw[qui,qnm _ (by decide)]
   unfold wsW
   rw[if_neg hrt]
  refine ifF hrt ⟨by rw[sl];rfl,sz,by rw[e];exact hws,?_⟩
  rw[e]
  exact rest
def qkz:TVS:=(vRet (qc8 (vVar 0) qcd (qen (vNeg (vC (.int 1))))))
abbrev qwa:List Str:=["way"]
theorem qzl:∀ds Q,qe5 ds Q->qkz (En Q) (qba qwa ds):=by
 rintro ds Q ⟨w,rfl,h⟩
 simp! only[qkz,wayD]
 rw[qes]
 exact h
def qds:TVS:=(vSeq (vTry (qr1 (qry qcq (qae (vVar 0) vNil)))
  (qv4 ["NoWay"] [] (vRet (vC (.bl false))) q2u))
 (vRet (vC (.bl true))))
abbrev qh1:List Str:=["text"]
theorem qi6:∀ds Q,qbo ds Q->qds (En Q) (qba qh1 ds):=by
 rintro ds Q ⟨t,rfl,ht,h⟩
 have lw:∀Y:R->Prop,(∀r ws,qbh t=some (r,ws)->Y (.val (.tup [.bl r,q2j ws])))->(qbh t=none->Y (.exc "NoWay"))->qcq [.str t] Y:=λY y1 y2=>⟨t,rfl,ht,y1,y2⟩
 refine qft ?_
 dsimp! only[qds]
 refine lw _ (λr ws e=>?_) λe=>?_
 ·rw[e] at h
  rfl'
  exact h
 ·rw[e] at h
  rfl'
  refine .inl ⟨by decide,?_⟩
  rfl'
  exact h
def qu8:TVS:=(vSeq (vIfS (vBl (vOp vEq (vVar 0) (vC (.str ("file" : Str)))))
  (vRet (vC (.bl true)))
  qbj)
 (vSeq (vIfS (vBl (vOp vEq (vVar 0) (vC (.str ("link" : Str)))))
  (vRet (qar qbo (qae (vVar 1) vNil)))
  qbj)
 (vRet (qha (vOp (vIn id) (vVar 0) (vC (.kt [("folder" : Str),("gone" : Str),("shut" : Str)]))) (vOp vEq (vVar 1) (vC (.str ("" : Str))))))))
abbrev qzr:List Str:=["mark","text"]
theorem q21:∀ds Q,qhk ds Q->qu8 (En Q) (qba qzr ds):=by
 rintro ds Q ⟨m,t,rfl,tl,h⟩
 have lw:∀Y:R->Prop,Y (.val (.bl (qbh t).isSome))->qbo [.str t] Y:=λY y=>⟨t,rfl,tl,y⟩
 unfold fitB at h
 refine qdd (λb=>b=decide (m=qav)) (λY y=>?t1) (λhb=>?y1) λhb=>?n1
 case t1 =>
  rfl'
  exact y _ rfl
 case y1 =>
  rfl'
  rw[show decide ((m,t).1=qav)=true from hb.symm,Bool.true_or,Bool.true_or] at h
  exact h
 case n1 =>
 rw[show decide ((m,t).1=qav)=false from hb.symm,Bool.false_or] at h
 refine qdd (λb=>b=decide (m=qb0)) (λY y=>?t2) (λhb=>?y2) λhb=>?n2
 case t2 =>
  rfl'
  exact y _ rfl
 case y2 =>
  have em:=of_decide_eq_true hb.symm
  rw[show decide ((m,t).1=qb0)=true from hb.symm,Bool.true_and,decide_eq_false (show ¬ ((m,t).1=qai\/(m,t).1=qee\/(m,t).1=qcy) by show ¬ (m=_\/m=_\/m=_);rw[em];decide +kernel),Bool.false_and,Bool.or_false] at h
  rfl'
  refine lw _ ?_
  rfl'
  exact h
 case n2 =>
  rw[show decide ((m,t).1=qb0)=false from hb.symm,Bool.false_and,Bool.false_or] at h
  rfl'
  by_cases q:m=qai\/m=qee\/m=qcy
  ·rw[show decide ((m,t).1=qai\/(m,t).1=qee\/(m,t).1=qcy)=true from decide_eq_true q,Bool.true_and] at h
   have hm:m∈[Str.ofString "folder",Str.ofString "gone",Str.ofString "shut"]:=by
    rcases q with e|e|e<;>(rw[e];decide)
   rw[id,if_pos (decide_eq_true hm)]
   exact h
  ·rw[show decide ((m,t).1=qai\/(m,t).1=qee\/(m,t).1=qcy)=false from decide_eq_false q,Bool.false_and] at h
   have hm:¬ m∈[Str.ofString "folder",Str.ofString "gone",Str.ofString "shut"]:=λz=>q (by
    simp only[List.mem_cons,List.not_mem_nil,or_false] at z
    exact z)
   rw[id,if_neg (by rw[decide_eq_false hm];decide)]
   exact h
def qe2:TVS:=(vRet (qha (vF1 (vAll λbs=>bs.all id) (qfs (qdq (vVar 0)) (qbk 3) (λ_ Q=>Q true) (qar qbz (qae (vVar 3) vNil)) 1)) (qar qhk (qae (vVar 1) (qae (vVar 2) vNil)))))
abbrev qnw:List Str:=["way","mark","text"]
theorem qo7:∀ds Q,qcp ds Q->qe2 (En Q) (qba qnw ds):=by
 rintro ds Q ⟨r,rfl,G,h⟩
 have wl:=G.wl
 have ln:∀(z:Str) (Y:R->Prop),z.length<=5000->Y (.val (.bl (nmB z)))->qbz [.str z] Y:=λz Y hz y=>⟨z,rfl,hz,y⟩
 have lf:∀Y:R->Prop,Y (.val (.bl (fitB r.2)))->qhk [.str r.2.1,.str r.2.2] Y:=λY y=>⟨r.2.1,r.2.2,rfl,G.tl,y⟩
 unfold entB at h
 dsimp! only[qe2,wayD]
 refine qd5 (λz=>.bl (nmB z)) r.1 (Nat.le_trans (show _<=1000 by omega) qan) (λz mz Y N hY=>?_) ?_
 ·rfl'
  refine ln z _ (G.zl z mz) ?_
  rfl'
  exact hY
 ·rfl'
  refine⟨r.1.map nmB,by rw[List.map_map];rfl,?_⟩
  rw[all_map]
  cases e:r.1.all nmB with
 |false =>
   rw[e,Bool.false_and] at h
   exact iteF h
 |true =>
   rw[e,Bool.true_and] at h
   refine iteT ?_
   refine lf _ ?_
   rfl'
   exact h
def qer:TVS:=(vSeq (vSet 1 (vF1 (vAll λbs=>bs.all id) (qfs (vZip (qae (vVar 0) (qae (qc8 (vVar 0) (qen (vC (.int 1))) qcd) vNil))) (qml 2 (qd1 (qbk 2) (qd1 (qbk 3) qmk))) (λ_ Q=>Q true) (vOp vLtD (vOp vIxR (vVar 2) (vC (.int 0))) (vOp vIxR (vVar 3) (vC (.int 0)))) 2)))
 (vRet (qha (vVar 1) (vF1 (vAll λbs=>bs.all id) (qfs (qdq (vVar 0)) (qml 3 (qd1 (qbk 2) (qd1 (qbk 3) (qd1 (qbk 4) qmk)))) (λ_ Q=>Q true) (qar qcp (qae (vVar 2) (qae (vVar 3) (qae (vVar 4) vNil)))) 3)))))
abbrev qh0:List Str:=["entries","rising"]
theorem qi5:∀ds Q,qbn ds Q->qer (En Q) (qba qh0 ds):=by
 rintro ds Q ⟨ts,rfl,hlen,hG,h⟩
 have le:∀(r:Row) (Y:R->Prop),r∈ts->Y (.val (.bl (entB r)))->qcp [wayD r.1,.str r.2.1,.str r.2.2] Y:=λr Y mr y=>⟨r,rfl,hG r mr,y⟩
 unfold areB at h
 refine v_cut (λτ=>τ=[some (.val (qbd ts)),some (.val (.bl (risB ts)))]) ?_ λnx hnx=>?now
 case now =>
  dsimp! only[qbd]
  rw[show (some 1:Option Int)=some ((1:Nat):Int) from rfl,qga,zip_rows]
  refine qd5 (λp:Row×Row=>.bl (ltW p.1.1 p.2.1)) (ts.zip (ts.drop 1)) (Nat.le_trans (show _<=1000 by rw[List.length_zip];omega) qan) (λpq mp Y N hY=>?_) ?_
  ·dsimp! only[rowD,wayD]
   refine⟨qnd pq.1.1 pq.2.1,depW pq.1.1,?_⟩
   rw[show ltD (D.tup (pq.1.1.map D.str)) (D.tup (pq.2.1.map D.str))=ltW pq.1.1 pq.2.1 from qdb pq.1.1 pq.2.1]
   exact hY
  ·rfl'
   refine⟨(ts.zip (ts.drop 1)).map λp=>ltW p.1.1 p.2.1,by rw[List.map_map];rfl,?_⟩
   rw[all_map,qrl]
   exact hnx _ rfl
 rintro τ rfl
 cases e:risB ts with
|false =>
  rw[e,Bool.false_and] at h
  dsimp! only[qbd]
  exact h
|true =>
  rw[e,Bool.true_and] at h
  dsimp! only[qbd]
  refine qd5 (λr:Row=>.bl (entB r)) ts (Nat.le_trans (show _<=1000 by omega) qan) (λr mr Y N hY=>?_) ?_
  ·dsimp! only[rowD]
   refine le r _ mr ?_
   rfl'
   exact hY
  ·rfl'
   refine⟨ts.map entB,by rw[List.map_map];rfl,?_⟩
   rw[all_map]
   exact h
theorem q3f(w:List Str):(lkP [([],.bl true)] w).isSome=F0 w:=by
 unfold lkP F0
 by_cases e:([]:List Str)=w
 ·rw[List.find?_cons_of_pos (by simpa using e),decide_eq_true e.symm]
  rfl
 ·rw[List.find?_cons_of_neg (by simpa using e),decide_eq_false (Ne.symm e)]
  rfl
def qi9:TVS:=(vSeq (vIfS (qfe (vBl (qar qbn (qae (vVar 0) vNil))))
  (vRet (vC (.bl false)))
  qbj)
 (vSeq (qhc 1 (qki (vTup vNil) (vC (.bl true))))
 (vSeq (vFor (qdq (vVar 0)) (qml 3 (qd1 (qbk 2) (qd1 (qbk 3) (qd1 (qbk 4) qmk))))
  (vSeq (vIfS (vOrT (vBl (vOp vEq (vVar 2) (vTup vNil))) (vOrT (vBl (vOp (vIn (!·)) (vVar 3) (vC (.kt [("file" : Str),("link" : Str),("folder" : Str)])))) (vBl (vDIn (!·) (qar qe5 (qae (vVar 2) vNil)) (vVar 1)))))
  (vRet (vC (.bl false)))
  qbj)
 (vIfS (vBl (vOp vEq (vVar 3) (vC (.str ("folder" : Str)))))
  (qo0 1 (vVar 2) (vC (.bl true)))
  qbj)))
 (vRet (vC (.bl true))))))
abbrev qpf:List Str:=["entries","folders","way","mark","text"]
theorem qsl:∀ds Q,qci ds Q->qi9 (En Q) (qba qpf ds):=by
 rintro ds Q ⟨ts,rfl,⟨hlen,hG⟩,h⟩
 have la:∀Y:R->Prop,Y (.val (.bl (areB ts)))->qbn [qbd ts] Y:=λY y=>⟨ts,rfl,hlen,hG,y⟩
 have ab:∀(w:List Str) (Y:R->Prop),Y (.val (wayD w.dropLast))->qe5 [wayD w] Y:=λw Y y=>⟨w,rfl,y⟩
 unfold qbv at h
 refine qdd (λb=>b=!areB ts) (λY y=>?t1) (λhb=>?y1) λhb=>?n1
 case t1 =>
  rfl'
  refine la _ ?_
  rfl'
  exact y _ rfl
 case y1 =>
  rw[qq0 hb,Bool.false_and] at h
  rfl'
  exact h
 case n1 =>
 have ar:=qqz hb
 rw[ar,Bool.true_and] at h
 have nme:∀r∈ts,("" : Str)∉r.1:=λr mr m=>by
  unfold areB at ar
  rw[Bool.and_eq_true,List.all_eq_true] at ar
  have:=ar.2 r mr
  unfold entB at this
  rw[Bool.and_eq_true,List.all_eq_true] at this
  exact qu6 (qqy (this.1 _ m)) rfl
 refine v_cut (λτ=>τ=[some (.val (qbd ts)),some (.own (qbr [([],.bl true)])),none,none,none]) ?_ λnx hnx=>?now
 case now =>
  rfl'
  exact⟨[],rfl,by decide,hnx _ rfl⟩
 rintro τ rfl
 refine v_cut (λτ=>qiy F0 ts=true) (λτ q=>?_) λnx hnx=>?nwb
 case nwb =>
  dsimp! only[qbd]
  refine qic (λi τ=>∃(ps:List (List Str×D)) (F:List Str->Bool) (a b c:Option R),(∀w,(lkP ps w).isSome=F w)/\ps.length<=i+1/\qiy F0 ts=qiy F (ts.drop i)/\τ=[some (.val (qbd ts)),some (.own (qbr ps)),a,b,c]) ⟨_,F0,none,none,none,q3f,Nat.le_refl _,rfl,rfl⟩ ?_ ?_
  ·rintro i r τ hi ⟨ps,F,a,b,c,L,pl,ep,rfl⟩ nx2 hnx2
   have mr:=List.mem_of_getElem? hi
   obtain⟨li,eli⟩:=List.getElem?_eq_some_iff.mp hi
   have ed:ts.drop i=r::ts.drop (i+1):=by rw[List.drop_eq_getElem_cons li,eli]
   rw[ed] at ep
   have ep:qiy F0 ts=((!decide (r.1=[])&&(trB r.2.1&&F r.1.dropLast))&&qiy (if r.2.1=qai then λw=>decide (w=r.1)||F w else F) (ts.drop (i+1))):=ep
   have ne:=nme r mr
   have ne0:("" : Str)∉r.1.dropLast:=λm=>ne (List.dropLast_subset _ m)
   have psl:ps.length<sizeLine:=Nat.lt_of_lt_of_le (show _<1000 by omega) qan
   refine⟨rfl,rfl,?_⟩
   show vSeq _ _ _ [some (.val (qbd ts)),some (.own (qbr ps)),some (.val (wayD r.1)),some (.val (.str r.2.1)),some (.val (.str r.2.2))]
   refine qdd (λb=>b=!(!decide (r.1=[])&&(trB r.2.1&&F r.1.dropLast))) (λY y=>?t1) (λhb=>?y1) λhb=>?n1
   case t1 =>
    dsimp! only[wayD]
    refine⟨cmpW r.1 [],depW r.1,?_⟩
    rw[show D.tup []=D.tup (([]:List Str).map D.str) from rfl]
    simp only[eqW]
    cases e0:decide (r.1=[]) with
   |true =>
     rw[e0] at y
     exact iteT (y _ rfl)
   |false =>
     rw[e0,Bool.not_false,Bool.true_and] at y
     refine iteF ?_
     have et:trB r.2.1=decide (r.2.1∈[Str.ofString "file",Str.ofString "link",Str.ofString "folder"]):=by
      unfold trB
      refine decide_eq_decide.mpr ?_
      simp only[List.mem_cons,List.not_mem_nil,or_false]
      try exact Iff.rfl
     rw[←et]
     cases e1:trB r.2.1 with
    |false =>
      rw[e1,Bool.false_and] at y
      exact iteT (y _ rfl)
    |true =>
      rw[e1,Bool.true_and] at y
      refine iteF ?_
      refine ab r.1 _ ?_
      dsimp! only[qbr,wayD]
      refine⟨ne0,?_⟩
      rw[qet,L]
      exact y _ rfl
   case y1 =>
    rw[ep,qq0 hb,Bool.false_and] at h
    rfl'
    exact h
   case n1 =>
   rw[qqz hb,Bool.true_and] at ep
   refine v_if (λb=>b=decide (r.2.1=qai)) (λY y=>?t2) (λhb=>?y2) λhb=>?n2
   case t2 =>
    rfl'
    exact y _ rfl
   case y2 =>
    have fm:=of_decide_eq_true hb.symm
    rw[if_pos fm] at ep
    have fin:nx2 [some (.val (qbd ts)),some (.own (qbr (insP ps r.1 (.bl true)))),some (.val (wayD r.1)),some (.val (.str r.2.1)),some (.val (.str r.2.2))]:=hnx2 _ ⟨_,_,_,_,_,λw=>(by
     rw[qw7]
     by_cases e:w=r.1
     ·rw[if_pos e,decide_eq_true e];rfl
     ·rw[if_neg e,decide_eq_false e,Bool.false_or];exact L w),by have:=qw0 ps r.1 (.bl true);omega,ep,rfl⟩
    dsimp! only[qbr,wayD]
    refine⟨ne,psl,?_⟩
    rw[qe7]
    exact fin
   case n2 =>
    rw[if_neg (of_decide_eq_false hb.symm)] at ep
    exact hnx2 _ ⟨ps,F,_,_,_,L,by omega,ep,rfl⟩
  ·rintro τ ⟨ps,F,a,b,c,L,pl,ep,rfl⟩
   exact hnx _ (by rw[ep,List.drop_length];rfl)
 rfl'
 rw[q] at h
 exact h
def qpp:TVS:=(vSeq (vFor (qdq (vVar 0)) (qbk 2)
  (vIfS (qhb (vBl (vOp vGt (vF1 vLen (vOp vIxR (vVar 2) (vC (.int 0)))) (vF1 vLen (vVar 1)))) (vBl (vOp vEq (qc8 (vOp vIxR (vVar 2) (vC (.int 0))) qcd (qen (vF1 vLen (vVar 1)))) (vVar 1))))
  (vRet (vC (.bl false)))
  qbj))
 (vRet (vC (.bl true))))
abbrev qwb:List Str:=["_law_rows","_law_way","_law_row"]
theorem qzm:∀ds Q,qdt ds Q->qpp (En Q) (qba qwb ds):=by
 rintro ds Q ⟨rs,w,rfl,h⟩
 have yes:(∀r∈rs,¬ (w.length<r.1.length/\r.1.take w.length=w))->Q (.val (.bl true)):=λq=>by rw[(qep rs w).mpr q] at h;exact h
 have no:¬ (∀r∈rs,¬ (w.length<r.1.length/\r.1.take w.length=w))->Q (.val (.bl false)):=λq=>by
  rw[show qeo rs w=false by cases e:qeo rs w with
  |false=>rfl
  |  true=>exact absurd ((qep rs w).mp e) q] at h
  exact h
 refine v_cut (λτ=>∀r∈rs,¬ (w.length<r.1.length/\r.1.take w.length=w)) ?_ λnx hnx=>?now
 case now =>
  dsimp! only[qbd]
  refine qic (λi τ=>(∀r∈rs.take i,¬ (w.length<r.1.length/\r.1.take w.length=w))/\∃a,τ=[some (.val (qbd rs)),some (.val (wayD w)),a]) ⟨(λc m=>by rw[List.take_zero] at m;cases m),none,rfl⟩ ?_ ?_
  ·rintro i r τ hi ⟨hb,a,rfl⟩ nx2 hnx2
   have mr:=List.mem_of_getElem? hi
   refine v_if (λb=>b=true↔(w.length<r.1.length/\r.1.take w.length=w)) (λY y=>?t1) (λhc=>?y1) λhc=>?n1
   case t1 =>
    dsimp! only[rowD,wayD]
    by_cases q:w.length<r.1.length
    ·rw[decide_eq_true (by omega:(w.length:Int)<(r.1.length:Int))]
     refine iteT ?_
     rw[qgb]
     refine⟨cmpW _ _,depW _,?_⟩
     simp only[eqW]
     refine y _ ?_
     rw[decide_eq_true_iff]
     exact⟨λz=>⟨q,z⟩,λz=>z.2⟩
    ·rw[decide_eq_false (by omega:¬ (w.length:Int)<(r.1.length:Int))]
     exact iteF (y _ ⟨(λz=>by cases z),λz=>absurd z.1 q⟩)
   case y1 =>
    rfl'
    exact no λz=>z r mr (hc.mp rfl)
   case n1 =>
    refine hnx2 _ ⟨λd md=>?_,_,rfl⟩
    rw[List.take_succ,hi] at md
    rcases List.mem_append.mp md with m|m
    ·exact hb d m
    ·rw[List.mem_singleton.mp m]
     exact λz=>absurd (hc.mpr z) (by decide)
  ·rintro τ ⟨hb,a,rfl⟩
   rw[List.take_length] at hb
   exact hnx _ hb
 intro τ q
 rfl'
 exact yes q
def qja:TVS:=(vSeq (vSet 1 (vC (.str ("abcdefghijklmnopqrstuvwxyz0123456789" : Str))))
 (vSeq (vSet 2 (vOp vMod (vVar 0) (vOp vPow (vC (.int 10)) (vC (.int 30)))))
 (vSeq (vSet 3 (vOp vMul (vVar 2) (vC (.int 48271))))
 (vSeq (vSet 4 (vOp vMod (vOp vDiv (vOp vMod (vVar 3) (vC (.int 1000003))) (vC (.int 7))) (vC (.int 2))))
 (vSeq (qhc 5 (vLst vNil))
 (vSeq (vFor (qkm (vOp vAdd (vC (.int 1)) (vOp vMod (vVar 2) (vC (.int 12))))) (qbk 6)
  (vSeq (qgw 5 (vOp vIxR (vVar 1) (vOp vMod (vVar 3) (vC (.int 36)))))
 (vSet 3 (vOp vDiv (vVar 3) (vOp vAdd (vC (.int 1)) (vOp vMul (vC (.int 35)) (vVar 4)))))))
 (vSeq (vIfS (vBl (vOp vEq (vVar 4) (vC (.int 0))))
  (qr3 5 (vOp vMod (vOp vDiv (vVar 2) (vC (.int 12))) (vF1 vLen (vVar 5))) (vOp vIxR (vVar 1) (vOp vMod (vOp vDiv (vVar 2) (vC (.int 5))) (vC (.int 36)))))
  qbj)
 (vRet (qmf (vC (.str ("" : Str))) (vVar 5))))))))))
abbrev qph:List Str:=["_law_cell","_law_some","_law_drawn","_law_mixed","_law_free","_law_signs","_law_k"]
theorem qsn:∀ds Q,qam ds Q->qja (En Q) (qba qph ds):=by
 rintro ds Q ⟨c,rfl,h⟩
 have eN:(NS.cps.toList.length:Int)=36:=by decide +kernel
 have lN:NS.length<=sizeLine:=by decide +kernel
 have ix:∀t:Int,∃d,atI NS.cps.toList (t%36)=some d/\d∈NS.cps.toList:=λt=>by
  obtain⟨d,hd,hd2⟩:=qhd (xs:=NS.cps.toList) (k:=t%36) (Int.emod_nonneg _ (by decide)) (by rw[eN];exact Int.emod_lt_of_pos _ (by decide))
  exact⟨d,hd,List.mem_of_getElem? hd2⟩
 refine v_cut (λτ=>τ=[some (.val (.int c)),some (.val (.str NS)),none,none,none,none,none]) ?_ λnx hnx=>?now
 case now =>
  rfl'
  exact hnx _ rfl
 rintro τ rfl
 refine v_cut (λτ=>∃m:Int,0<=m/\τ=[some (.val (.int c)),some (.val (.str NS)),some (.val (.int m)),none,none,none,none]) ?_ λnx hnx=>?nwb
 case nwb =>
  rfl'
  exact⟨⟨by decide,by decide,by decide⟩,by decide,hnx _ ⟨_,Int.emod_nonneg _ (by decide),rfl⟩⟩
 rintro τ ⟨m,m0,rfl⟩
 refine v_cut (λτ=>∃x:Int,τ=[some (.val (.int c)),some (.val (.str NS)),some (.val (.int m)),some (.val (.int x)),none,none,none]) ?_ λnx hnx=>?nwc
 case nwc =>
  rfl'
  exact⟨.inr (by decide),hnx _ ⟨_,rfl⟩⟩
 rintro τ ⟨x,rfl⟩
 refine v_cut (λτ=>∃g:Int,0<=g/\g<2/\τ=[some (.val (.int c)),some (.val (.str NS)),some (.val (.int m)),some (.val (.int x)),some (.val (.int g)),none,none]) ?_ λnx hnx=>?nwd
 case nwd =>
  rfl'
  exact hnx _ ⟨_,Int.emod_nonneg _ (by decide),Int.emod_lt_of_pos _ (by decide),rfl⟩
 rintro τ ⟨g,g0,g1,rfl⟩
 refine v_cut (λτ=>τ=[some (.val (.int c)),some (.val (.str NS)),some (.val (.int m)),some (.val (.int x)),some (.val (.int g)),some (.own (.lst ((([]:List Nat).map λc=>(⟨#[c]⟩:Str)).map D.str))),none]) ?_ λnx hnx=>?nwe
 case nwe =>
  rfl'
  exact hnx _ rfl
 rintro τ rfl
 have q0:0<=m%12:=Int.emod_nonneg _ (by decide)
 have q1:m%12<12:=Int.emod_lt_of_pos _ (by decide)
 refine v_cut (λτ=>∃(ls:List Nat) (x:Int) (a:Option R),((∀z∈ls,z∈NS.cps.toList)/\1<=ls.length/\ls.length<=12)/\τ=[some (.val (.int c)),some (.val (.str NS)),some (.val (.int m)),some (.val (.int x)),some (.val (.int g)),some (.own (.lst ((ls.map λc=>(⟨#[c]⟩:Str)).map D.str))),a]) ?_ λnx hnx=>?nwf
 case nwf =>
  rfl'
  refine⟨by omega,by omega,qid (λi τ=>∃(ls:List Nat) (x:Int) (a:Option R),((∀z∈ls,z∈NS.cps.toList)/\ls.length=i)/\τ=[some (.val (.int c)),some (.val (.str NS)),some (.val (.int m)),some (.val (.int x)),some (.val (.int g)),some (.own (.lst ((ls.map λc=>(⟨#[c]⟩:Str)).map D.str))),a]) ⟨[],x,none,⟨by simp,rfl⟩,rfl⟩ ?_ ?_⟩
  ·rintro i τ hi ⟨ls,x,a,⟨hz,hl⟩,rfl⟩ nx2 hnx2
   refine v_cut (λτ=>∃d:Nat,d∈NS.cps.toList/\τ=[some (.val (.int c)),some (.val (.str NS)),some (.val (.int m)),some (.val (.int x)),some (.val (.int g)),some (.own (.lst (((ls++[d]).map λc=>(⟨#[c]⟩:Str)).map D.str))),some (.val (.int i))]) ?_ λnx3 hnx3=>?nwg
   case nwg =>
    rfl'
    obtain⟨d,hd,md⟩:=ix x
    refine⟨lN,d,hd,Nat.lt_of_lt_of_le (show _<1000 by omega) qan,hnx3 _ ⟨d,md,?_⟩⟩
    simp only[List.map_append]
    rfl
   rintro τ ⟨d,md,rfl⟩
   rfl'
   refine⟨.inl (by decide),by omega,by omega,hnx2 _ ⟨ls++[d],_,_,⟨λy hy=>?_,by rw[List.length_append,hl];rfl⟩,rfl⟩⟩
   rcases List.mem_append.mp hy with hy|hy
   ·exact hz y hy
   ·rw[List.mem_singleton.mp hy];exact md
  ·rintro τ ⟨ls,x,a,⟨hz,hl⟩,rfl⟩
   exact hnx _ ⟨ls,x,a,⟨hz,by omega,by omega⟩,rfl⟩
 rintro τ ⟨ls,x,a,⟨hz,l1,l2⟩,rfl⟩
 refine v_cut (λτ=>∃ls:List Nat,((∀z∈ls,z∈NS.cps.toList)/\1<=ls.length/\ls.length<=12)/\τ=[some (.val (.int c)),some (.val (.str NS)),some (.val (.int m)),some (.val (.int x)),some (.val (.int g)),some (.own (.lst ((ls.map λc=>(⟨#[c]⟩:Str)).map D.str))),a]) ?_ λnx hnx=>?nwh
 case nwh =>
  rfl'
  split
  ·obtain⟨d,hd,md⟩:=ix (m / 5)
   have k0:=Int.emod_nonneg (m / 12) (show (ls.length:Int)≠0 by omega)
   have k1:=Int.emod_lt_of_pos (m / 12) (show (0:Int)<ls.length by omega)
   refine⟨lN,d,hd,by omega,_,qif k0 k1,?_⟩
   refine hnx _ ⟨ls.set (m / 12%ls.length).toNat d,⟨λz hm=>?_,by rw[List.length_set];exact l1,by rw[List.length_set];exact l2⟩,?_⟩
   ·rcases List.mem_or_eq_of_mem_set hm with q|q
    ·exact hz z q
    ·rw[q];exact md
   ·rw[List.map_set,List.map_set]
  ·exact hnx _ ⟨ls,⟨hz,l1,l2⟩,rfl⟩
 rintro τ ⟨ls,⟨hz,l1,l2⟩,rfl⟩
 rfl'
 have e0:(Str.ofString "").length=0:=by decide +kernel
 refine⟨ls.map λc=>(⟨#[c]⟩:Str),.inl rfl,by rw[qna,e0];omega,h _ ?_⟩
 unfold nmB nmL
 rw[q3c,decide_eq_true l1,decide_eq_true l2,List.all_eq_true.mpr λy hy=>decide_eq_true (hz y hy)]
 rfl
def qhg:TVS:=(vSeq (vSet 1 (vC (.str (" !\"#$&'()*+,-./0123456789:;<=>?@ABCDEFGHIJKLMNOPQRSTUVWXYZ[\\]^_`" : Str))))
 (vSeq (vSet 1 (vOp vAdd (vVar 1) (vC (.str ("abcdefghijklmnopqrstuvwxyz{|}~" : Str)))))
 (vSeq (vSet 2 (vOp vMod (vVar 0) (vOp vPow (vC (.int 10)) (vC (.int 30)))))
 (vSeq (vSet 3 (vC (.str ("" : Str))))
 (vSeq (vFor (qkm (vOp vMod (vVar 2) (vC (.int 13)))) (qbk 4)
  (vSeq (vSet 3 (vOp vAdd (vVar 3) (vOp vIxR (vVar 1) (vOp vMod (vVar 2) (vC (.int 94))))))
 (vSet 2 (vOp vAdd (vOp vDiv (vVar 2) (vC (.int 89))) (vVar 4)))))
 (vRet (vVar 3)))))))
abbrev qnx:List Str:=["_law_cell","_law_some","_law_kept","_law_text","_law_k"]
def PS7:Str:=Str.ofString " !\"#$&'()*+,-./0123456789:;<=>?@ABCDEFGHIJKLMNOPQRSTUVWXYZ[\\]^_`" ++ Str.ofString "abcdefghijklmnopqrstuvwxyz{|}~"
theorem qo8:∀ds Q,qbi ds Q->qhg (En Q) (qba qnx ds):=by
 rintro ds Q ⟨c,rfl,h⟩
 have eP:(PS7.cps.toList.length:Int)=94:=by decide +kernel
 have lP:PS7.length<=sizeLine:=by decide +kernel
 refine v_cut (λτ=>τ=[some (.val (.int c)),some (.val (.str (Str.ofString " !\"#$&'()*+,-./0123456789:;<=>?@ABCDEFGHIJKLMNOPQRSTUVWXYZ[\\]^_`"))),none,none,none]) ?_ λnx hnx=>?now
 case now =>
  rfl'
  exact hnx _ rfl
 rintro τ rfl
 refine v_cut (λτ=>τ=[some (.val (.int c)),some (.val (.str PS7)),none,none,none]) ?_ λnx hnx=>?nwb
 case nwb =>
  rfl'
  exact⟨by decide +kernel,hnx _ rfl⟩
 rintro τ rfl
 refine v_cut (λτ=>∃m:Int,0<=m/\τ=[some (.val (.int c)),some (.val (.str PS7)),some (.val (.int m)),none,none]) ?_ λnx hnx=>?nwc
 case nwc =>
  rfl'
  exact⟨⟨by decide,by decide,by decide⟩,by decide,hnx _ ⟨_,Int.emod_nonneg _ (by decide),rfl⟩⟩
 rintro τ ⟨m,m0,rfl⟩
 refine v_cut (λτ=>τ=[some (.val (.int c)),some (.val (.str PS7)),some (.val (.int m)),some (.val (.str "")),none]) ?_ λnx hnx=>?nwd
 case nwd =>
  rfl'
  exact hnx _ rfl
 rintro τ rfl
 have q0:0<=m%13:=Int.emod_nonneg _ (by decide)
 have q1:m%13<13:=Int.emod_lt_of_pos _ (by decide)
 refine v_cut (λτ=>∃(k:Int) (t:Str) (a:Option R),t.length<=12/\τ=[some (.val (.int c)),some (.val (.str PS7)),some (.val (.int k)),some (.val (.str t)),a]) ?_ λnx hnx=>?nwe
 case nwe =>
  rfl'
  refine⟨by omega,by omega,qid (λi τ=>∃(k:Int) (t:Str) (a:Option R),t.length=i/\τ=[some (.val (.int c)),some (.val (.str PS7)),some (.val (.int k)),some (.val (.str t)),a]) ⟨m,"",none,by decide +kernel,rfl⟩ ?_ ?_⟩
  ·rintro i τ hi ⟨k,t,a,tl,rfl⟩ nx2 hnx2
   refine v_cut (λτ=>∃t:Str,t.length=i+1/\τ=[some (.val (.int c)),some (.val (.str PS7)),some (.val (.int k)),some (.val (.str t)),some (.val (.int i))]) ?_ λnx3 hnx3=>?nwg
   case nwg =>
    rfl'
    obtain⟨d,hd,_⟩:=qhd (xs:=PS7.cps.toList) (k:=k%94) (Int.emod_nonneg _ (by decide)) (by rw[eP];exact Int.emod_lt_of_pos _ (by decide))
    refine⟨lP,d,hd,Nat.le_trans (show t.length+1<=1000 by omega) qan,hnx3 _ ⟨_,?_,rfl⟩⟩
    rw[PySem.Str.length_append,tl]
    rfl
   rintro τ ⟨t,tl,rfl⟩
   rfl'
   exact hnx2 _ ⟨_,t,_,tl,rfl⟩
  ·rintro τ ⟨k,t,a,tl,rfl⟩
   exact hnx _ ⟨k,t,a,by omega,rfl⟩
 rintro τ ⟨k,t,a,tl,rfl⟩
 rfl'
 exact h t tl
def qjb:TVS:=(vSeq (vIfS (vBl (vOp vEq (vVar 0) (vC (.str ("file" : Str)))))
  (vRet (qar qbi (qae (vVar 1) vNil)))
  qbj)
 (vSeq (vIfS (qhb (vBl (vOp vEq (vVar 0) (vC (.str ("link" : Str))))) (vBl (vOp vEq (vOp vMod (vVar 1) (vC (.int 2))) (vC (.int 0)))))
  (vRet (qmf (vC (.str ("/" : Str))) (vOp qmg (vLst (qae (vC (.str (".." : Str))) vNil)) (vOp vAdd (vC (.int 1)) (vOp vMod (vOp vDiv (vVar 1) (vC (.int 2))) (vC (.int 40)))))))
  qbj)
 (vSeq (vIfS (vBl (vOp vEq (vVar 0) (vC (.str ("link" : Str)))))
  (vRet (vOp vIxR (vTup (qae (vC (.str ("/" : Str))) (qae (vOp vAdd (vC (.str ("/" : Str))) (qar qam (qae (vVar 1) vNil))) (qae (vOp vAdd (vC (.str ("./" : Str))) (qar qam (qae (vVar 1) vNil))) vNil)))) (vOp vMod (vOp vDiv (vVar 1) (vC (.int 2))) (vC (.int 3)))))
  qbj)
 (vRet (vC (.str ("" : Str)))))))
abbrev qpi:List Str:=["_law_mark","_law_cell"]
theorem qfu{t:Str}(h:(qbh t).isSome=true):fitB (qb0,t)=true:=by
 unfold fitB
 rw[decide_eq_true (show (qb0,t).1=qb0 from rfl),show (qbh (qb0,t).2).isSome=true from h,Bool.and_self,Bool.or_true,Bool.true_or]
theorem qso:∀ds Q,qdg ds Q->qjb (En Q) (qba qpi ds):=by
 rintro ds Q ⟨m,c,rfl,hm,h⟩
 have nb:∀Y:R->Prop,(∀z:Str,nmB z=true->Y (.val (.str z)))->qam [.int c] Y:=λY y=>⟨c,rfl,y⟩
 have sb:∀Y:R->Prop,(∀t:Str,t.length<=12->Y (.val (.str t)))->qbi [.int c] Y:=λY y=>⟨c,rfl,y⟩
 refine qdd (λb=>b=decide (m=qav)) (λY y=>?t1) (λhb=>?y1) λhb=>?n1
 case t1 =>
  rfl'
  exact y _ rfl
 case y1 =>
  have e:=of_decide_eq_true hb.symm
  rfl'
  refine sb _ λt tl=>?_
  rfl'
  refine h t (by omega) ?_
  rw[e]
  unfold fitB
  rw[decide_eq_true (show (qav,t).1=qav from rfl)]
  rfl
 case n1 =>
 have m1:=of_decide_eq_false hb.symm
 by_cases ml:m=qb0
 ·subst ml
  refine qdd (λb=>True) (λY y=>?t2) (λ_=>?y2) λ_=>?n2
  case t2 =>
   rfl'
   exact y _ trivial
  case y2 =>
   have q0:=Int.emod_nonneg (c / 2) (show (40:Int)≠0 by decide)
   have q1:=Int.emod_lt_of_pos (c / 2) (show (0:Int)<40 by decide)
   obtain⟨n,hn⟩:∃n:Nat,1+c / 2%40=(n:Int):=⟨(1+c / 2%40).toNat,by omega⟩
   have e2:(Str.ofString "..").length=2:=by decide +kernel
   have e1:(Str.ofString "/").length=1:=by decide +kernel
   rfl'
   rw[hn,Int.toNat_natCast,qj7]
   have hw:∀z∈List.replicate n (Str.ofString ".."),wdB z=true:=λz m=>by rw[(List.mem_replicate.mp m).2];exact qzo
   refine⟨by decide,by omega,by omega,Nat.le_trans (show _<=1000 by omega) qan,List.replicate n (Str.ofString ".."),.inl rfl,by rw[qri,List.length_replicate,e1,e2];omega,h _ ?_ (qfu ?_)⟩
   ·have:=qqa hw
    rw[List.length_replicate] at this
    show (glue "/" _).length<=1000
    omega
   ·show (qbh (glue "/" _)).isSome=true
    rw[qkw (λe=>by have:=congrArg List.length e;rw[List.length_replicate] at this;simp at this;omega) (by rw[List.length_replicate];omega) hw]
    rfl
  case n2 =>
  refine qdd (λb=>b=true) (λY y=>?t3) (λ_=>?y3) λhb=>by cases hb
  case t3 =>
   rfl'
   exact y _ rfl
  case y3 =>
   have e1:(Str.ofString "/").length=1:=by decide +kernel
   have e3:(Str.ofString "./").length=2:=by decide +kernel
   have c3:(Str.ofString "./").cps.toList=[46,47]:=by decide +kernel
   have d1:((".": Str)).cps.toList=[46]:=by decide +kernel
   rfl'
   refine nb _ λz hz=>?_
   rfl'
   have lz:=(qdz hz).2
   refine⟨Nat.le_trans (show _<=1000 by omega) qan,?_⟩
   refine nb _ λy hy=>?_
   rfl'
   have ly:=(qdz hy).2
   refine⟨Nat.le_trans (show _<=1000 by omega) qan,by decide,?_⟩
   obtain⟨x,mx,hx⟩:=qhu (zs:=[Str.ofString "/",Str.ofString "/" ++ z,Str.ofString "./" ++ y]) (k:=c / 2%3) (Int.emod_nonneg _ (by decide)) (Int.emod_lt_of_pos _ (by decide))
   refine⟨.str x,hx,?_⟩
   simp only[List.mem_cons,List.not_mem_nil,or_false] at mx
   rcases mx with q|q|q
   ·rw[q];exact h _ (by omega) (qfu (by decide +kernel))
   ·rw[q]
    refine h _ (by rw[PySem.Str.length_append];omega) (qfu ?_)
    have:=qpa (ws:=[z]) (by simp) λw m=>by rw[List.mem_singleton.mp m];exact qqy hz
    rw[qip] at this
    show (qbh (("/" : Str)++z)).isSome=true
    rw[this]
    rfl
   ·rw[q]
    refine h _ (by rw[PySem.Str.length_append];omega) (qfu ?_)
    have:=qkw (ws:=[".",y]) (by simp) (by simp) λw m=>by
     simp only[List.mem_cons,List.not_mem_nil,or_false] at m
     rcases m with rfl|rfl
     ·exact qv7
     ·exact qqy hy
    have e:glue "/" [".",y]=Str.ofString "./" ++ y:=qdc (by rw[qa9,app_list,c3,d1];simp[qfd])
    rw[e] at this
    rw[this]
    rfl
 ·have mf:m=qai:=by
   rcases hm with q|q|q
   ·exact q
   ·exact absurd q m1
   ·exact absurd q ml
  refine qdd (λb=>b=false) (λY y=>?t4) (λhb=>by cases hb) λ_=>?n4
  case t4 =>
   rfl'
   rw[show decide (m=Str.ofString "link")=false from decide_eq_false ml]
   exact iteF (y _ rfl)
  case n4 =>
  refine qdd (λb=>b=false) (λY y=>?t5) (λhb=>by cases hb) λ_=>?n5
  case t5 =>
   rfl'
   rw[show decide (m=Str.ofString "link")=false from decide_eq_false ml]
   exact y _ rfl
  case n5 =>
   rfl'
   exact h _ (by decide +kernel) (by rw[mf];decide +kernel)
def qf7:TVS:=(vSeq (qhc 1 qkh)
 (vSeq (vSet 2 (vTup vNil))
 (vSeq (vFor (qdq (vVar 0)) (qbk 3)
  (vSeq (vFor (qkm (vOp vMod (vVar 3) (vC (.int 3)))) (qbk 4)
  (vSet 2 (qc8 (vVar 2) qcd (qen (vNeg (vC (.int 1)))))))
 (vSeq (vSet 5 (vOp vAdd (vVar 2) (vTup (qae (qar qam (qae (vOp vDiv (vVar 3) (vC (.int 3))) vNil)) vNil))))
 (vSeq (vSet 6 (vOp vIxR (vTup (qae (vC (.str ("folder" : Str))) (qae (vC (.str ("folder" : Str))) (qae (vC (.str ("file" : Str))) (qae (vC (.str ("link" : Str))) vNil))))) (vOp vMod (vOp vDiv (vOp vMul (vVar 3) (vC (.int 7))) (vC (.int 3))) (vC (.int 4)))))
 (vIfS (qhb (vBl (vDIn (!·) (vVar 5) (vVar 1))) (vBl (vOp vLt (vF1 vLen (vVar 5)) (vC (.int 15)))))
  (vSeq (qo0 1 (vVar 5) (vTup (qae (vVar 6) (qae (qar qdg (qae (vVar 6) (qae (vOp vDiv (vVar 3) (vC (.int 5))) vNil))) vNil))))
 (vIfS (vBl (vOp vEq (vVar 6) (vC (.str ("folder" : Str)))))
  (vSet 2 (vVar 5))
  qbj))
  qbj)))))
 (qo1 1))))
abbrev qpj:List Str:=["_law_cells","_law_things","_law_stood","_law_cell","_law_step","_law_way","_law_mark"]
theorem qsp:∀ds Q,qdh ds Q->qf7 (En Q) (qba qpj ds):=by
 rintro ds Q ⟨cs,rfl,hcs,h⟩
 refine qft ?_
 dsimp! only[qf7]
 refine qft ?_
 rfl'
 refine v_cut (λτ=>∃(rs:List Row) (f:List Str) (a b c d:Option R),TInv rs/\rs.length<=40/\τ=[some (.val (.lst (cs.map D.int))),some (.own (qbr (rs.map prR))),some (.val (wayD f)),a,b,c,d]) ?_ λnx hnx=>?now
 case now =>
  rfl'
  refine qic (λi τ=>∃(rs:List Row) (f:List Str) (a b c d:Option R),TInv rs/\FolT rs f/\rs.length<=i/\τ=[some (.val (.lst (cs.map D.int))),some (.own (qbr (rs.map prR))),some (.val (wayD f)),a,b,c,d]) ⟨[],[],none,none,none,none,TInv.none,.inl rfl,Nat.le_refl _,rfl⟩ ?_ ?_
  ·rintro i c τ hc ⟨rs,f,k3,k4,k5,k6,T,F,rl,rfl⟩ nx2 hnx2
   have hi:=(List.getElem?_eq_some_iff.mp hc).1
   have up:∀f,FolT rs f->FolT rs f.dropLast:=λf F=>by
    rcases F with e|⟨q,mq,eq,_⟩
    ·rw[e];exact .inl rfl
    ·rw[←eq];exact T.up q mq
   have q0:=Int.emod_nonneg c (show (3:Int)≠0 by decide)
   have q1:=Int.emod_lt_of_pos c (show (0:Int)<3 by decide)
   refine v_cut (λτ=>∃(f:List Str) (b:Option R),FolT rs f/\τ=[some (.val (.lst (cs.map D.int))),some (.own (qbr (rs.map prR))),some (.val (wayD f)),some (.val (.int c)),b,k5,k6]) ?_ λnx hnx=>?nwb
   case nwb =>
    rfl'
    refine⟨by omega,by omega,qid (λi τ=>∃(f:List Str) (b:Option R),FolT rs f/\τ=[some (.val (.lst (cs.map D.int))),some (.own (qbr (rs.map prR))),some (.val (wayD f)),some (.val (.int c)),b,k5,k6]) ⟨f,k4,F,rfl⟩ ?_ ?_⟩
    ·rintro j τ hj ⟨f,b,F,rfl⟩ nx3 hnx3
     dsimp! only[wayD]
     rw[qes]
     exact hnx3 _ ⟨f.dropLast,_,up f F,rfl⟩
    ·rintro τ ⟨f,b,F,rfl⟩
     exact hnx _ ⟨f,b,F,rfl⟩
   clear F f
   rintro τ ⟨f,k4,F,rfl⟩
   have fl:f.length<=14/\∀z∈f,nmB z=true:=by
    rcases F with e|⟨q,mq,eq,_⟩
    ·rw[e];exact⟨Nat.zero_le _,λz m=>by cases m⟩
    ·rw[←eq];exact⟨(T.en q mq).wl,(T.en q mq).nm⟩
   have fl1:=fl.1
   have nb:∀(i:Int) (Y:R->Prop),(∀z:Str,nmB z=true->Y (.val (.str z)))->qam [.int i] Y:=λi Y y=>⟨i,rfl,y⟩
   refine v_cut (λτ=>∃z:Str,nmB z=true/\τ=[some (.val (.lst (cs.map D.int))),some (.own (qbr (rs.map prR))),some (.val (wayD f)),some (.val (.int c)),k4,some (.val (wayD (f++[z]))),k6]) ?_ λnx hnx=>?nwc
   case nwc =>
    dsimp! only[wayD]
    refine nb _ _ λz hz=>?_
    rfl'
    exact⟨by decide,Nat.le_trans (show _<=1000 by omega) qan,hnx _ ⟨z,hz,rfl⟩⟩
   rintro τ ⟨z,hz,rfl⟩
   refine v_cut (λτ=>∃m:Str,(m=qai\/m=qav\/m=qb0)/\τ=[some (.val (.lst (cs.map D.int))),some (.own (qbr (rs.map prR))),some (.val (wayD f)),some (.val (.int c)),k4,some (.val (wayD (f++[z]))),some (.val (.str m))]) ?_ λnx hnx=>?nwd
   case nwd =>
    rfl'
    obtain⟨m,mm,hm⟩:=qhu (zs:=[qai,qai,qav,qb0]) (k:=c*7 / 3%4) (Int.emod_nonneg _ (by decide)) (Int.emod_lt_of_pos _ (by decide))
    refine⟨by decide,.inr (by decide),.str m,hm,hnx _ ⟨m,?_,rfl⟩⟩
    simp only[List.mem_cons,List.not_mem_nil,or_false] at mm
    rcases mm with q|q|q|q<;>simp[q]
   rintro τ ⟨m,hm,rfl⟩
   have hwn:∀y∈f++[z],nmB y=true:=λy my=>(List.mem_append.mp my).elim (fl.2 y) λq=>by rw[List.mem_singleton.mp q];exact hz
   have hwe:("" : Str)∉f++[z]:=λm=>qxh (hwn _ m) rfl
   have lk:(lkP (rs.map prR) (f++[z])).isSome=decide (f++[z]∈rs.map (·.1)):=by
    rw[qql,Option.isSome_map]
    exact(Option.isSome_map ..).symm.trans (qm8 rs (f++[z]))
   have stay:=hnx2 _ ⟨rs,f,some (.val (.int c)),k4,some (.val (wayD (f++[z]))),some (.val (.str m)),T,F,by omega,rfl⟩
   refine v_if (λb=>b=true->f++[z]∉rs.map (·.1)/\(f++[z]).length<15) (λY y=>?t1) (λhyes=>?y1) λ_=>stay
   case t1 =>
    dsimp! only[qbr,wayD]
    refine⟨hwe,?_⟩
    rw[qet,lk]
    by_cases hm:f++[z]∈rs.map (·.1)
    ·rw[decide_eq_true hm]
     exact iteF (y _ λz=>by cases z)
    ·rw[decide_eq_false hm]
     exact iteT (y _ λz=>⟨hm,by have:=of_decide_eq_true z;omega⟩)
   case y1 =>
    obtain⟨nw,wl⟩:=hyes rfl
    have tb:∀(i:Int) (Y:R->Prop),(∀t:Str,t.length<=1000->fitB (m,t)=true->Y (.val (.str t)))->qdg [.str m,.int i] Y:=λi Y y=>⟨m,i,rfl,hm,y⟩
    refine v_cut (λτ=>∃t:Str,TInv (rs++[(f++[z],m,t)])/\τ=[some (.val (.lst (cs.map D.int))),some (.own (qbr ((rs++[(f++[z],m,t)]).map prR))),some (.val (wayD f)),some (.val (.int c)),k4,some (.val (wayD (f++[z]))),some (.val (.str m))]) ?_ λnx hnx=>?nwe
    case nwe =>
     dsimp! only[qbr,wayD]
     refine tb _ _ λt tl ft=>?_
     rfl'
     refine⟨by decide,hwe,Nat.lt_of_lt_of_le (show _<1000 by omega) qan,?_⟩
     rw[qe7]
     have e:insP (rs.map prR) (f++[z]) (.tup [.str m,.str t])=(rs++[(f++[z],m,t)]).map prR:=by
      unfold insP
      rw[qss,if_neg nw,List.map_append]
      rfl
     rw[e]
     refine hnx _ ⟨t,T.add nw ⟨hwn,ft,tl,show (f++[z]).length<=14 by omega,by simp,?_⟩ ?_,rfl⟩
     ·show trB m=true
      rcases hm with q|q|q<;>(rw[q];decide +kernel)
     ·show FolT rs (f++[z]).dropLast
      rw[List.dropLast_concat]
      exact F
    rintro τ ⟨t,T2,rfl⟩
    have len2:(rs++[(f++[z],m,t)]).length<=i+1:=by rw[List.length_append,List.length_singleton];omega
    have more:FolT (rs++[(f++[z],m,t)]) f:=F.imp id λ⟨q,mq,e⟩=>⟨q,List.mem_append_left _ mq,e⟩
    refine v_if (λb=>b=decide (m=qai)) (λY y=>?t2) (λhb=>?y2) λhb=>?n2
    case t2 =>
     rfl'
     exact y _ rfl
    case y2 =>
     rfl'
     exact hnx2 _ ⟨_,f++[z],_,_,_,_,T2,.inr ⟨_,List.mem_append_right _ (List.mem_singleton.mpr rfl),rfl,of_decide_eq_true hb.symm⟩,len2,rfl⟩
    case n2 =>
     exact hnx2 _ ⟨_,f,_,_,_,_,T2,more,len2,rfl⟩
  ·rintro τ ⟨rs,f,k3,k4,k5,k6,T,F,rl,rfl⟩
   exact hnx _ ⟨rs,f,k3,k4,k5,k6,T,by omega,rfl⟩
 rintro τ ⟨rs,f,k3,k4,k5,k6,T,rl,rfl⟩
 rfl'
 exact h rs T rl
def qhe:TVS:=(vSeq (vSet 1 (qar qam (qae (vOp vDiv (vVar 0) (vC (.int 9))) vNil)))
 (vSeq (vSet 2 (vTup (qae (vC (.str ("" : Str))) (qae (vOp vAdd (vVar 1) (vOp qmh (vC (.str ("b" : Str))) (vOp vSub (vC (.int 13)) (vF1 vLen (vVar 1))))) (qae (vOp vAdd (vVar 1) (vC (.str ("." : Str)))) (qae (vC (.str (".." : Str))) (qae (vOp vAdd (qc8 (vVar 1) qcd (qen (vNeg (vC (.int 1))))) (vC (.str ("A" : Str)))) (qae (vOp vAdd (vC (.str (" " : Str))) (vVar 1)) (qae (vOp vAdd (vVar 1) (vC (.str ("/" : Str)))) (qae (vC (.str ("_" : Str))) (qae (vC (.str ("-1" : Str))) vNil)))))))))))
 (vRet (vOp vIxR (vVar 2) (vOp vMod (vVar 0) (vC (.int 9)))))))
abbrev qnu:List Str:=["_law_cell","_law_name","_law_some"]
def bNm(z:Str):List Str:=["",z++Txt.mul (Str.ofString "b") (13-(z.length:Int)),z++Str.ofString ".","..",Txt.slice z none (some (-1))++Str.ofString "A",Str.ofString " " ++ z,z++Str.ofString "/","_","-1"]
theorem qo5:∀ds Q,qcn ds Q->qhe (En Q) (qba qnu ds):=by
 rintro ds Q ⟨c,rfl,h⟩
 have nb:∀(i:Int) (Y:R->Prop),(∀z:Str,nmB z=true->Y (.val (.str z)))->qam [.int i] Y:=λi Y y=>⟨i,rfl,y⟩
 refine v_cut (λτ=>∃z:Str,nmB z=true/\τ=[some (.val (.int c)),some (.val (.str z)),none]) ?_ λnx hnx=>?now
 case now =>
  rfl'
  refine nb _ _ λz hz=>?_
  rfl'
  exact hnx _ ⟨z,hz,rfl⟩
 rintro τ ⟨z,hz,rfl⟩
 obtain⟨l1,l2⟩:=qdz hz
 have sz:z.length<=sizeLine:=Nat.le_trans (show _<=1000 by omega) qan
 obtain⟨n,hn,hn2⟩:∃n:Nat,13-(z.length:Int)=(n:Int)/\n=13-z.length:=⟨13-z.length,by omega,rfl⟩
 have bl:=qwg ⟨n,by omega⟩
 have bo:=b_ok ⟨n,by omega⟩
 simp only at bl bo
 have sl:(Txt.slice z none (some (-1))).length<=z.length:=Txt.slice_le z _ _
 have e1:(Str.ofString ".").length=1/\(Str.ofString "A").length=1/\(Str.ofString " ").length=1/\(Str.ofString "/").length=1:=by decide +kernel
 refine v_cut (λτ=>τ=[some (.val (.int c)),some (.val (.str z)),some (.val (.tup ((bNm z).map D.str)))]) ?_ λnx hnx=>?nwb
 case nwb =>
  have k9:∀n:Nat,n<=100->n<=sizeLine:=λn hn=>Nat.le_trans (show n<=1000 by omega) qan
  rfl'
  refine⟨sz,by rw[hn];exact bo,by rw[hn,bl];exact k9 _ (by omega),k9 _ (by omega),sz,k9 _ (by omega),k9 _ (by omega),k9 _ (by omega),by decide,hnx _ rfl⟩
 rintro τ rfl
 rfl'
 obtain⟨x,mx,hx⟩:=qhu (zs:=bNm z) (k:=c%9) (Int.emod_nonneg _ (by decide)) (Int.emod_lt_of_pos _ (by decide))
 have no:∀c:Nat,c=46\/c=65\/c=32\/c=47->c∉NS.cps.toList:=by
  rintro c (rfl|rfl|rfl|rfl)<;>decide +kernel
 have key:x.length<=100/\nmB x=false:=by
  unfold bNm at mx
  simp only[List.mem_cons,List.not_mem_nil,or_false] at mx
  rcases mx with q|q|q|q|q|q|q|q|q
  ·rw[q];decide +kernel
  ·rw[q,hn]
   have:(z++Txt.mul (Str.ofString "b") (n:Int)).length=13:=by rw[PySem.Str.length_append,bl];omega
   exact⟨by omega,qqx (by omega)⟩
  ·rw[q];exact⟨by rw[PySem.Str.length_append];omega,qj0 (c:=46) (by rw[app_list];exact List.mem_append_right _ (by decide +kernel)) (no _ (.inl rfl))⟩
  ·rw[q];decide +kernel
  ·rw[q];exact⟨by rw[PySem.Str.length_append];omega,qj0 (c:=65) (by rw[app_list];exact List.mem_append_right _ (by decide +kernel)) (no _ (.inr (.inl rfl)))⟩
  ·rw[q];exact⟨by rw[PySem.Str.length_append];omega,qj0 (c:=32) (by rw[app_list];exact List.mem_append_left _ (by decide +kernel)) (no _ (.inr (.inr (.inl rfl))))⟩
  ·rw[q];exact⟨by rw[PySem.Str.length_append];omega,qj0 (c:=47) (by rw[app_list];exact List.mem_append_right _ (by decide +kernel)) (no _ (.inr (.inr (.inr rfl))))⟩
  ·rw[q];decide +kernel
  ·rw[q];decide +kernel
 exact⟨.str x,hx,h x key.1 key.2⟩
def qhf:TVS:=(vSeq (vSet 1 (qar qam (qae (vOp vDiv (vVar 0) (vC (.int 9))) vNil)))
 (vSeq (vSet 2 (vTup (qae (vC (.str ("" : Str))) (qae (vOp vAdd (vVar 1) (vC (.str ("/" : Str)))) (qae (vOp vAdd (vC (.str ("//" : Str))) (vVar 1)) (qae (vOp vAdd (vOp vAdd (vVar 1) (vC (.str ("//" : Str)))) (vVar 1)) (qae (vC (.str ("..." : Str))) (qae (vOp vAdd (vVar 1) (vC (.str (" " : Str)))) (qae (vOp vAdd (vOp vAdd (vC (.str ("/" : Str))) (vVar 1)) (vC (.str ("/A" : Str)))) (qae (vOp vAdd (vVar 1) (vOp qmh (vC (.str ("b" : Str))) (vC (.int 12)))) vNil))))))))))
 (vSeq (vIfS (vBl (vOp vEq (vOp vMod (vVar 0) (vC (.int 9))) (vC (.int 8))))
  (vRet (vOp vAdd (vC (.str ("/" : Str))) (qmf (vC (.str ("/" : Str))) (vOp qmg (vLst (qae (vC (.str ("." : Str))) vNil)) (vC (.int 41))))))
  qbj)
 (vRet (vOp vIxR (vVar 2) (vOp vMod (vVar 0) (vC (.int 9))))))))
abbrev qnv:List Str:=["_law_cell","_law_name","_law_some"]
def bTx(z:Str):List Str:=["",z++Str.ofString "/",Str.ofString "//" ++ z,z++Str.ofString "//" ++ z,"...",z++Str.ofString " ",Str.ofString "/" ++ z++Str.ofString "/A",z++Txt.mul (Str.ofString "b") 12]
theorem qzw{z:Str}(hz:nmB z=true):∀x∈bTx z,x.length<=1000/\(qbh x).isSome=false:=by
 obtain⟨l1,l2⟩:=qdz hz
 have bl:(Txt.mul (Str.ofString "b") 12).length=12:=qwg ⟨12,by decide⟩
 have bf:(47:Nat)∉(Txt.mul (Str.ofString "b") 12).cps.toList:=qzx ⟨12,by decide⟩
 have hf:=qqw hz
 have e1:(Str.ofString " ").length=1/\(Str.ofString "/").length=1/\(Str.ofString "//").length=2/\(Str.ofString "/A").length=2:=by decide +kernel
 have e0:((Str.ofString ""):Str).cps.toList=[]:=by decide +kernel
 have c1:(Str.ofString "/").cps.toList=[47]:=by decide +kernel
 have c2:(Str.ofString "//").cps.toList=[47,47]:=by decide +kernel
 have c3:(Str.ofString "/A").cps.toList=[47,65]:=by decide +kernel
 have c4:(Str.ofString "A").cps.toList=[65]:=by decide +kernel
 have c5:(Str.ofString " ").cps.toList=[32]:=by decide +kernel
 have we:wdB "" = false:=by decide +kernel
 have ne:z≠"" := qxh hz
 have long:∀ {t:Str},1<t.length->t≠"/" := λh e=>by
  rw[e] at h
  exact absurd h (by decide +kernel)
 have rel:∀(x w:Str) (ws:List Str),w≠"" -> (∀y∈w::ws,(47:Nat)∉y.cps.toList)->(∃y∈w::ws,wdB y=false)->glue "/" (w::ws)=x->1<x.length->(qbh x).isSome=false:=λx w ws h0 h1 ⟨y,my,hy⟩ e hl=>by
  refine qin (long hl) (.inl ?_)
  rw[←e,q23 w ws h0 h1]
  exact List.all_eq_false.mpr ⟨y,my,by rw[hy];decide⟩
 have rot:∀(x w:Str) (ws:List Str),(∀y∈w::ws,(47:Nat)∉y.cps.toList)->(∃y∈w::ws,wdB y=false)->("/" : Str)++glue "/" (w::ws)=x->1<x.length->(qbh x).isSome=false:=λx w ws h1 ⟨y,my,hy⟩ e hl=>by
  refine qin (long hl) (.inl ?_)
  rw[←e,qmo w ws h1]
  exact List.all_eq_false.mpr ⟨y,my,by rw[hy];decide⟩
 have fe:(47:Nat)∉("" : Str).cps.toList:=by decide +kernel
 intro x m
 unfold bTx at m
 simp only[List.mem_cons,List.not_mem_nil,or_false] at m
 rcases m with q|q|q|q|q|q|q|q
 ·rw[q];exact⟨by decide +kernel,by decide +kernel⟩
 ·have ll:x.length=z.length+1:=by rw[q,PySem.Str.length_append,e1.2.1]
  refine⟨by omega,rel x z [""] ne (λy my=>?_) ⟨"",by simp,we⟩ (qdc ?_) (by omega)⟩
  ·simp only[List.mem_cons,List.not_mem_nil,or_false] at my
   rcases my with rfl|rfl
   ·exact hf
   ·exact fe
  ·rw[q,qa9,app_list,c1]
   simp[qfd,e0]
 ·have ll:x.length=2+z.length:=by rw[q,PySem.Str.length_append,e1.2.2.1]
  refine⟨by omega,rot x "" [z] (λy my=>?_) ⟨"",by simp,we⟩ (qdc ?_) (by omega)⟩
  ·simp only[List.mem_cons,List.not_mem_nil,or_false] at my
   rcases my with rfl|rfl
   ·exact fe
   ·exact hf
  ·rw[q,app_list,qa9,app_list,c2,qhs]
   simp[qfd,e0]
 ·have ll:x.length=z.length+2+z.length:=by rw[q,PySem.Str.length_append,PySem.Str.length_append,e1.2.2.1]
  refine⟨by omega,rel x z ["",z] ne (λy my=>?_) ⟨"",by simp,we⟩ (qdc ?_) (by omega)⟩
  ·simp only[List.mem_cons,List.not_mem_nil,or_false] at my
   rcases my with rfl|rfl|rfl
   ·exact hf
   ·exact fe
   ·exact hf
  ·rw[q,qa9,app_list,app_list,c2]
   simp[qfd,e0]
 ·rw[q];exact⟨by decide +kernel,by decide +kernel⟩
 ·have ll:x.length=z.length+1:=by rw[q,PySem.Str.length_append,e1.1]
  have lz:x.cps.toList=z.cps.toList++[32]:=by rw[q,app_list,c5]
  have nx:nmB x=false:=qj0 (c:=32) (by rw[lz];simp) (by decide +kernel)
  refine⟨by omega,rel x x [] (λe=>?_) (λy my=>?_) ⟨x,by simp,qv8 nx (λe=>?_) λe=>?_⟩ (qip x) (by omega)⟩
  ·rw[e] at ll
   have:("" : Str).length=0:=by decide +kernel
   omega
  ·rw[List.mem_singleton.mp my,lz]
   intro m
   rcases List.mem_append.mp m with m|m
   ·exact hf m
   ·exact absurd (List.mem_singleton.mp m) (by decide)
  ·have:(32:Nat)∈x.cps.toList:=by rw[lz];simp
   rw[e] at this
   exact absurd this (by decide +kernel)
  ·have:(32:Nat)∈x.cps.toList:=by rw[lz];simp
   rw[e] at this
   exact absurd this (by decide +kernel)
 ·have ll:x.length=1+z.length+2:=by rw[q,PySem.Str.length_append,PySem.Str.length_append,e1.2.1,e1.2.2.2]
  refine⟨by omega,rot x z ["A"] (λy my=>?_) ⟨"A",by simp,by decide +kernel⟩ (qdc ?_) (by omega)⟩
  ·simp only[List.mem_cons,List.not_mem_nil,or_false] at my
   rcases my with rfl|rfl
   ·exact hf
   ·decide +kernel
  ·rw[q,app_list,qa9,app_list,app_list,c1,c3]
   simp[qfd,c4]
 ·have ll:x.length=z.length+12:=by rw[q,PySem.Str.length_append,bl]
  have nx:nmB x=false:=qqx (by omega)
  refine⟨by omega,rel x x [] (λe=>?_) (λy my=>?_) ⟨x,by simp,qv8 nx (λe=>?_) λe=>?_⟩ (qip x) (by omega)⟩
  ·rw[e] at ll
   have:("" : Str).length=0:=by decide +kernel
   omega
  ·rw[List.mem_singleton.mp my,q,app_list]
   intro m
   rcases List.mem_append.mp m with m|m
   ·exact hf m
   ·exact bf m
  ·rw[e] at ll
   have:("." : Str).length=1:=by decide +kernel
   omega
  ·rw[e] at ll
   have:(".." : Str).length=2:=by decide +kernel
   omega
theorem dots41:((("/" : Str)++glue "/" (List.replicate 41 ("." : Str))).length<=1000)/\(qbh (("/" : Str)++glue "/" (List.replicate 41 ("." : Str)))).isSome=false:=by
 have hw:∀z∈List.replicate 41 ("." : Str),wdB z=true:=λz m=>by rw[(List.mem_replicate.mp m).2];exact qv7
 have gl:=qqa hw
 rw[List.length_replicate] at gl
 refine⟨by rw[PySem.Str.length_append,qj3];omega,qin (λe=>?_) (.inr ?_)⟩
 ·have:=qmo "." (List.replicate 40 ("." : Str)) λz m=>qg4 (hw z m)
  rw[show ("." : Str)::List.replicate 40 ("." : Str)=List.replicate 41 ("." : Str) from rfl,e] at this
  have:=congrArg List.length this
  rw[List.length_replicate] at this
  exact absurd this (by decide +kernel)
 ·rw[show List.replicate 41 ("." : Str)=("." : Str)::List.replicate 40 ("." : Str) from rfl,qmo "." (List.replicate 40 ("." : Str)) λz m=>qg4 (hw z m),List.length_cons,List.length_replicate]
  decide
theorem qo6:∀ds Q,qco ds Q->qhf (En Q) (qba qnv ds):=by
 rintro ds Q ⟨c,rfl,h⟩
 have nb:∀(i:Int) (Y:R->Prop),(∀z:Str,nmB z=true->Y (.val (.str z)))->qam [.int i] Y:=λi Y y=>⟨i,rfl,y⟩
 refine v_cut (λτ=>∃z:Str,nmB z=true/\τ=[some (.val (.int c)),some (.val (.str z)),none]) ?_ λnx hnx=>?now
 case now =>
  rfl'
  refine nb _ _ λz hz=>?_
  rfl'
  exact hnx _ ⟨z,hz,rfl⟩
 rintro τ ⟨z,hz,rfl⟩
 obtain⟨l1,l2⟩:=qdz hz
 have bl:(Txt.mul (Str.ofString "b") 12).length=12:=qwg ⟨12,by decide⟩
 have bo:MulOk (Str.ofString "b") 12:=b_ok ⟨12,by decide⟩
 have e1:(Str.ofString " ").length=1/\(Str.ofString "/").length=1/\(Str.ofString "//").length=2/\(Str.ofString "/A").length=2:=by decide +kernel
 have e2:(Str.ofString ".").length=1:=by decide +kernel
 have k9:∀n:Nat,n<=900->n<=sizeLine:=λn hn=>Nat.le_trans (show n<=1000 by omega) qan
 refine v_cut (λτ=>τ=[some (.val (.int c)),some (.val (.str z)),some (.val (.tup ((bTx z).map D.str)))]) ?_ λnx hnx=>?nwb
 case nwb =>
  rfl'
  refine⟨k9 _ (by omega),k9 _ (by omega),k9 _ (by omega),k9 _ (by rw[PySem.Str.length_append];omega),k9 _ (by omega),k9 _ (by omega),k9 _ (by rw[PySem.Str.length_append];omega),bo,k9 _ (by omega),by decide,hnx _ rfl⟩
 rintro τ rfl
 have q0:=Int.emod_nonneg c (show (9:Int)≠0 by decide)
 have q1:=Int.emod_lt_of_pos c (show (0:Int)<9 by decide)
 refine qdd (λb=>b=decide (c%9=8)) (λY y=>?t1) (λhb=>?y1) λhb=>?n1
 case t1 =>
  rfl'
  exact y _ rfl
 case y1 =>
  rfl'
  rw[show Int.toNat 41=41 from rfl,qj7]
  have gl:=dots41.1
  rw[PySem.Str.length_append] at gl
  refine⟨by decide,by decide,by decide,by decide,List.replicate 41 (Str.ofString "."),.inl rfl,by rw[qri,List.length_replicate,e2,e1.2.1];decide,Nat.le_trans gl qan,h _ dots41.1 dots41.2⟩
 case n1 =>
  have:=of_decide_eq_false hb.symm
  rfl'
  obtain⟨x,mx,hx⟩:=qhu (zs:=bTx z) (k:=c%9) q0 (by show c%9<8;omega)
  obtain⟨k1,k2⟩:=qzw hz x mx
  exact⟨.str x,hx,h x k1 k2⟩
def qpq:TVS:=(vSeq (vIfS (qhb (vBl (vOp vEq (vVar 2) (vC (.int 0)))) (vBl (vOp vGt (vF1 vLen (qc0 0)) (vC (.int 1)))))
  (vSeq (vSet 4 (vOp vMod (vOp vAdd (vOp vAdd (vVar 1) (vC (.int 1))) (vOp vMod (vVar 3) (vOp vSub (vF1 vLen (qc0 0)) (vC (.int 1))))) (vF1 vLen (qc0 0))))
 (vSeq (vSet 5 (vOp vIxR (qc0 0) (vVar 4)))
 (vSeq (qd4 0 (vVar 4) (vOp vIxR (qc0 0) (vVar 1)))
 (vSeq (qd4 0 (vVar 1) (vVar 5))
 (qef (vC (.bl false)))))))
  qbj)
 (vSeq (vIfS (vBl (vOp vEq (vVar 2) (vC (.int 1))))
  (vSeq (qdw 0 (qae (vOp vMod (vVar 3) (vOp vAdd (vF1 vLen (qc0 0)) (vC (.int 1)))) (qae (vOp vIxR (qc0 0) (vVar 1)) vNil)))
 (qef (vC (.bl false))))
  qbj)
 (vSeq (vIfS (vBl (vOp vEq (vVar 2) (vC (.int 2))))
  (vSeq (qkl 6 0 (vVar 1))
 (qef (qhw 0 (qar qdt (qae (vVar 0) (qae (vVar 6) vNil))))))
  qbj)
 (vSeq (qdw 0 (qae (vC (.int 0)) (qae (vTup (qae (vTup vNil) (qae (vOp vIxR (vTup (qae (vC (.str ("folder" : Str))) (qae (vC (.str ("shut" : Str))) vNil))) (vOp vMod (vVar 3) (vC (.int 2)))) (qae (vC (.str ("" : Str))) vNil)))) vNil)))
 (qef (vC (.bl false)))))))
abbrev qwc:List Str:=["_law_rows","_law_spot","_law_road","_law_drawn","_law_other","_law_kept","_law_way"]
theorem qqr(p:List Row)(k:Nat)(r:Row):(p.map rowD).take k++rowD r::(p.map rowD).drop k=(p.take k++r::p.drop k).map rowD:=by
 rw[List.map_append,List.map_cons,List.map_take,List.map_drop]
theorem qjn{f:Row->D}:∀(ms:List Row) (j:Nat),(ms.map f).eraseIdx j=(ms.eraseIdx j).map f
|[],_=>rfl
|_::_,0=>rfl
|m::ms,j+1=>by
  show f m::(ms.map f).eraseIdx j=f m::(ms.eraseIdx j).map f
  rw[qjn ms j]
theorem TreeF.get{p:List Row}{i:Nat}(T:TreeF p)(hi:i<p.length):∃r,p[i]?=some r/\r∈p/\EntT r:=⟨p[i],List.getElem?_eq_getElem hi,List.getElem_mem hi,T.en _ (List.getElem_mem hi)⟩
theorem TreeF.rows{p:List Row}(T:TreeF p):RowsG p:=⟨by have:=T.len;omega,λr m=>(T.en r m).g⟩
theorem TreeF.set{p:List Row}(T:TreeF p){i:Nat}{r:Row}(h:RowG r):RowsG (p.set i r):=⟨by rw[List.length_set];exact T.rows.len,λq m=>(List.mem_or_eq_of_mem_set m).elim (T.rows.g q) λe=>by rw[e];exact h⟩
theorem TreeF.ins{p:List Row}(T:TreeF p){k:Nat}{r:Row}(h:RowG r):RowsG (p.take k++r::p.drop k):=by
 have:=T.len
 refine⟨by rw[List.length_append,List.length_cons,List.length_take,List.length_drop];omega,λq m=>?_⟩
 rcases List.mem_append.mp m with m|m
 ·exact T.rows.g q (List.mem_of_mem_take m)
 ·rcases List.mem_cons.mp m with m|m
  ·rw[m];exact h
  ·exact T.rows.g q (List.mem_of_mem_drop m)
theorem qzn:∀ds ps c Q,qe6 ds ps Q->qpq (EnI 0 c Q) (qeh qwc 0 c ds ps):=by
 rintro ds ps c Q ⟨p,i,road,drawn,rfl,rfl,T,hi,d0,h⟩
 have pl:=T.len
 obtain⟨r,hr,mr,E⟩:=T.get hi
 have al:∀(rs:List Row) (w:List Str) (Y:R->Prop),Y (.val (.bl (qeo rs w)))->qdt [qbd rs,wayD w] Y:=λrs w Y y=>⟨rs,w,rfl,y⟩
 refine qdd (λb=>b=true->1<p.length) (λY y=>?t1) (λhb=>?y1) λ_=>?n1
 case t1 =>
  rfl'
  split
  ·exact y _ λz=>by have:=of_decide_eq_true z;omega
  ·exact y _ λz=>by cases z
 case y1 =>
  have l1:=hb rfl
  have q0:=Int.emod_nonneg drawn (show ((p.length:Int)-1)≠0 by omega)
  have q1:=Int.emod_lt_of_pos drawn (show (0:Int)<(p.length:Int)-1 by omega)
  have s0:=Int.emod_nonneg ((i:Int)+1+drawn%((p.length:Int)-1)) (show (p.length:Int)≠0 by omega)
  have s1:=Int.emod_lt_of_pos ((i:Int)+1+drawn%((p.length:Int)-1)) (show (0:Int)<p.length by omega)
  obtain⟨j,hj⟩:∃j:Nat,((i:Int)+1+drawn%((p.length:Int)-1))%(p.length:Int)=(j:Int):=⟨(((i:Int)+1+drawn%((p.length:Int)-1))%(p.length:Int)).toNat,by omega⟩
  have jl:j<p.length:=by omega
  have ij:i≠j:=λe=>by
   subst e
   generalize drawn%((p.length:Int)-1)=m at *
   have e1:((i:Int)+1+m)%(p.length:Int)=(i:Int):=hj
   have e2:=Int.emod_add_mul_ediv ((i:Int)+1+m) (p.length:Int)
   rw[e1] at e2
   generalize ((i:Int)+1+m) / (p.length:Int)=k at e2
   have e3:(p.length:Int)*k=1+m:=by omega
   rcases Int.lt_trichotomy k 0 with z|z|z
   ·have:=Int.mul_le_mul_of_nonneg_left (show k<=-1 by omega) (show (0:Int)<=p.length by omega)
    omega
   ·rw[z,Int.mul_zero] at e3
    omega
   ·have:=Int.mul_le_mul_of_nonneg_left (show 1<=k by omega) (show (0:Int)<=p.length by omega)
    omega
  obtain⟨o,ho,mo,Eo⟩:=T.get jl
  refine v_cut (λτ=>τ=[some (.own (.io c (p.map rowD))),some (.val (.int i)),some (.val (.int road)),some (.val (.int drawn)),some (.val (.int j)),none,none]) ?_ λnx hnx=>?nwa
  case nwa =>
   rfl'
   rw[hj]
   exact⟨by omega,by omega,hnx _ rfl⟩
  rintro τ rfl
  refine v_cut (λτ=>τ=[some (.own (.io c (p.map rowD))),some (.val (.int i)),some (.val (.int road)),some (.val (.int drawn)),some (.val (.int j)),some (.val (rowD o)),none]) ?_ λnx hnx=>?nwb
  case nwb =>
   rfl'
   exact⟨rowD o,qez ho,hnx _ rfl⟩
  rintro τ rfl
  refine v_cut (λτ=>τ=[some (.own (.io c ((p.set j r).map rowD))),some (.val (.int i)),some (.val (.int road)),some (.val (.int drawn)),some (.val (.int j)),some (.val (rowD o)),none]) ?_ λnx hnx=>?nwc
  case nwc =>
   rfl'
   refine⟨rowD r,qez hr,?_⟩
   rfl'
   refine⟨j,by rw[qif (by omega) (by omega),Int.toNat_natCast],?_⟩
   rw[←List.map_set]
   exact hnx _ rfl
  rintro τ rfl
  refine v_cut (λτ=>τ=[some (.own (.io c (((p.set j r).set i o).map rowD))),some (.val (.int i)),some (.val (.int road)),some (.val (.int drawn)),some (.val (.int j)),some (.val (rowD o)),none]) ?_ λnx hnx=>?nwd
  case nwd =>
   rfl'
   refine⟨i,by rw[qif (by omega) (by rw[List.length_set];omega),Int.toNat_natCast],?_⟩
   rw[←List.map_set]
   exact hnx _ rfl
  rintro τ rfl
  have fin:=h ((p.set j r).set i o) ⟨by rw[List.length_set,List.length_set];omega,λq m=>(List.mem_or_eq_of_mem_set m).elim ((T.set E.g).g q) λe=>by rw[e];exact Eo.g⟩
  rw[qru T.t.so hr ho ij] at fin
  rfl'
  exact fin
 case n1 =>
 refine qdd (λb=>True) (λY y=>?t2) (λ_=>?y2) λ_=>?n2
 case t2 =>
  rfl'
  exact y _ trivial
 case y2 =>
  have q0:=Int.emod_nonneg drawn (show ((p.length:Int)+1)≠0 by omega)
  have q1:=Int.emod_lt_of_pos drawn (show (0:Int)<(p.length:Int)+1 by omega)
  obtain⟨j,hj⟩:∃j:Nat,drawn%((p.length:Int)+1)=(j:Int):=⟨(drawn%((p.length:Int)+1)).toNat,by omega⟩
  refine v_cut (λτ=>τ=[some (.own (.io c ((p.take j++r::p.drop j).map rowD))),some (.val (.int i)),some (.val (.int road)),some (.val (.int drawn)),none,none,none]) ?_ λnx hnx=>?nwe
  case nwe =>
   rfl'
   rw[hj]
   refine⟨by omega,rowD r,qez hr,?_⟩
   rfl'
   refine⟨by omega,by omega,by omega,Nat.lt_of_lt_of_le (show _<1000 by omega) qan,?_⟩
   rw[Int.toNat_natCast,qqr]
   exact hnx _ rfl
  rintro τ rfl
  have fin:=h (p.take j++r::p.drop j) (T.ins E.g)
  rw[qov mr] at fin
  rfl'
  exact fin
 case n2 =>
 refine qdd (λb=>True) (λY y=>?t3) (λ_=>?y3) λ_=>?n3
 case t3 =>
  rfl'
  exact y _ trivial
 case y3 =>
  refine v_cut (λτ=>τ=[some (.own (.io c ((p.eraseIdx i).map rowD))),some (.val (.int i)),some (.val (.int road)),some (.val (.int drawn)),none,none,some (.val (wayD r.1))]) ?_ λnx hnx=>?nwf
  case nwf =>
   rfl'
   refine⟨by omega,by omega,wayD r.1,[.str r.2.1,.str r.2.2],?_,?_⟩
   ·rw[Int.toNat_natCast,List.getElem?_map,hr]
    rfl
   ·rw[Int.toNat_natCast,qjn]
    exact hnx _ rfl
  rintro τ rfl
  have fin:=h (p.eraseIdx i) ⟨by rw[List.length_eraseIdx];split<;>omega,λq m=>T.rows.g q (List.mem_of_mem_eraseIdx m)⟩
  rw[qou T.t hr] at fin
  rfl'
  refine al _ _ _ ?_
  rfl'
  exact fin
 case n3 =>
  have q0:=Int.emod_nonneg drawn (show (2:Int)≠0 by decide)
  have q1:=Int.emod_lt_of_pos drawn (show (0:Int)<2 by decide)
  obtain⟨m,_,hm⟩:=qhu (zs:=[qai,qcy]) (k:=drawn%2) q0 q1
  refine v_cut (λτ=>τ=[some (.own (.io c ((p.take 0++([],m,tEmpty)::p.drop 0).map rowD))),some (.val (.int i)),some (.val (.int road)),some (.val (.int drawn)),none,none,none]) ?_ λnx hnx=>?nwg
  case nwg =>
   rfl'
   refine⟨by decide,.str m,hm,?_⟩
   rfl'
   exact⟨by decide,by omega,Nat.lt_of_lt_of_le (show _<1000 by omega) qan,hnx _ rfl⟩
  rintro τ rfl
  have fin:=h (p.take 0++([],m,tEmpty)::p.drop 0) (T.ins ⟨Nat.zero_le _,(λz m=>by cases m),show tEmpty.length<=5000 by decide +kernel⟩)
  rw[show p.take 0++([],m,tEmpty)::p.drop 0=([],m,tEmpty)::p from rfl,qrt] at fin
  rfl'
  exact fin
def qf6:TVS:=(vSeq (vSet 3 (vOp vAdd (vOp vIxR (vOp vIxR (qc0 0) (vVar 1)) (vC (.int 0))) (vTup (qae (qar qam (qae (vVar 2) vNil)) vNil))))
 (vSeq (qr2 0 (qbk 4)
  (vIfS (vBl (vOp vEq (vOp vIxR (vVar 4) (vC (.int 0))) (vVar 3)))
  (qef (vC (.bl true)))
  qbj))
 (vSeq (vSet 5 (vOp vEq (vOp vIxR (vOp vIxR (qc0 0) (vVar 1)) (vC (.int 1))) (vC (.str ("folder" : Str)))))
 (vSeq (vSet 6 (vC (.int 0)))
 (vSeq (qv2 (qhb (vBl (vOp vLt (vVar 6) (vF1 vLen (qc0 0)))) (vBl (vOp vLtD (vOp vIxR (vOp vIxR (qc0 0) (vVar 6)) (vC (.int 0))) (vVar 3))))
  (vAug 6 (vC (.int 1))))
 (vSeq (qdw 0 (qae (vVar 6) (qae (vTup (qae (vVar 3) (qae (vC (.str ("file" : Str))) (qae (vC (.str ("" : Str))) vNil)))) vNil)))
 (qef (vVar 5))))))))
abbrev qkx:List Str:=["_law_rows","_law_spot","_law_drawn","_law_way","_law_row","_law_good","_law_at"]
theorem qs2{i:Nat}{c:Addr}{ds:List D}{g:TVG}{tb:TVS}{Dv:VEnds}{τ:VSt}{α:Type}{f:α->D}{xs:List α}(Pv:Nat->VSt->Prop)(h0:Pv 0 τ)(hio:∀k τ,Pv k τ->τ[i]?=some (some (.own (.io c ds))))(hn:∀(k:Nat) (x:α) (τ:VSt),xs[k]?=some x->Pv k τ->∀nx:VSt->Prop,(∀τ',Pv (k+1) τ'->nx τ')->g (f x) τ λτ'=>tb { nx:=nx,rt:=Dv.rt,bk:=Dv.nx,ct:=nx,xc:=Dv.xc,ro:=Dv.ro } τ')
  (he:∀τ,Pv xs.length τ->Dv.nx τ):qle i c ds g tb Dv (xs.map f) τ:=by
 have key:∀(n k:Nat) (τ:VSt),xs.length-k=n->k<=xs.length->Pv k τ->qle i c ds g tb Dv ((xs.drop k).map f) τ:=λn=>by
  induction n with
 |zero =>
   intro k τ h1 h2 h3
   have:k=xs.length:=by omega
   subst this
   rw[List.drop_length]
   exact⟨hio _ _ h3,he τ h3⟩
 |succ n ih =>
   intro k τ h1 h2 h3
   have lt:k<xs.length:=by omega
   rw[List.drop_eq_getElem_cons lt]
   exact⟨hio _ _ h3,hn k _ τ (List.getElem?_eq_getElem lt) h3 _ λτ' h4=>ih (k+1) τ' (by omega) (by omega) h4⟩
 exact key _ 0 τ rfl (Nat.zero_le _) h0
theorem qmn:∀ds ps c Q,qb5 ds ps Q->qf6 (EnI 0 c Q) (qeh qkx 0 c ds ps):=by
 rintro ds ps c Q ⟨p,i,drawn,rfl,rfl,T,hi,h⟩
 have pl:=T.len
 obtain⟨r,hr,mr,E⟩:=T.get hi
 have wl:=E.wl
 have nb:∀(i:Int) (Y:R->Prop),(∀z:Str,nmB z=true->Y (.val (.str z)))->qam [.int i] Y:=λi Y y=>⟨i,rfl,y⟩
 refine v_cut (λτ=>∃z:Str,nmB z=true/\τ=[some (.own (.io c (p.map rowD))),some (.val (.int i)),some (.val (.int drawn)),some (.val (wayD (r.1++[z]))),none,none,none]) ?_ λnx hnx=>?now
 case now =>
  rfl'
  refine⟨rowD r,qez hr,?_⟩
  dsimp! only[rowD,wayD]
  refine nb _ _ λz hz=>?_
  rfl'
  exact⟨by decide,Nat.le_trans (show _<=1000 by omega) qan,hnx _ ⟨z,hz,rfl⟩⟩
 rintro τ ⟨z,hz,rfl⟩
 have fin0:=h p T.rows
 rw[(qdv p).mpr T.t] at fin0
 refine v_cut (λτ=>r.1++[z]∉p.map (·.1)/\∃a,τ=[some (.own (.io c (p.map rowD))),some (.val (.int i)),some (.val (.int drawn)),some (.val (wayD (r.1++[z]))),a,none,none]) ?_ λnx hnx=>?nwb
 case nwb =>
  rfl'
  refine qs2 (λk τ=>(∀q∈p.take k,q.1≠r.1++[z])/\∃a,τ=[some (.own (.io c (p.map rowD))),some (.val (.int i)),some (.val (.int drawn)),some (.val (wayD (r.1++[z]))),a,none,none]) ⟨(λq m=>by rw[List.take_zero] at m;cases m),none,rfl⟩ ?_ ?_ ?_
  ·rintro k τ ⟨_,a,rfl⟩
   rfl
  ·rintro k q τ hk ⟨hb,a,rfl⟩ nx2 hnx2
   refine v_if (λb=>b=decide (q.1=r.1++[z])) (λY y=>?t1) (λhc=>?y1) λhc=>?n1
   case t1 =>
    dsimp! only[rowD,wayD]
    refine⟨cmpW _ _,depW _,?_⟩
    simp only[eqW]
    exact y _ rfl
   case y1 =>
    rfl'
    exact fin0
   case n1 =>
    refine hnx2 _ ⟨λd md=>?_,_,rfl⟩
    rw[List.take_succ,hk] at md
    rcases List.mem_append.mp md with m|m
    ·exact hb d m
    ·rw[List.mem_singleton.mp m]
     exact of_decide_eq_false hc.symm
  ·rintro τ ⟨hb,a,rfl⟩
   rw[List.take_length] at hb
   refine hnx _ ⟨λm=>?_,a,rfl⟩
   obtain⟨q,mq,eq⟩:=List.mem_map.mp m
   exact hb q mq eq
 rintro τ ⟨nw,a,rfl⟩
 refine v_cut (λτ=>τ=[some (.own (.io c (p.map rowD))),some (.val (.int i)),some (.val (.int drawn)),some (.val (wayD (r.1++[z]))),a,some (.val (.bl (decide (r.2.1=qai)))),none]) ?_ λnx hnx=>?nwc
 case nwc =>
  rfl'
  refine⟨rowD r,qez hr,?_⟩
  dsimp! only[rowD]
  exact hnx _ rfl
 rintro τ rfl
 refine v_cut (λτ=>τ=[some (.own (.io c (p.map rowD))),some (.val (.int i)),some (.val (.int drawn)),some (.val (wayD (r.1++[z]))),a,some (.val (.bl (decide (r.2.1=qai)))),some (.val (.int 0))]) ?_ λnx hnx=>?nwd
 case nwd =>
  rfl'
  exact hnx _ rfl
 rintro τ rfl
 refine v_cut (λτ=>∃k:Nat,k<=p.length/\(∀q∈p.take k,ltW q.1 (r.1++[z])=true)/\(∀q,p[k]?=some q->ltW q.1 (r.1++[z])=false)/\τ=[some (.own (.io c (p.map rowD))),some (.val (.int i)),some (.val (.int drawn)),some (.val (wayD (r.1++[z]))),a,some (.val (.bl (decide (r.2.1=qai)))),some (.val (.int k))]) ?_ λnx hnx=>?nwe
 case nwe =>
  refine⟨λm τ=>∃k:Nat,k<=p.length/\m=p.length-k/\(∀q∈p.take k,ltW q.1 (r.1++[z])=true)/\τ=[some (.own (.io c (p.map rowD))),some (.val (.int i)),some (.val (.int drawn)),some (.val (wayD (r.1++[z]))),a,some (.val (.bl (decide (r.2.1=qai)))),some (.val (.int k))],⟨_,0,Nat.zero_le _,rfl,(λq m=>by rw[List.take_zero] at m;cases m),rfl⟩,?_⟩
  rintro m τ ⟨k,kl,rfl,lo,rfl⟩
  rfl'
  by_cases kk:k<p.length
  ·rw[decide_eq_true (by omega:(k:Int)<(p.length:Int))]
   obtain⟨q,hq,mq,_⟩:=T.get kk
   refine iteT ⟨rowD q,qez hq,?_⟩
   dsimp! only[rowD,wayD]
   refine⟨qnd _ _,depW _,?_⟩
   have ltE:ltD (D.tup (q.1.map D.str)) (D.tup ((r.1++[z]).map D.str))=ltW q.1 (r.1++[z]):=qdb _ _
   cases e:ltW q.1 (r.1++[z]) with
  |true =>
    refine ifT (ltE.trans e) ?_
    refine⟨_,?_,k+1,by omega,rfl,λd md=>?_,rfl⟩
    ·omega
    ·rw[List.take_succ,hq] at md
     rcases List.mem_append.mp md with m|m
     ·exact lo d m
     ·rw[List.mem_singleton.mp m];exact e
  |false =>
    refine ifF (by rw[ltE,e];decide) (hnx _ ⟨k,kl,lo,λq' hq'=>?_,rfl⟩)
    rw[hq] at hq'
    cases hq'
    exact e
  ·rw[decide_eq_false (by omega:¬ (k:Int)<(p.length:Int))]
   refine iteF (hnx _ ⟨k,kl,lo,λq' hq'=>?_,rfl⟩)
   exact absurd (List.getElem?_eq_some_iff.mp hq').1 kk
 rintro τ ⟨k,kl,lo,hk,rfl⟩
 refine v_cut (λτ=>τ=[some (.own (.io c ((p.take k++(r.1++[z],qav,tEmpty)::p.drop k).map rowD))),some (.val (.int i)),some (.val (.int drawn)),some (.val (wayD (r.1++[z]))),a,some (.val (.bl (decide (r.2.1=qai)))),some (.val (.int k))]) ?_ λnx hnx=>?nwf
 case nwf =>
  rfl'
  refine⟨by decide,by omega,by omega,by omega,Nat.lt_of_lt_of_le (show _<1000 by omega) qan,?_⟩
  rw[Int.toNat_natCast]
  have:=qqr p k (r.1++[z],qav,tEmpty)
  rw[show rowD (r.1++[z],qav,tEmpty)=.tup [wayD (r.1++[z]),.str (Str.ofString "file"),.str (Str.ofString "")] from rfl] at this
  rw[this]
  exact hnx _ rfl
 rintro τ rfl
 have hh:∀q∈p.drop k,ltW (r.1++[z]) q.1=true:=λq mq=>by
  have kk:k<p.length:=by
   rcases Nat.lt_or_ge k p.length with z|z
   ·exact z
   ·rw[List.drop_eq_nil_of_le z] at mq;cases mq
  have e1:p[k]?=some p[k]:=List.getElem?_eq_getElem kk
  have f1:=hk _ e1
  have f2:ltW (r.1++[z]) p[k].1=true:=(qqo λe=>nw (by rw[e];exact List.mem_map.mpr ⟨p[k],List.getElem_mem kk,rfl⟩)).resolve_right (by rw[f1];decide)
  rw[List.drop_eq_getElem_cons kk] at mq
  rcases List.mem_cons.mp mq with m|m
  ·rw[m];exact f2
  ·have P:=T.t.so
   rw[←List.take_append_drop k p,List.drop_eq_getElem_cons kk] at P
   exact qqp f2 ((List.pairwise_cons.mp (List.pairwise_append.mp P).2.1).1 q m)
 have fin:=h (p.take k++(r.1++[z],qav,tEmpty)::p.drop k) (T.ins ⟨by show (r.1++[z]).length<=100;rw[List.length_append,List.length_singleton];omega,λy my=>by
  rcases List.mem_append.mp my with m|m
  ·exact E.g.zl y m
  ·rw[List.mem_singleton.mp m];have:=(qdz hz).2;omega,show tEmpty.length<=5000 by decide +kernel⟩)
 rw[qow T.t hr hz nw lo hh] at fin
 rfl'
 exact fin
def qmr:TVS:=(vSeq (vSet 4 (vOp vIxR (vOp vIxR (qc0 0) (vVar 1)) (vC (.int 0))))
 (vSeq (vIfS (vBl (vOp vEq (vVar 2) (vC (.int 4))))
  (vSeq (qd4 0 (vVar 1) (vTup (qae (vVar 4) (qae (vC (.str ("file" : Str))) (qae (qar qbi (qae (vVar 3) vNil)) vNil)))))
 (qef (qhw 0 (qar qdt (qae (vVar 0) (qae (vVar 4) vNil))))))
  qbj)
 (vSeq (vIfS (vBl (vOp vEq (vVar 2) (vC (.int 5))))
  (vSeq (qd4 0 (vVar 1) (vTup (qae (vVar 4) (qae (vOp vIxR (vTup (qae (vC (.str ("gone" : Str))) (qae (vC (.str ("shut" : Str))) (qae (vC (.str ("" : Str))) (qae (vC (.str ("File" : Str))) (qae (vC (.str ("folders" : Str))) vNil)))))) (vOp vMod (vVar 3) (vC (.int 5)))) (qae (vC (.str ("" : Str))) vNil)))))
 (qef (vC (.bl false))))
  qbj)
 (vSeq (vIfS (vBl (vOp vEq (vVar 2) (vC (.int 6))))
  (vSeq (qd4 0 (vVar 1) (vTup (qae (vVar 4) (qae (vC (.str ("folder" : Str))) (qae (vOp vAdd (vC (.str (" " : Str))) (qar qbi (qae (vVar 3) vNil))) vNil)))))
 (qef (vC (.bl false))))
  qbj)
 (vSeq (vIfS (vBl (vOp vEq (vVar 2) (vC (.int 7))))
  (vSeq (qd4 0 (vVar 1) (vTup (qae (vVar 4) (qae (vC (.str ("link" : Str))) (qae (qar qco (qae (vVar 3) vNil)) vNil)))))
 (qef (vC (.bl false))))
  qbj)
 (vSeq (vIfS (vBl (vOp vEq (vVar 2) (vC (.int 8))))
  (vSeq (vSet 5 (vOp vMod (vOp vDiv (vVar 3) (vC (.int 11))) (vF1 vLen (vVar 4))))
 (vSeq (qd4 0 (vVar 1) (vTup (qae (vOp vAdd (vOp vAdd (qc8 (vVar 4) qcd (qen (vVar 5))) (vTup (qae (qar qcn (qae (vVar 3) vNil)) vNil))) (qc8 (vVar 4) (qen (vOp vAdd (vVar 5) (vC (.int 1)))) qcd)) (qae (vOp vIxR (vOp vIxR (qc0 0) (vVar 1)) (vC (.int 1))) (qae (vOp vIxR (vOp vIxR (qc0 0) (vVar 1)) (vC (.int 2))) vNil)))))
 (qef (vC (.bl false)))))
  qbj)
 (qgx qb5 0 (qae (vVar 1) (qae (vVar 3) vNil)))))))))
abbrev qsv:List Str:=["_law_rows","_law_spot","_law_road","_law_drawn","_law_way","_law_at"]
theorem qu5:∀ds ps c Q,qd8 ds ps Q->qmr (EnI 0 c Q) (qeh qsv 0 c ds ps):=by
 rintro ds ps c Q ⟨p,i,road,drawn,rfl,rfl,T,hi,d0,h⟩
 have pl:=T.len
 obtain⟨r,hr,mr,E⟩:=T.get hi
 have wl:=E.wl
 have G:=E.g
 have n0:=List.length_pos_iff.mpr E.n0
 have al:∀(rs:List Row) (w:List Str) (Y:R->Prop),Y (.val (.bl (qeo rs w)))->qdt [qbd rs,wayD w] Y:=λrs w Y y=>⟨rs,w,rfl,y⟩
 have sb:∀(i:Int) (Y:R->Prop),(∀t:Str,t.length<=12->Y (.val (.str t)))->qbi [.int i] Y:=λi Y y=>⟨i,rfl,y⟩
 have bn:∀(i:Int) (Y:R->Prop),(∀z:Str,z.length<=100->nmB z=false->Y (.val (.str z)))->qcn [.int i] Y:=λi Y y=>⟨i,rfl,y⟩
 have bt:∀(i:Int) (Y:R->Prop),(∀z:Str,z.length<=1000->(qbh z).isSome=false->Y (.val (.str z)))->qco [.int i] Y:=λi Y y=>⟨i,rfl,y⟩
 have pu:∀Y:R->List D->Prop,(∀p',RowsG p'->Y (.val (.bl (qbv p'))) (p'.map rowD))->qb5 [.int i,.int drawn] (p.map rowD) Y:=λY y=>⟨p,i,drawn,rfl,rfl,T,hi,y⟩
 have ixi:ixN p.length (i:Int)=some i:=by rw[qif (by omega) (by omega),Int.toNat_natCast]
 have out:∀r':Row,RowG r'->(entB r'=false\/trB r'.2.1=false)->Q (.val (.bl false)) ((p.set i r').map rowD):=λr' g' h'=>by
  have:=h (p.set i r') (T.set g')
  rw[qkg hr h'] at this
  exact this
 have sp1:(Str.ofString " ").length=1:=by decide +kernel
 refine v_cut (λτ=>τ=[some (.own (.io c (p.map rowD))),some (.val (.int i)),some (.val (.int road)),some (.val (.int drawn)),some (.val (wayD r.1)),none]) ?_ λnx hnx=>?now
 case now =>
  rfl'
  refine⟨rowD r,qez hr,?_⟩
  dsimp! only[rowD]
  exact hnx _ rfl
 rintro τ rfl
 refine qdd (λb=>True) (λY y=>?t4) (λ_=>?y4) λ_=>?n4
 case t4 =>
  rfl'
  exact y _ trivial
 case y4 =>
  refine v_cut (λτ=>∃t:Str,t.length<=12/\τ=[some (.own (.io c ((p.set i (r.1,qav,t)).map rowD))),some (.val (.int i)),some (.val (.int road)),some (.val (.int drawn)),some (.val (wayD r.1)),none]) ?_ λnx hnx=>?nwa
  case nwa =>
   rfl'
   refine sb _ _ λt tl=>?_
   rfl'
   refine⟨by decide,i,ixi,?_⟩
   have e:=List.map_set (f:=rowD) (l:=p) (i:=i) (a:=(r.1,qav,t))
   rw[show rowD (r.1,qav,t)=.tup [wayD r.1,.str (Str.ofString "file"),.str t] from rfl] at e
   rw[←e]
   exact hnx _ ⟨t,tl,rfl⟩
  rintro τ ⟨t,tl,rfl⟩
  have fin:=h (p.set i (r.1,qav,t)) (T.set ⟨G.wl,G.zl,by show t.length<=5000;omega⟩)
  rw[qrs T.t hr] at fin
  rfl'
  refine al _ _ _ ?_
  rfl'
  exact fin
 case n4 =>
 refine qdd (λb=>True) (λY y=>?t5) (λ_=>?y5) λ_=>?n5
 case t5 =>
  rfl'
  exact y _ trivial
 case y5 =>
  obtain⟨m,mm,hm⟩:=qhu (zs:=[qee,qcy,tEmpty,Str.ofString "File",Str.ofString "folders"]) (k:=drawn%5) (Int.emod_nonneg _ (by decide)) (Int.emod_lt_of_pos _ (by decide))
  have tm:trB m=false:=by
   simp only[List.mem_cons,List.not_mem_nil,or_false] at mm
   rcases mm with q|q|q|q|q<;>(rw[q];decide +kernel)
  refine qft ?_
  rfl'
  refine⟨by decide,.str m,hm,?_⟩
  rfl'
  refine⟨by decide,i,ixi,?_⟩
  have fin:=out (r.1,m,tEmpty) ⟨G.wl,G.zl,show tEmpty.length<=5000 by decide +kernel⟩ (.inr tm)
  rw[List.map_set] at fin
  exact fin
 case n5 =>
 refine qdd (λb=>True) (λY y=>?t6) (λ_=>?y6) λ_=>?n6
 case t6 =>
  rfl'
  exact y _ trivial
 case y6 =>
  refine qft ?_
  rfl'
  refine sb _ _ λt tl=>?_
  rfl'
  refine⟨Nat.le_trans (show _<=1000 by omega) qan,by decide,i,ixi,?_⟩
  have bad:fitB (qai,Str.ofString " " ++ t)=false:=by
   unfold fitB
   rw[decide_eq_false (show ¬ (qai,Str.ofString " " ++ t).2=tEmpty from λe=>?_)]
   ·rw[Bool.and_false,Bool.or_false,decide_eq_false (show ¬ (qai,Str.ofString " " ++ t).1=qav from Ne.symm mne.2.2.1),decide_eq_false (show ¬ (qai,Str.ofString " " ++ t).1=qb0 from Ne.symm mne.2.2.2.1)]
    rfl
   ·have:=congrArg (λy:Str=>y.length) e
    simp only[PySem.Str.length_append,sp1] at this
    have e2:(Str.ofString "").length=0:=by decide +kernel
    rw[e2] at this
    omega
  have fin:=out (r.1,qai,Str.ofString " " ++ t) ⟨G.wl,G.zl,by show (Str.ofString " " ++ t).length<=5000;rw[PySem.Str.length_append];omega⟩ (.inl (by unfold entB;rw[show fitB (r.1,qai,Str.ofString " " ++ t).2=false from bad,Bool.and_false]))
  rw[List.map_set] at fin
  exact fin
 case n6 =>
 refine qdd (λb=>True) (λY y=>?t7) (λ_=>?y7) λ_=>?n7
 case t7 =>
  rfl'
  exact y _ trivial
 case y7 =>
  refine qft ?_
  rfl'
  refine bt _ _ λt tl tw=>?_
  rfl'
  refine⟨by decide,i,ixi,?_⟩
  have bad:fitB (qb0,t)=false:=by
   unfold fitB
   rw[show (qbh (qb0,t).2).isSome=false from tw,Bool.and_false,Bool.or_false,decide_eq_false (show ¬ (qb0,t).1=qav from mne.2.2.2.2.2.2.2.2.2),decide_eq_false (show ¬ ((qb0,t).1=qai\/(qb0,t).1=qee\/(qb0,t).1=qcy) from λq=>by rcases q with q|q|q<;>exact absurd q (by show ¬ qb0=_;decide +kernel))]
   rfl
  have fin:=out (r.1,qb0,t) ⟨G.wl,G.zl,by show t.length<=5000;omega⟩ (.inl (by unfold entB;rw[show fitB (r.1,qb0,t).2=false from bad,Bool.and_false]))
  rw[List.map_set] at fin
  exact fin
 case n7 =>
 refine qdd (λb=>True) (λY y=>?t8) (λ_=>?y8) λ_=>?n8
 case t8 =>
  rfl'
  exact y _ trivial
 case y8 =>
  have q0:=Int.emod_nonneg (drawn / 11) (show (r.1.length:Int)≠0 by omega)
  have q1:=Int.emod_lt_of_pos (drawn / 11) (show (0:Int)<r.1.length by omega)
  obtain⟨j,hj⟩:∃j:Nat,drawn / 11%(r.1.length:Int)=(j:Int):=⟨(drawn / 11%(r.1.length:Int)).toNat,by omega⟩
  refine v_cut (λτ=>τ=[some (.own (.io c (p.map rowD))),some (.val (.int i)),some (.val (.int road)),some (.val (.int drawn)),some (.val (wayD r.1)),some (.val (.int j))]) ?_ λnx hnx=>?nwb
  case nwb =>
   dsimp! only[wayD]
   rw[hj]
   exact⟨by omega,hnx _ rfl⟩
  rintro τ rfl
  refine qft ?_
  dsimp! only[wayD]
  refine bn _ _ λz zl zn=>?_
  rfl'
  rw[show (j:Int)+1=((j+1:Nat):Int) by omega,qgb,qga]
  have ww:(r.1.take j++[z]++r.1.drop (j+1)).length<=100:=by
   rw[List.length_append,List.length_append,List.length_singleton,List.length_take,List.length_drop]
   omega
  refine⟨by decide,Nat.le_trans (show _<=1000 by rw[List.length_take];omega) qan,Nat.le_trans (show _<=1000 by rw[List.length_append,List.length_singleton,List.length_take,List.length_drop];omega) qan,rowD r,qez hr,?_⟩
  dsimp! only[rowD]
  refine⟨rowD r,qez hr,?_⟩
  dsimp! only[rowD]
  refine⟨by decide,i,ixi,?_⟩
  have bad:entB (r.1.take j++[z]++r.1.drop (j+1),r.2.1,r.2.2)=false:=by
   unfold entB
   rw[show (r.1.take j++[z]++r.1.drop (j+1),r.2.1,r.2.2).1.all nmB=false from List.all_eq_false.mpr ⟨z,by simp,by rw[zn];decide⟩,Bool.false_and]
  have fin:=out (r.1.take j++[z]++r.1.drop (j+1),r.2.1,r.2.2) ⟨ww,λy my=>by
   rcases List.mem_append.mp my with m|m
   ·rcases List.mem_append.mp m with m|m
    ·exact G.zl y (List.mem_of_mem_take m)
    ·rw[List.mem_singleton.mp m];omega
   ·exact G.zl y (List.mem_of_mem_drop m),G.tl⟩ (.inl bad)
  rw[List.map_set] at fin
  exact fin
 case n8 =>
  rfl'
  refine pu _ λp' G'=>?_
  rfl'
  exact h p' G'
def qi8:TVS:=(vSeq (vIfS (vBl (vOp vEq (qc0 0) (vLst vNil)))
  (qef (vC (.bl true)))
  qbj)
 (vSeq (vSet 2 (vOp vMod (qar qa8 (qae (vVar 1) (qae (vC (.int 2)) vNil))) (vF1 vLen (qc0 0))))
 (vSeq (vSet 3 (vOp vMod (qar qa8 (qae (vVar 1) (qae (vC (.int 0)) vNil))) (vC (.int 10))))
 (vSeq (vSet 4 (vOp vMod (qar qa8 (qae (vVar 1) (qae (vC (.int 3)) vNil))) (vOp vPow (vC (.int 10)) (vC (.int 30)))))
 (vSeq (vIfS (vBl (vOp vLt (vVar 3) (vC (.int 4))))
  (qgx qe6 0 (qae (vVar 2) (qae (vVar 3) (qae (vVar 4) vNil))))
  qbj)
 (qgx qd8 0 (qae (vVar 2) (qae (vVar 3) (qae (vVar 4) vNil)))))))))
abbrev qpd:List Str:=["_law_rows","_law_script","_law_spot","_law_road","_law_drawn"]
theorem qsj:∀ds ps c Q,qdf ds ps Q->qi8 (EnI 0 c Q) (qeh qpd 0 c ds ps):=by
 rintro ds ps c Q ⟨p,ns,rfl,rfl,T,h⟩
 have pl:=T.len
 have ca:∀(k:Int) (Y:R->Prop),0<=k->(∀i:Int,Y (.val (.int i)))->qa8 [.scr ns,.int k] Y:=λk Y hk y=>⟨ns,k,rfl,hk,y _⟩
 refine qdd (λb=>b=decide (p=[])) (λY y=>?t1) (λhb=>?y1) λhb=>?n1
 case t1 =>
  rfl'
  refine⟨qz0 p [],Nat.le_trans (qz4 p) (by decide),?_⟩
  have:=eqRL p []
  unfold qbd at this
  rw[show D.lst []=D.lst (([]:List Row).map rowD) from rfl,this]
  exact y _ rfl
 case y1 =>
  have fin:=h p T.rows
  rw[(qdv p).mpr T.t] at fin
  rfl'
  exact fin
 case n1 =>
 have p0:0<p.length:=List.length_pos_iff.mpr (of_decide_eq_false hb.symm)
 refine v_cut (λτ=>∃i:Nat,i<p.length/\τ=[some (.own (.io c (p.map rowD))),some (.val (.scr ns)),some (.val (.int i)),none,none]) ?_ λnx hnx=>?now
 case now =>
  rfl'
  refine ca _ _ (by decide) λi=>?_
  rfl'
  have q0:=Int.emod_nonneg i (show (p.length:Int)≠0 by omega)
  have q1:=Int.emod_lt_of_pos i (show (0:Int)<p.length by omega)
  obtain⟨j,hj⟩:∃j:Nat,i%(p.length:Int)=(j:Int):=⟨(i%(p.length:Int)).toNat,by omega⟩
  rw[hj]
  exact⟨by omega,hnx _ ⟨j,by omega,rfl⟩⟩
 rintro τ ⟨i,hi,rfl⟩
 refine v_cut (λτ=>∃k:Int,τ=[some (.own (.io c (p.map rowD))),some (.val (.scr ns)),some (.val (.int i)),some (.val (.int k)),none]) ?_ λnx hnx=>?nwb
 case nwb =>
  rfl'
  refine ca _ _ (by decide) λi=>?_
  rfl'
  exact hnx _ ⟨_,rfl⟩
 rintro τ ⟨road,rfl⟩
 refine v_cut (λτ=>∃d:Int,0<=d/\τ=[some (.own (.io c (p.map rowD))),some (.val (.scr ns)),some (.val (.int i)),some (.val (.int road)),some (.val (.int d))]) ?_ λnx hnx=>?nwc
 case nwc =>
  rfl'
  refine ca _ _ (by decide) λi=>?_
  rfl'
  exact⟨⟨by decide,by decide,by decide⟩,by decide,hnx _ ⟨_,Int.emod_nonneg _ (by decide),rfl⟩⟩
 rintro τ ⟨d,d0,rfl⟩
 have mv:∀Y:R->List D->Prop,(∀p',RowsG p'->Y (.val (.bl (qbv p'))) (p'.map rowD))->qe6 [.int i,.int road,.int d] (p.map rowD) Y:=λY y=>⟨p,i,road,d,rfl,rfl,T,hi,d0,y⟩
 have tu:∀Y:R->List D->Prop,(∀p',RowsG p'->Y (.val (.bl (qbv p'))) (p'.map rowD))->qd8 [.int i,.int road,.int d] (p.map rowD) Y:=λY y=>⟨p,i,road,d,rfl,rfl,T,hi,d0,y⟩
 refine qdd (λb=>True) (λY y=>?t2) (λ_=>?y2) λ_=>?n2
 case t2 =>
  rfl'
  exact y _ trivial
 case y2 =>
  rfl'
  refine mv _ λp' G'=>?_
  rfl'
  exact h p' G'
 case n2 =>
  rfl'
  refine tu _ λp' G'=>?_
  rfl'
  exact h p' G'
theorem dig7:∀k:Fin 121,(Str.ofString (toString ((k.val:Nat):Int))).length<=3/\∀c∈(Str.ofString (toString ((k.val:Nat):Int))).cps.toList,c∈NS.cps.toList:=by decide +kernel
theorem q28(ns:List Int):(cutL ns (some 1) (some 41)).length<=40:=by
 unfold cutL
 rw[show (some 1:Option Int)=some ((1:Nat):Int) from rfl,show (some 41:Option Int)=some ((41:Nat):Int) from rfl,HT.sIx_nat,HT.sIx_nat,List.length_take,List.length_drop]
 omega
theorem qy4{z t:Str}(hz:nmB z=true)(tl:t.length<=3)(tn:∀c∈t.cps.toList,c∈NS.cps.toList):nmB (Txt.slice z none (some 9)++t)=true:=by
 obtain⟨l1,l2⟩:=qdz hz
 have e:(Txt.slice z none (some 9)).cps.toList=z.cps.toList.take 9:=by rw[slice_list,show (some 9:Option Int)=some ((9:Nat):Int) from rfl,qgb]
 have zl:z.cps.toList.length=z.length:=rfl
 have tl2:t.cps.toList.length=t.length:=rfl
 unfold nmB nmL
 rw[app_list,e,List.length_append,List.length_take,decide_eq_true (by omega),decide_eq_true (by omega),List.all_eq_true.mpr λc m=>?_]
 ·rfl
 ·refine decide_eq_true ?_
  rcases List.mem_append.mp m with m|m
  ·unfold nmB nmL at hz
   rw[Bool.and_eq_true,List.all_eq_true] at hz
   exact of_decide_eq_true (hz.2 c (List.mem_of_mem_take m))
  ·exact tn c m
def qzy:TVS:=(vSeq (qhc 1 (qar qdh (qae (qc8 (vVar 0) (qen (vC (.int 1))) (qen (vC (.int 41)))) vNil)))
 (vSeq (vIfS (vBl (vOp vEq (vOp vMod (vOp vDiv (qar qa8 (qae (vVar 0) (qae (vC (.int 0)) vNil))) (vC (.int 10))) (vC (.int 5))) (vC (.int 3))))
  (vSeq (vSet 2 (qc8 (qar qam (qae (qar qa8 (qae (vVar 0) (qae (vC (.int 1)) vNil))) vNil)) qcd (qen (vC (.int 9)))))
 (vFor (qkm (vOp vMod (vOp vDiv (qar qa8 (qae (vVar 0) (qae (vC (.int 0)) vNil))) (vC (.int 50))) (vC (.int 121)))) (qbk 3)
  (vSd 1 (vTup (qae (vOp vAdd (vVar 2) (vF1 vStr (vVar 3))) vNil)) (vTup (qae (vC (.str ("file" : Str))) (qae (vF1 vStr (vVar 3)) vNil))))))
  qbj)
 (vSeq (vSet 4 (qfs (qdq (vF1 qff (vF1 qhx (vVar 1)))) (qbk 11) (λ_ Q=>Q true) (vOp vAdd (vTup (qae (vVar 11) vNil)) (qrz (vVar 1) (vVar 11))) 1))
 (vSeq (qhc 5 (vF1 qkk (vVar 4)))
 (vIo 5 (vSeq (qkn 6 qdf 5 (qae (vVar 0) vNil))
 (vSeq (vSet 7 (vF1 qkk (vVar 4)))
 (vSeq (vSet 8 (qar qci (qae (vVar 7) vNil)))
 (vSeq (vSet 9 (qar qci (qae (vF1 qkk (qc0 5)) vNil)))
 (vSeq (vSet 10 (qar qci (qae (vVar 7) vNil)))
 (vSeq (vIfS (vOrT (qfe (vBl (qkj .bool (vVar 8)))) (vOrT (qfe (vBl (qkj .bool (vVar 9)))) (qfe (vBl (qkj .bool (vVar 10))))))
  (vRet (vC (.bl false)))
  qbj)
 (vRet (qha (vVar 8) (qha (vVar 10) (qha (vOp vEq (vVar 9) (vVar 6)) (vOp vEq (vVar 7) (vVar 4)))))))))))))))))
abbrev q24:List Str:=["_law_script","_law_things","_law_stem","_law_k","_law_rows","_law_changed_here","_law_due","_law_handed","_law_first","_law_told","_law_again"]
theorem q4b:∀ds Q,qlf ds Q->qzy (En Q) (qba q24 ds):=by
 rintro ds Q ⟨ns,rfl,h⟩
 have ca:∀(k:Int) (Y:R->Prop),0<=k->(∀i:Int,Y (.val (.int i)))->qa8 [.scr ns,.int k] Y:=λk Y hk y=>⟨ns,k,rfl,hk,y _⟩
 have nb:∀(i:Int) (Y:R->Prop),(∀z:Str,nmB z=true->Y (.val (.str z)))->qam [.int i] Y:=λi Y y=>⟨i,rfl,y⟩
 refine v_cut (λτ=>∃rs:List Row,TInv rs/\rs.length<=40/\τ=[some (.val (.scr ns)),some (.own (qbr (rs.map prR))),none,none,none,none,none,none,none,none,none]) ?_ λnx hnx=>?now
 case now =>
  rfl'
  have tb:∀Y:R->Prop,(∀rs,TInv rs->rs.length<=40->Y (.own (qbr (rs.map prR))))->qdh [.lst ((cutL ns (some 1) (some 41)).map D.int)] Y:=λY y=>⟨_,rfl,q28 ns,y⟩
  refine tb _ λrs T rl=>?_
  rfl'
  exact hnx _ ⟨rs,T,rl,rfl⟩
 rintro τ ⟨rs,T,rl,rfl⟩
 refine v_cut (λτ=>∃(rs:List Row) (a b:Option R),TInv rs/\rs.length<=161/\τ=[some (.val (.scr ns)),some (.own (qbr (rs.map prR))),a,b,none,none,none,none,none,none,none]) ?_ λnx hnx=>?nwb
 case nwb =>
  refine v_if (λb=>True) (λY y=>?t1) (λ_=>?y1) λ_=>?n1
  case t1 =>
   rfl'
   refine ca _ _ (by decide) λi=>?_
   rfl'
   exact y _ trivial
  case y1 =>
   refine v_cut (λτ=>∃z:Str,nmB z=true/\τ=[some (.val (.scr ns)),some (.own (qbr (rs.map prR))),some (.val (.str (Txt.slice z none (some 9)))),none,none,none,none,none,none,none,none]) ?_ λnx2 hnx2=>?nwc
   case nwc =>
    rfl'
    refine ca _ _ (by decide) λi=>?_
    rfl'
    refine nb _ _ λz hz=>?_
    rfl'
    exact⟨Nat.le_trans (show _<=1000 by have:=(qdz hz).2;omega) qan,hnx2 _ ⟨z,hz,rfl⟩⟩
   rintro τ ⟨z,hz,rfl⟩
   have sl:(Txt.slice z none (some 9)).length<=z.length:=Txt.slice_le z _ _
   have zl:=(qdz hz).2
   rfl'
   refine ca _ _ (by decide) λi=>?_
   rfl'
   have q0:=Int.emod_nonneg (i / 50) (show (121:Int)≠0 by decide)
   have q1:=Int.emod_lt_of_pos (i / 50) (show (0:Int)<121 by decide)
   refine⟨by omega,by omega,qid (λj τ=>∃(rs:List Row) (b:Option R),TInv rs/\rs.length<=40+j/\τ=[some (.val (.scr ns)),some (.own (qbr (rs.map prR))),some (.val (.str (Txt.slice z none (some 9)))),b,none,none,none,none,none,none,none]) ⟨rs,none,T,by omega,rfl⟩ ?_ ?_⟩
   ·rintro j τ hj ⟨rs,b,T,rl,rfl⟩ nx3 hnx3
    obtain⟨d1,d2⟩:=dig7 ⟨j,by omega⟩
    simp only at d1 d2
    have nm:=qy4 hz d1 d2
    have ne:("" : Str)∉[Txt.slice z none (some 9)++Str.ofString (toString ((j:Nat):Int))]:=λm=>qxh nm (List.mem_singleton.mp m).symm
    have lg:(((j:Nat):Int)).natAbs.log2<1920:=by
     by_cases z:((j:Nat):Int).natAbs=0
     ·rw[z];decide
     ·exact Nat.lt_of_lt_of_le ((Nat.log2_lt z).mpr (show _<2 ^ 10 by omega)) (by decide)
    have lk:(lkP (rs.map prR) [Txt.slice z none (some 9)++Str.ofString (toString ((j:Nat):Int))]).isSome=decide ([Txt.slice z none (some 9)++Str.ofString (toString ((j:Nat):Int))]∈rs.map (·.1)):=by
     rw[qql,Option.isSome_map]
     exact(Option.isSome_map ..).symm.trans (qm8 rs _)
    dsimp! only[qbr]
    refine⟨lg,Nat.le_trans (show _<=1000 by omega) qan,by decide,[Txt.slice z none (some 9)++Str.ofString (toString ((j:Nat):Int))],rfl,ne,Nat.lt_of_lt_of_le (show _<1000 by omega) qan,lg,by decide,?_⟩
    rw[qet,lk]
    by_cases nw:[Txt.slice z none (some 9)++Str.ofString (toString ((j:Nat):Int))]∈rs.map (·.1)
    ·rw[if_pos (decide_eq_true nw)]
     exact hnx3 _ ⟨rs,_,T,by omega,rfl⟩
    ·rw[if_neg (by rw[decide_eq_false nw];decide),qe7]
     have e:insP (rs.map prR) [Txt.slice z none (some 9)++Str.ofString (toString ((j:Nat):Int))] (.tup [.str (Str.ofString "file"),.str (Str.ofString (toString ((j:Nat):Int)))])=(rs++[([Txt.slice z none (some 9)++Str.ofString (toString ((j:Nat):Int))],qav,Str.ofString (toString ((j:Nat):Int)))]).map prR:=by
      unfold insP
      rw[qss,if_neg nw,List.map_append]
      rfl
     rw[e]
     refine hnx3 _ ⟨_,_,T.add nw ⟨λy m=>?_,?_,?_,?_,?_,?_⟩ (.inl rfl),by rw[List.length_append,List.length_singleton];omega,rfl⟩
     ·rw[List.mem_singleton.mp m];exact nm
     ·show fitB (qav,_)=true
      unfold fitB
      rw[decide_eq_true (show (qav,Str.ofString (toString ((j:Nat):Int))).1=qav from rfl)]
      rfl
     ·show (Str.ofString (toString ((j:Nat):Int))).length<=1000
      omega
     ·show 1<=14
      decide
     ·simp
     ·show trB qav=true
      decide +kernel
   ·rintro τ ⟨rs,b,T,rl,rfl⟩
    exact hnx _ ⟨rs,_,b,T,by omega,rfl⟩
  case n1 =>
   exact hnx _ ⟨rs,none,none,T,by omega,rfl⟩
 clear T rl rs
 rintro τ ⟨rs,k2,k3,T,rl,rfl⟩
 refine v_cut (λτ=>∃p,TreeF p/\τ=[some (.val (.scr ns)),some (.own (qbr (rs.map prR))),k2,k3,some (.val (qbd p)),none,none,none,none,none,none]) ?_ λnx hnx=>?nwd
 case nwd =>
  dsimp! only[qbr]
  have ek:(((rs.map prR).map (·.1)).map λw=>D.tup (w.map D.str))=(rs.map (·.1)).map wayD:=by
   rw[List.map_map,List.map_map,List.map_map]
   rfl
  refine⟨?_,λds hp hs=>?_⟩
  ·rw[ek]
   exact qos T.nd
  ·rw[ek] at hp
   obtain⟨vs,rfl,hv,hso⟩:=qsr hp hs
   have hvl:vs.length=rs.length:=by rw[hv.length_eq,List.length_map]
   refine qd5 (λw=>rowD (w,lkR rs w)) vs (Nat.le_trans (show _<=1000 by omega) qan) (λw mw Y N hY=>?_) ?_
   ·have mw':=hv.mem_iff.mp mw
    dsimp! only[wayD]
    have wk:("" : Str)∉w:=by
     obtain⟨r,mr,er⟩:=List.mem_map.mp mw'
     rw[←er];exact(T.en r mr).ne
    exact⟨by decide,wk,thD (lkR rs w),by rw[qet];exact qw8 T.nd mw',by show 3<=sizeLine;decide,hY⟩
   ·rfl'
    have e:vs.map (λw=>rowD (w,lkR rs w))=(vs.map λw=>(w,lkR rs w)).map rowD:=by rw[List.map_map];rfl
    rw[e]
    obtain⟨p1,p2⟩:=qka T.nd hv hso
    exact hnx _ ⟨_,T.tree rl p1 p2,rfl⟩
 rintro τ ⟨p,F,rfl⟩
 refine v_cut (λτ=>τ=[some (.val (.scr ns)),some (.own (qbr (rs.map prR))),k2,k3,some (.val (qbd p)),some (.own (qbd p)),none,none,none,none,none]) ?_ λnx hnx=>?nwe
 case nwe =>
  dsimp! only[qbd]
  exact hnx _ rfl
 rintro τ rfl
 intro c
 show vSeq _ _ _ [some (.val (.scr ns)),some (.own (qbr (rs.map prR))),k2,k3,some (.val (qbd p)),some (.own (.io c (p.map rowD))),none,none,none,none,none]
 refine v_cut (λτ=>∃o:List Row,RowsG o/\τ=[some (.val (.scr ns)),some (.own (qbr (rs.map prR))),k2,k3,some (.val (qbd p)),some (.own (.io c (o.map rowD))),some (.val (.bl (qbv o))),none,none,none,none]) ?_ λnx hnx=>?nwf
 case nwf =>
  have ch:∀Y:R->List D->Prop,(∀p',RowsG p'->Y (.val (.bl (qbv p'))) (p'.map rowD))->qdf [.scr ns] (p.map rowD) Y:=λY y=>⟨p,ns,rfl,rfl,F,y⟩
  rfl'
  refine ch _ λo G=>?_
  rfl'
  exact hnx _ ⟨o,G,rfl⟩
 rintro τ ⟨o,G,rfl⟩
 refine v_cut (λτ=>τ=[some (.val (.scr ns)),some (.own (qbr (rs.map prR))),k2,k3,some (.val (qbd p)),some (.own (.io c (o.map rowD))),some (.val (.bl (qbv o))),some (.val (qbd p)),none,none,none]) ?_ λnx hnx=>?nwg
 case nwg =>
  dsimp! only[qbd]
  exact hnx _ rfl
 rintro τ rfl
 have it:∀(ts:List Row) (Y:R->Prop),RowsG ts->Y (.val (.bl (qbv ts)))->qci [qbd ts] Y:=λts Y t1 y=>⟨ts,rfl,t1,y⟩
 have pt:=(qdv p).mpr F.t
 refine v_cut (λτ=>τ=[some (.val (.scr ns)),some (.own (qbr (rs.map prR))),k2,k3,some (.val (qbd p)),some (.own (.io c (o.map rowD))),some (.val (.bl (qbv o))),some (.val (qbd p)),some (.val (.bl true)),none,none]) ?_ λnx hnx=>?nwh
 case nwh =>
  rfl'
  refine it p _ F.rows ?_
  rw[pt]
  rfl'
  exact hnx _ rfl
 rintro τ rfl
 refine v_cut (λτ=>τ=[some (.val (.scr ns)),some (.own (qbr (rs.map prR))),k2,k3,some (.val (qbd p)),some (.own (.io c (o.map rowD))),some (.val (.bl (qbv o))),some (.val (qbd p)),some (.val (.bl true)),some (.val (.bl (qbv o))),none]) ?_ λnx hnx=>?nwi
 case nwi =>
  rfl'
  refine it o _ G ?_
  rfl'
  exact hnx _ rfl
 rintro τ rfl
 refine v_cut (λτ=>τ=[some (.val (.scr ns)),some (.own (qbr (rs.map prR))),k2,k3,some (.val (qbd p)),some (.own (.io c (o.map rowD))),some (.val (.bl (qbv o))),some (.val (qbd p)),some (.val (.bl true)),some (.val (.bl (qbv o))),some (.val (.bl true))]) ?_ λnx hnx=>?nwj
 case nwj =>
  rfl'
  refine it p _ F.rows ?_
  rw[pt]
  rfl'
  exact hnx _ rfl
 rintro τ rfl
 refine qdd (λb=>b=false) (λY y=>?t1) (λhb=>absurd hb (by decide)) λ_=>?n1
 case t1 =>
  rfl'
  exact y _ rfl
 case n1 =>
  rfl'
  refine⟨by cases qbv o<;>rfl,by cases qbv o<;>decide,?_⟩
  refine ifT (qd6 _) ⟨qz0 p p,Nat.le_trans (qz4 p) (by decide),?_⟩
  rw[qd6]
  exact h
theorem q0o{K:PySem.W.Frag}{H:Hp}{a:Addr}(ns:List Int)(_:ns.length<=63)(hS:SqL K H a (ns.map V.int)){E:XK}:spOf K qlf [.ref a] H (λv _=>v=.bl true) E:=quk ⟨ns,rfl,rfl⟩ hS
def top(i:Nat):Stmt:=PySem.Challenge.pw_glasslayers_k07_is_tree.main.body.getD i (.Pass ⟨0,0,0,0⟩)
abbrev qcz:Stmt:=top 6
abbrev qe9:Stmt:=top 8
abbrev qdl:Stmt:=top 11
abbrev qcc:Stmt:=top 12
abbrev qbp:Stmt:=top 15
abbrev qhr:Stmt:=top 16
abbrev qb9:Stmt:=top 17
abbrev qa4:Stmt:=top 18
abbrev qdk:Stmt:=top 21
abbrev qdi:Stmt:=top 23
abbrev qdm:Stmt:=top 24
abbrev qcu:Stmt:=top 25
abbrev qdn:Stmt:=top 26
abbrev qdo:Stmt:=top 27
abbrev qcr:Stmt:=top 28
abbrev qcs:Stmt:=top 29
abbrev qfa:Stmt:=top 30
abbrev qfb:Stmt:=top 31
abbrev qca:Stmt:=top 32
abbrev qec:Stmt:=top 33
abbrev qdj:Stmt:=top 34
abbrev qg8:Stmt:=top 35
structure Blt(K:PySem.W.Frag)(mg:Str->Option Value)(cNoWay:Addr):Prop where
 NoWay:mg "NoWay" = some (.ref cNoWay)
 k_NoWay:clsOf K "NoWay" cNoWay
 x_NoWay:OwnX K cNoWay
 m_NoWay_NoWay:PySem.W.exmOne K (.ref cNoWay) (.ref cNoWay)=some true
 all:mg "all" = none
 bool:mg "bool" = none
 isinstance:mg "isinstance" = none
 len:mg "len" = none
 list:mg "list" = none
 range:mg "range" = none
 sorted:mg "sorted" = none
 str:mg "str" = none
 zip:mg "zip" = none
 g_NAME_SIGNS:∃t,mg "NAME_SIGNS" = some (Value.str ("abcdefghijklmnopqrstuvwxyz0123456789" : Str) t)
 g_LONGEST_NAME:∃t,mg "LONGEST_NAME" = some (Value.int 12 t)
 g_MOST_WORDS:∃t,mg "MOST_WORDS" = some (Value.int 40 t)
 g_BARE_MARKS:∃ad,mg "BARE_MARKS" = some (.ref ad)/\SqT K (λ_=>none) ad ([("folder" : Str),("gone" : Str),("shut" : Str)].map V.str)
 g_TREE_MARKS:∃ad,mg "TREE_MARKS" = some (.ref ad)/\SqT K (λ_=>none) ad ([("file" : Str),("link" : Str),("folder" : Str)].map V.str)
section
variable {P:Program} {w:World} {K:PySem.W.Frag} {mg:Str->Option Value} {base:Heap} {f:Addr} {fd:FuncData} {cNoWay:Addr}
theorem sc_name_by:FnScope ["_law_cell","_law_some","_law_drawn","_law_mixed","_law_free","_law_signs","_law_k"] ["_law_cell"] (qab qdm):=⟨rfl,rfl,rfl,by decide +kernel,rfl,by decide +kernel,by decide +kernel⟩
theorem qoi(F:Fun K "_law_name_by" "_law_name_by" qdm f fd)(B:Blt K mg cNoWay):FnOk P w K mg base CX0 1 f fd ["_law_cell"] (spOf K qam) :=
 F.okV sc_name_by qlo λcdv A outer s H E hr=>⟨qja,(qaa (qas (i:=1) sc_name_by.nd rfl (Or.inl rfl) qah)
  (qaa (qas (i:=2) sc_name_by.nd rfl (Or.inl rfl) (qaj qa5 (vv 0) (qaj qsc qad qad)))
  (qaa (qas (i:=3) sc_name_by.nd rfl (Or.inl rfl) (qaj qr9 (vv 2) qad))
  (qaa (qas (i:=4) sc_name_by.nd rfl (Or.inl rfl) (qaj qa5 (qaj qc2 (qaj qa5 (vv 3) qad) qad) qad))
  (qaa (qg0 (i:=5) sc_name_by.nd rfl (Or.inl rfl) (qkr qag))
  (qaa (qgz PassesOwn.never rfl (qi3 rfl B.range (qaj qax qad (qaj qa5 (vv 2) qad))) (qbf (i:=6) sc_name_by.nd rfl (Or.inl rfl))
   (qaa (qsd 5 (qbx qa1 (vv 1) (qaj qa5 (vv 3) qad)))
  (qaf (qas (i:=3) sc_name_by.nd rfl (Or.inl rfl) (qaj qc2 (vv 3) (qaj qax qad (qaj qr9 qad (vv 4))))))))
  (qaa (qbw (qay (qb3 hr.units) (vv 4) qad)
   (qaf (qzk 5 (qaj qa5 (qaj qc2 (vv 2) qad) (qc5 qck rfl B.len PyProof.Rows.Boot.«len» (vv 5))) (qbx qa1 (vv 1) (qaj qa5 (qaj qc2 (vv 2) qad) qad))))
   qap)
  (qaf (qaz (qmi qah (vv 5))))))))))),qsn⟩
theorem sc_signs_by:FnScope ["_law_cell","_law_some","_law_kept","_law_text","_law_k"] ["_law_cell"] (qab qcu):=⟨rfl,rfl,rfl,by decide +kernel,rfl,by decide +kernel,by decide +kernel⟩
theorem ql2(F:Fun K "_law_signs_by" "_law_signs_by" qcu f fd)(B:Blt K mg cNoWay):FnOk P w K mg base CX0 1 f fd ["_law_cell"] (spOf K qbi) :=
 F.okV sc_signs_by qjx λcdv A outer s H E hr=>⟨qhg,(qaa (qas (i:=1) sc_signs_by.nd rfl (Or.inl rfl) qah)
  (qaa (qas (i:=1) sc_signs_by.nd rfl (Or.inl rfl) (qaj qax (vv 1) qah))
  (qaa (qas (i:=2) sc_signs_by.nd rfl (Or.inl rfl) (qaj qa5 (vv 0) (qaj qsc qad qad)))
  (qaa (qas (i:=3) sc_signs_by.nd rfl (Or.inl rfl) qah)
  (qaa (qgz PassesOwn.never rfl (qi3 rfl B.range (qaj qa5 (vv 2) qad)) (qbf (i:=4) sc_signs_by.nd rfl (Or.inl rfl))
   (qaa (qas (i:=3) sc_signs_by.nd rfl (Or.inl rfl) (qaj qax (vv 3) (qbx qa1 (vv 1) (qaj qa5 (vv 2) qad))))
  (qaf (qas (i:=2) sc_signs_by.nd rfl (Or.inl rfl) (qaj qax (qaj qc2 (vv 2) qad) (vv 4))))))
  (qaf (qaz (vv 3)))))))),qo8⟩
theorem qoq:FnScope ["_law_mark","_law_cell"] ["_law_mark","_law_cell"] (qab qdn):=⟨rfl,rfl,rfl,by decide +kernel,rfl,by decide +kernel,by decide +kernel⟩
theorem qoj(F:Fun K "_law_text_by" "_law_text_by" qdn f fd)(B:Blt K mg cNoWay)(Csigns_by:Cal P w K mg base 1 "_law_signs_by" ["_law_cell"] (spOf K qbi))(Cname_by:Cal P w K mg base 1 "_law_name_by" ["_law_cell"] (spOf K qam)):FnOk P w K mg base CX0 2 f fd ["_law_mark","_law_cell"] (spOf K qdg) :=
 F.okV qoq qlp λcdv A outer s H E hr=>⟨qjb,(qaa (qbw (qay (qb3 hr.units) (vv 0) qah)
   (qaf (qaz (qaw Csigns_by (hr.mono (by decide)) rfl (vac (vv 1) qag))))
   qap)
  (qaa (qbw (vw_t (qkv (qay (qb3 hr.units) (vv 0) qah) (qg3 (qay (qb3 hr.units) (qaj qa5 (vv 1) qad) qad))))
   (qaf (qaz (qmi qah (qaj qsa (qkr (vac qah qag)) (qaj qax qad (qaj qa5 (qaj qc2 (vv 1) qad) qad))))))
   qap)
  (qaa (qbw (qay (qb3 hr.units) (vv 0) qah)
   (qaf (qaz (qbx qa1 (qbb (vac qah (vac (qaj qax qah (qaw Cname_by (hr.mono (by decide)) rfl (vac (vv 1) qag))) (vac (qaj qax qah (qaw Cname_by (hr.mono (by decide)) rfl (vac (vv 1) qag))) qag)))) (qaj qa5 (qaj qc2 (vv 1) qad) qad))))
   qap)
  (qaf (qaz qah))))),qso⟩
theorem sc_tree_by:FnScope ["_law_cells","_law_things","_law_stood","_law_cell","_law_step","_law_way","_law_mark"] ["_law_cells"] (qab qdo):=⟨rfl,rfl,rfl,by decide +kernel,rfl,by decide +kernel,by decide +kernel⟩
theorem qok(F:Fun K "_law_tree_by" "_law_tree_by" qdo f fd)(B:Blt K mg cNoWay)(Cname_by:Cal P w K mg base 1 "_law_name_by" ["_law_cell"] (spOf K qam))(Ctext_by:Cal P w K mg base 2 "_law_text_by" ["_law_mark","_law_cell"] (spOf K qdg)):FnOk P w K mg base CX0 3 f fd ["_law_cells"] (spOf K qdh) :=
 F.okV sc_tree_by qlq λcdv A outer s H E hr=>⟨qf7,(qaa (qg0 (i:=1) sc_tree_by.nd rfl (Or.inl rfl) qut)
  (qaa (qas (i:=2) sc_tree_by.nd rfl (Or.inl rfl) (qbb qag))
  (qaa (qgz PassesOwn.never rfl (qfp (vv 0)) (qbf (i:=3) sc_tree_by.nd rfl (Or.inl rfl))
   (qaa (qgz PassesOwn.never rfl (qi3 rfl B.range (qaj qa5 (vv 3) qad)) (qbf (i:=4) sc_tree_by.nd rfl (Or.inl rfl))
   (qaf (qas (i:=2) sc_tree_by.nd rfl (Or.inl rfl) (qcg (vv 2) qdx (qc3 (qr5 qad))))))
  (qaa (qas (i:=5) sc_tree_by.nd rfl (Or.inl rfl) (qaj qax (vv 2) (qbb (vac (qaw Cname_by (hr.mono (by decide)) rfl (vac (qaj qc2 (vv 3) qad) qag)) qag))))
  (qaa (qas (i:=6) sc_tree_by.nd rfl (Or.inl rfl) (qbx qa1 (qbb (vac qah (vac qah (vac qah (vac qah qag))))) (qaj qa5 (qaj qc2 (qaj qr9 (vv 3) qad) qad) qad)))
  (qaf (qbw (vw_t (qkv (qku hr.dict (vv 5) (vv 1)) (qg3 (qay quy (qc5 qck rfl B.len PyProof.Rows.Boot.«len» (vv 5)) qad))))
   (qaa (qse 1 hr.dict (vv 5) (qbb (vac (vv 6) (vac (qaw Ctext_by (hr.mono (by decide)) rfl (vac (vv 6) (vac (qaj qc2 (vv 3) qad) qag))) qag))))
  (qaf (qbw (qay (qb3 hr.units) (vv 6) qah)
   (qaf (qas (i:=2) sc_tree_by.nd rfl (Or.inl rfl) (vv 5)))
   qap)))
   qap))))))
  (qaf (qzi 1))))),qsp⟩
theorem qon:FnScope ["_law_script","_law_k"] ["_law_script","_law_k"] (qab qdi):=⟨rfl,rfl,rfl,by decide +kernel,rfl,by decide +kernel,by decide +kernel⟩
theorem qod(F:Fun K "_law_cell_at" "_law_cell_at" qdi f fd)(B:Blt K mg cNoWay):FnOk P w K mg base CX0 1 f fd ["_law_script","_law_k"] (spOf K qa8) :=
 F.okV qon qlj λcdv A outer s H E hr=>⟨qf3,(qaa (qbw (qay quy (vv 1) (qc5 qck rfl B.len PyProof.Rows.Boot.«len» (vv 0)))
   (qaf (qaz (qbx qa1 (vv 0) (vv 1))))
   qap)
  (qaf (qaz qad))),qsi⟩
theorem sc_alone:FnScope ["_law_rows","_law_way","_law_row"] ["_law_rows","_law_way"] (qab qfa):=⟨rfl,rfl,rfl,by decide +kernel,rfl,by decide +kernel,by decide +kernel⟩
theorem qtn(F:Fun K "_law_alone" "_law_alone" qfa f fd)(B:Blt K mg cNoWay):FnOk P w K mg base CX0 1 f fd ["_law_rows","_law_way"] (spOf K qdt) :=
 F.okV sc_alone qqj λcdv A outer s H E hr=>⟨qpp,(qaa (qgz PassesOwn.never rfl (qfp (vv 0)) (qbf (i:=2) sc_alone.nd rfl (Or.inl rfl))
   (qaf (qbw (vw_t (qkv (qay qze (qc5 qck rfl B.len PyProof.Rows.Boot.«len» (qbx qa1 (vv 2) qad)) (qc5 qck rfl B.len PyProof.Rows.Boot.«len» (vv 1))) (qg3 (qay (qb3 hr.units) (qcg (qbx qa1 (vv 2) qad) qdx (qc3 (qc5 qck rfl B.len PyProof.Rows.Boot.«len» (vv 1)))) (vv 1)))))
   (qaf (qaz qc1))
   qap)))
  (qaf (qaz qc1))),qzm⟩
theorem sc_moved:FnScope ["_law_rows","_law_spot","_law_road","_law_drawn","_law_other","_law_kept","_law_way"] ["_law_rows","_law_spot","_law_road","_law_drawn"] (qab qfb):=⟨rfl,rfl,rfl,by decide +kernel,rfl,by decide +kernel,by decide +kernel⟩
theorem qto(F:Fun K "_law_moved" "_law_moved" qfb f fd)(B:Blt K mg cNoWay)(Calone:Cal P w K mg base 1 "_law_alone" ["_law_rows","_law_way"] (spOf K qdt)):FnOk P w K mg base CX0 2 f fd ["_law_rows","_law_spot","_law_road","_law_drawn"] (qfr K qe6 0) :=
 F.okI (k:=0) sc_moved qqk λcdv A outer s H E hr=>⟨qpq,(qaa (qbw (vw_t (qkv (qay (qb3 hr.units) (vv 2) qad) (qg3 (qay qze (qc5 qck rfl B.len PyProof.Rows.Boot.«len» (vvI 0)) qad))))
   (qaa (qas (i:=4) sc_moved.nd rfl (Or.inl rfl) (qaj qa5 (qaj qax (qaj qax (vv 1) qad) (qaj qa5 (vv 3) (qaj qv6 (qc5 qck rfl B.len PyProof.Rows.Boot.«len» (vvI 0)) qad))) (qc5 qck rfl B.len PyProof.Rows.Boot.«len» (vvI 0))))
  (qaa (qas (i:=5) sc_moved.nd rfl (Or.inl rfl) (qbx qa1 (vvI 0) (vv 4)))
  (qaa (qdy 0 (vv 4) (qbx qa1 (vvI 0) (vv 1)))
  (qaa (qdy 0 (vv 1) (vv 5))
  (qaf (qcj qc1))))))
   qap)
  (qaa (qbw (qay (qb3 hr.units) (vv 2) qad)
   (qaa (qfi 0 (vac (qaj qa5 (vv 3) (qaj qax (qc5 qck rfl B.len PyProof.Rows.Boot.«len» (vvI 0)) qad)) (vac (qbx qa1 (vvI 0) (vv 1)) qag)))
  (qaf (qcj qc1)))
   qap)
  (qaa (qbw (qay (qb3 hr.units) (vv 2) qad)
   (qaa (qu0 (j:=6) (i:=0) sc_moved.nd rfl (Or.inl rfl) (vv 1))
  (qaf (qcj (qnr 0 (qaw Calone (hr.mono (by decide)) rfl (vac (vv 0) (vac (vv 6) qag)))))))
   qap)
  (qaa (qfi 0 (vac qad (vac (qbb (vac (qbb qag) (vac (qbx qa1 (qbb (vac qah (vac qah qag))) (qaj qa5 (vv 3) qad)) (vac qah qag)))) qag)))
  (qaf (qcj qc1)))))),qzn⟩
theorem sc_bad_text:FnScope ["_law_cell","_law_name","_law_some"] ["_law_cell"] (qab qcs):=⟨rfl,rfl,rfl,by decide +kernel,rfl,by decide +kernel,by decide +kernel⟩
theorem ql0(F:Fun K "_law_bad_text" "_law_bad_text" qcs f fd)(B:Blt K mg cNoWay)(Cname_by:Cal P w K mg base 1 "_law_name_by" ["_law_cell"] (spOf K qam)):FnOk P w K mg base CX0 2 f fd ["_law_cell"] (spOf K qco) :=
 F.okV sc_bad_text qju λcdv A outer s H E hr=>⟨qhf,(qaa (qas (i:=1) sc_bad_text.nd rfl (Or.inl rfl) (qaw Cname_by (hr.mono (by decide)) rfl (vac (qaj qc2 (vv 0) qad) qag)))
  (qaa (qas (i:=2) sc_bad_text.nd rfl (Or.inl rfl) (qbb (vac qah (vac (qaj qax (vv 1) qah) (vac (qaj qax qah (vv 1)) (vac (qaj qax (qaj qax (vv 1) qah) (vv 1)) (vac qah (vac (qaj qax (vv 1) qah) (vac (qaj qax (qaj qax qah (vv 1)) qah) (vac (qaj qax (vv 1) (qaj qsb qah qad)) qag))))))))))
  (qaa (qbw (qay (qb3 hr.units) (qaj qa5 (vv 0) qad) qad)
   (qaf (qaz (qaj qax qah (qmi qah (qaj qsa (qkr (vac qah qag)) qad)))))
   qap)
  (qaf (qaz (qbx qa1 (vv 2) (qaj qa5 (vv 0) qad))))))),qo6⟩
theorem sc_bad_name:FnScope ["_law_cell","_law_name","_law_some"] ["_law_cell"] (qab qcr):=⟨rfl,rfl,rfl,by decide +kernel,rfl,by decide +kernel,by decide +kernel⟩
theorem qlz(F:Fun K "_law_bad_name" "_law_bad_name" qcr f fd)(B:Blt K mg cNoWay)(Cname_by:Cal P w K mg base 1 "_law_name_by" ["_law_cell"] (spOf K qam)):FnOk P w K mg base CX0 2 f fd ["_law_cell"] (spOf K qcn) :=
 F.okV sc_bad_name qjt λcdv A outer s H E hr=>⟨qhe,(qaa (qas (i:=1) sc_bad_name.nd rfl (Or.inl rfl) (qaw Cname_by (hr.mono (by decide)) rfl (vac (qaj qc2 (vv 0) qad) qag)))
  (qaa (qas (i:=2) sc_bad_name.nd rfl (Or.inl rfl) (qbb (vac qah (vac (qaj qax (vv 1) (qaj qsb qah (qaj qv6 qad (qc5 qck rfl B.len PyProof.Rows.Boot.«len» (vv 1))))) (vac (qaj qax (vv 1) qah) (vac qah (vac (qaj qax (qcg (vv 1) qdx (qc3 (qr5 qad))) qah) (vac (qaj qax qah (vv 1)) (vac (qaj qax (vv 1) qah) (vac qah (vac qah qag)))))))))))
  (qaf (qaz (qbx qa1 (vv 2) (qaj qa5 (vv 0) qad)))))),qo5⟩
theorem sc_put_under:FnScope ["_law_rows","_law_spot","_law_drawn","_law_way","_law_row","_law_good","_law_at"] ["_law_rows","_law_spot","_law_drawn"] (qab qca):=⟨rfl,rfl,rfl,by decide +kernel,rfl,by decide +kernel,by decide +kernel⟩
theorem qj2(F:Fun K "_law_put_under" "_law_put_under" qca f fd)(B:Blt K mg cNoWay)(Cname_by:Cal P w K mg base 1 "_law_name_by" ["_law_cell"] (spOf K qam)):FnOk P w K mg base CX0 2 f fd ["_law_rows","_law_spot","_law_drawn"] (qfr K qb5 0) :=
 F.okI (k:=0) sc_put_under qig λcdv A outer s H E hr=>⟨qf6,(qaa (qas (i:=3) sc_put_under.nd rfl (Or.inl rfl) (qaj qax (qbx qa1 (qbx qa1 (vvI 0) (vv 1)) qad) (qbb (vac (qaw Cname_by (hr.mono (by decide)) rfl (vac (vv 2) qag)) qag))))
  (qaa (qzh 0 PassesOwn.never rfl (qbf (i:=4) sc_put_under.nd rfl (Or.inl rfl))
   (qaf (qbw (qay (qb3 hr.units) (qbx qa1 (vv 4) qad) (vv 3))
   (qaf (qcj qc1))
   qap)))
  (qaa (qas (i:=5) sc_put_under.nd rfl (Or.inl rfl) (qfo (qb3 hr.units) (qbx qa1 (qbx qa1 (vvI 0) (vv 1)) qad) qah))
  (qaa (qas (i:=6) sc_put_under.nd rfl (Or.inl rfl) qad)
  (qaa (qu3 PassesOwn.never (vw_t (qkv (qay quy (vv 6) (qc5 qck rfl B.len PyProof.Rows.Boot.«len» (vvI 0))) (qg3 (qay (qv5 hr.units) (qbx qa1 (qbx qa1 (vvI 0) (vv 6)) qad) (vv 3)))))
   (qaf (q2y (i:=6) sc_put_under.nd rfl (Or.inl rfl) qad)))
  (qaa (qfi 0 (vac (vv 6) (vac (qbb (vac (vv 3) (vac qah (vac qah qag)))) qag)))
  (qaf (qcj (vv 5))))))))),qmn⟩
theorem sc_turned:FnScope ["_law_rows","_law_spot","_law_road","_law_drawn","_law_way","_law_at"] ["_law_rows","_law_spot","_law_road","_law_drawn"] (qab qec):=⟨rfl,rfl,rfl,by decide +kernel,rfl,by decide +kernel,by decide +kernel⟩
theorem qq2(F:Fun K "_law_turned" "_law_turned" qec f fd)(B:Blt K mg cNoWay)(Csigns_by:Cal P w K mg base 1 "_law_signs_by" ["_law_cell"] (spOf K qbi))(Calone:Cal P w K mg base 1 "_law_alone" ["_law_rows","_law_way"] (spOf K qdt))(Cbad_text:Cal P w K mg base 2 "_law_bad_text" ["_law_cell"] (spOf K qco))(Cbad_name:Cal P w K mg base 2 "_law_bad_name" ["_law_cell"] (spOf K qcn))(Cput_under:Cal P w K mg base 2 "_law_put_under" ["_law_rows","_law_spot","_law_drawn"] (qfr K qb5 0)):FnOk P w K mg base CX0 3 f fd ["_law_rows","_law_spot","_law_road","_law_drawn"] (qfr K qd8 0) :=
 F.okI (k:=0) sc_turned qn7 λcdv A outer s H E hr=>⟨qmr,(qaa (qas (i:=4) sc_turned.nd rfl (Or.inl rfl) (qbx qa1 (qbx qa1 (vvI 0) (vv 1)) qad))
  (qaa (qbw (qay (qb3 hr.units) (vv 2) qad)
   (qaa (qdy 0 (vv 1) (qbb (vac (vv 4) (vac qah (vac (qaw Csigns_by (hr.mono (by decide)) rfl (vac (vv 3) qag)) qag)))))
  (qaf (qcj (qnr 0 (qaw Calone (hr.mono (by decide)) rfl (vac (vv 0) (vac (vv 4) qag)))))))
   qap)
  (qaa (qbw (qay (qb3 hr.units) (vv 2) qad)
   (qaa (qdy 0 (vv 1) (qbb (vac (vv 4) (vac (qbx qa1 (qbb (vac qah (vac qah (vac qah (vac qah (vac qah qag)))))) (qaj qa5 (vv 3) qad)) (vac qah qag)))))
  (qaf (qcj qc1)))
   qap)
  (qaa (qbw (qay (qb3 hr.units) (vv 2) qad)
   (qaa (qdy 0 (vv 1) (qbb (vac (vv 4) (vac qah (vac (qaj qax qah (qaw Csigns_by (hr.mono (by decide)) rfl (vac (vv 3) qag))) qag)))))
  (qaf (qcj qc1)))
   qap)
  (qaa (qbw (qay (qb3 hr.units) (vv 2) qad)
   (qaa (qdy 0 (vv 1) (qbb (vac (vv 4) (vac qah (vac (qaw Cbad_text (hr.mono (by decide)) rfl (vac (vv 3) qag)) qag)))))
  (qaf (qcj qc1)))
   qap)
  (qaa (qbw (qay (qb3 hr.units) (vv 2) qad)
   (qaa (qas (i:=5) sc_turned.nd rfl (Or.inl rfl) (qaj qa5 (qaj qc2 (vv 3) qad) (qc5 qck rfl B.len PyProof.Rows.Boot.«len» (vv 4))))
  (qaa (qdy 0 (vv 1) (qbb (vac (qaj qax (qaj qax (qcg (vv 4) qdx (qc3 (vv 5))) (qbb (vac (qaw Cbad_name (hr.mono (by decide)) rfl (vac (vv 3) qag)) qag))) (qcg (vv 4) (qc3 (qaj qax (vv 5) qad)) qdx)) (vac (qbx qa1 (qbx qa1 (vvI 0) (vv 1)) qad) (vac (qbx qa1 (qbx qa1 (vvI 0) (vv 1)) qad) qag)))))
  (qaf (qcj qc1))))
   qap)
  (qaf (qi4 Cput_under (hr.mono (by decide)) rfl (qfz 0 (vac (vv 1) (vac (vv 3) qag))))))))))),qu5⟩
theorem sc_changed:FnScope ["_law_rows","_law_script","_law_spot","_law_road","_law_drawn"] ["_law_rows","_law_script"] (qab qdj):=⟨rfl,rfl,rfl,by decide +kernel,rfl,by decide +kernel,by decide +kernel⟩
theorem qoe(F:Fun K "_law_changed" "_law_changed" qdj f fd)(B:Blt K mg cNoWay)(Ccell_at:Cal P w K mg base 1 "_law_cell_at" ["_law_script","_law_k"] (spOf K qa8))(Cmoved:Cal P w K mg base 2 "_law_moved" ["_law_rows","_law_spot","_law_road","_law_drawn"] (qfr K qe6 0))(Cturned:Cal P w K mg base 3 "_law_turned" ["_law_rows","_law_spot","_law_road","_law_drawn"] (qfr K qd8 0)):FnOk P w K mg base CX0 4 f fd ["_law_rows","_law_script"] (qfr K qdf 0) :=
 F.okI (k:=0) sc_changed qlk λcdv A outer s H E hr=>⟨qi8,(qaa (qbw (qay (qb3 hr.units) (vvI 0) (qkr qag))
   (qaf (qcj qc1))
   qap)
  (qaa (qas (i:=2) sc_changed.nd rfl (Or.inl rfl) (qaj qa5 (qaw Ccell_at (hr.mono (by decide)) rfl (vac (vv 1) (vac qad qag))) (qc5 qck rfl B.len PyProof.Rows.Boot.«len» (vvI 0))))
  (qaa (qas (i:=3) sc_changed.nd rfl (Or.inl rfl) (qaj qa5 (qaw Ccell_at (hr.mono (by decide)) rfl (vac (vv 1) (vac qad qag))) qad))
  (qaa (qas (i:=4) sc_changed.nd rfl (Or.inl rfl) (qaj qa5 (qaw Ccell_at (hr.mono (by decide)) rfl (vac (vv 1) (vac qad qag))) (qaj qsc qad qad)))
  (qaa (qbw (qay quy (vv 3) qad)
   (qaf (qi4 Cmoved (hr.mono (by decide)) rfl (qfz 0 (vac (vv 2) (vac (vv 3) (vac (vv 4) qag))))))
   qap)
  (qaf (qi4 Cturned (hr.mono (by decide)) rfl (qfz 0 (vac (vv 2) (vac (vv 3) (vac (vv 4) qag))))))))))),qsj⟩
theorem qoo:FnScope ["thing"] ["thing"] (qab qcz):=⟨rfl,rfl,rfl,by decide +kernel,rfl,by decide +kernel,by decide +kernel⟩
theorem qf9:CompScope (qab qcz) ["thing"] ["thing","sign"] ["sign"] ({ kind:=PySem.ScopeKind.function,names:=[ (PySem.Str.ofString ".0",PySem.NameKind.local),(PySem.Str.ofString "sign",PySem.NameKind.local),(PySem.Str.ofString "NAME_SIGNS",PySem.NameKind.globalImplicit)],isGenerator:=false,isCoroutine:=false,more:=[]:PySem.Scope }):=⟨rfl,by decide +kernel,by decide +kernel,by decide +kernel,by decide +kernel,rfl,by decide +kernel⟩
theorem qof(F:Fun K "is_name" "is_name" qcz f fd)(B:Blt K mg cNoWay):FnOk P w K mg base CX0 1 f fd ["thing"] (spOf K qbz) :=
 F.okV qoo qll λcdv A outer s H E hr=>⟨qf4,(qaa (qbw (qg1 (qg2 (qi2 .str rfl B.isinstance rfl B.str PyProof.Rows.Boot.«str» (vv 0))))
   (qaf (qaz qc1))
   qap)
  (qaa (qbw (qg1 (qu4 q2x q2x qad (qc5 qck rfl B.len PyProof.Rows.Boot.«len» (vv 0)) (qi1 (z:=(.int 12)) rfl (Classical.choose_spec B.g_LONGEST_NAME) ⟨_,rfl⟩ rfl)))
   (qaf (qaz qc1))
   qap)
  (qaf (qaz (qc5 (qkt rfl) rfl B.all PyProof.Rows.Boot.«all» (vc_e (qfg (M:=["sign"]) (qfp (vv 0)) rfl qf9 (λcl C s2 H2 fp pn=>(qbf (i:=1) (qf9).nd rfl (Or.inl rfl))) (λcl C s2 H2 fp pn=>qfh) (λcl C s2 H2 fp pn=>(qfo qzf (vv 1) (qi1 (z:=(.str ("abcdefghijklmnopqrstuvwxyz0123456789" : Str))) rfl (Classical.choose_spec B.g_NAME_SIGNS) ⟨_,rfl⟩ rfl)))))))))),qsk⟩
theorem qop:FnScope ["text"] ["text"] (qab qdl):=⟨rfl,rfl,rfl,by decide +kernel,rfl,by decide +kernel,by decide +kernel⟩
theorem qoh(F:Fun K "is_word" "is_word" qdl f fd)(B:Blt K mg cNoWay)(Cis_name:Cal P w K mg base 1 "is_name" ["thing"] (spOf K qbz)):FnOk P w K mg base CX0 2 f fd ["text"] (spOf K qcx) :=
 F.okV qop qln λcdv A outer s H E hr=>⟨qf5,(qaf (qaz (q39 (qfo qzf (vv 0) (qbb (vac qah (vac qah qag)))) (qks (qaw Cis_name (hr.mono (by decide)) rfl (vac (vv 0) qag)))))),qsm⟩
theorem sc_words_of:FnScope ["text","rooted","words"] ["text"] (qab qcc):=⟨rfl,rfl,rfl,by decide +kernel,rfl,by decide +kernel,by decide +kernel⟩
theorem qfk:CompScope (qab qcc) ["text","rooted","words"] ["text","rooted","words","word"] ["word"] ({ kind:=PySem.ScopeKind.function,names:=[ (PySem.Str.ofString ".0",PySem.NameKind.local),(PySem.Str.ofString "word",PySem.NameKind.local),(PySem.Str.ofString "is_word",PySem.NameKind.globalImplicit)],isGenerator:=false,isCoroutine:=false,more:=[]:PySem.Scope }):=⟨rfl,by decide +kernel,by decide +kernel,by decide +kernel,by decide +kernel,rfl,by decide +kernel⟩
theorem ql3(F:Fun K "words_of" "words_of" qcc f fd)(B:Blt K mg cNoWay)(Cis_word:Cal P w K mg base 2 "is_word" ["text"] (spOf K qcx)):FnOk P w K mg base (CXR P w) 3 f fd ["text"] (spOf K qcq) :=
 F.okVX sc_words_of qjy λcdv A outer s H E hr o=>⟨qe3,(qaa (qbw (qay (qb3 hr.units) (vv 0) qah)
   (qaf (qaz (qbb (vac qc1 (vac (qkr qag) qag)))))
   qap)
  (qaa (qas (i:=1) sc_words_of.nd rfl (Or.inl rfl) (qr6 (vv 0) qah))
  (qaa (qas (i:=2) sc_words_of.nd rfl (Or.inl rfl) (quv (quu (qg2 (vv 1)) (qcg (vv 0) (qc3 qad) qdx) (vv 0)) qah))
  (qaa (qbw (vw_t (qsf (qay qze (qc5 qck rfl B.len PyProof.Rows.Boot.«len» (vv 2)) (qi1 (z:=(.int 40)) rfl (Classical.choose_spec B.g_MOST_WORDS) ⟨_,rfl⟩ rfl)) (qsg (qg1 (qg2 (qc5 (qkt rfl) rfl B.all PyProof.Rows.Boot.«all» (vc_e (qfg (M:=["word"]) (qfp (vv 2)) rfl qfk (λcl C s2 H2 fp pn=>(qbf (i:=3) (qfk).nd rfl (Or.inl rfl))) (λcl C s2 H2 fp pn=>qfh) (λcl C s2 H2 fp pn=>(qaw Cis_word (hr.mono (by decide)) rfl (vac (vv 3) qag)))))))))))
   (qaf (qu1 ⟨cNoWay,B.NoWay,B.k_NoWay,B.x_NoWay⟩ rfl rfl o (vac (vv 0) qag)))
   qap)
  (qaf (qaz (qbb (vac (vv 1) (vac (vv 2) qag))))))))),qo9⟩
theorem qg9:FnScope ["text"] ["text"] (qab qbp):=⟨rfl,rfl,rfl,by decide +kernel,rfl,by decide +kernel,by decide +kernel⟩
theorem qg7(F:Fun K "is_way_text" "is_way_text" qbp f fd)(B:Blt K mg cNoWay)(Cwords_of:CalX P w K mg base 3 "words_of" ["text"] (spOf K qcq)):FnOk P w K mg base CX0 4 f fd ["text"] (spOf K qbo) :=
 F.okV qg9 qgj λcdv A outer s H E hr=>⟨qds,(qaa (q2z (λpn E EX' po1 o1=>(qaf (qzg (qzb Cwords_of o1 (hr.mono (by decide)) rfl (vac (vv 0) qag)))))
   (qzd (yes:=["NoWay"]) (no:=[]) ⟨.ref cNoWay,B.NoWay,(qwi B.k_NoWay B.m_NoWay_NoWay qva),qva⟩ rfl (λe pn E=>(qaf (qaz qc1))) q2v))
  (qaf (qaz qc1))),qi6⟩
theorem qy1:FnScope ["mark","text"] ["mark","text"] (qab qhr):=⟨rfl,rfl,rfl,by decide +kernel,rfl,by decide +kernel,by decide +kernel⟩
theorem qxl(F:Fun K "fits" "fits" qhr f fd)(B:Blt K mg cNoWay)(Cis_way_text:Cal P w K mg base 4 "is_way_text" ["text"] (spOf K qbo)):FnOk P w K mg base CX0 5 f fd ["mark","text"] (spOf K qhk) :=
 F.okV qy1 qtd λcdv A outer s H E hr=>⟨qu8,(qaa (qbw (qay (qb3 hr.units) (vv 0) qah)
   (qaf (qaz qc1))
   qap)
  (qaa (qbw (qay (qb3 hr.units) (vv 0) qah)
   (qaf (qaz (qaw Cis_way_text (hr.mono (by decide)) rfl (vac (vv 1) qag))))
   qap)
  (qaf (qaz (qhz (qfo qzf (vv 0) (qnq rfl (Classical.choose_spec B.g_BARE_MARKS).1 (Classical.choose_spec B.g_BARE_MARKS).2)) (qks (qfo (qb3 hr.units) (vv 1) qah))))))),q21⟩
theorem qma:FnScope ["way","mark","text"] ["way","mark","text"] (qab qb9):=⟨rfl,rfl,rfl,by decide +kernel,rfl,by decide +kernel,by decide +kernel⟩
theorem qfj:CompScope (qab qb9) ["way","mark","text"] ["way","mark","text","name"] ["name"] ({ kind:=PySem.ScopeKind.function,names:=[ (PySem.Str.ofString ".0",PySem.NameKind.local),(PySem.Str.ofString "name",PySem.NameKind.local),(PySem.Str.ofString "is_name",PySem.NameKind.globalImplicit)],isGenerator:=false,isCoroutine:=false,more:=[]:PySem.Scope }):=⟨rfl,by decide +kernel,by decide +kernel,by decide +kernel,by decide +kernel,rfl,by decide +kernel⟩
theorem ql1(F:Fun K "is_entry" "is_entry" qb9 f fd)(B:Blt K mg cNoWay)(Cis_name:Cal P w K mg base 1 "is_name" ["thing"] (spOf K qbz))(Cfits:Cal P w K mg base 5 "fits" ["mark","text"] (spOf K qhk)):FnOk P w K mg base CX0 6 f fd ["way","mark","text"] (spOf K qcp) :=
 F.okV qma qjw λcdv A outer s H E hr=>⟨qe2,(qaf (qaz (qhz (qc5 (qkt rfl) rfl B.all PyProof.Rows.Boot.«all» (vc_e (qfg (M:=["name"]) (qfp (vv 0)) rfl qfj (λcl C s2 H2 fp pn=>(qbf (i:=3) (qfj).nd rfl (Or.inl rfl))) (λcl C s2 H2 fp pn=>qfh) (λcl C s2 H2 fp pn=>(qaw Cis_name (hr.mono (by decide)) rfl (vac (vv 3) qag)))))) (qks (qaw Cfits (hr.mono (by decide)) rfl (vac (vv 1) (vac (vv 2) qag))))))),qo7⟩
theorem sc_are_entries:FnScope ["entries","rising"] ["entries"] (qab qa4):=⟨rfl,rfl,rfl,by decide +kernel,rfl,by decide +kernel,by decide +kernel⟩
theorem qcv:CompScope (qab qa4) ["entries","rising"] ["entries","rising","one","other"] ["one","other"] ({ kind:=PySem.ScopeKind.function,names:=[ (PySem.Str.ofString ".0",PySem.NameKind.local),(PySem.Str.ofString "one",PySem.NameKind.local),(PySem.Str.ofString "other",PySem.NameKind.local)],isGenerator:=false,isCoroutine:=false,more:=[]:PySem.Scope }):=⟨rfl,by decide +kernel,by decide +kernel,by decide +kernel,by decide +kernel,rfl,by decide +kernel⟩
theorem qby:CompScope (qab qa4) ["entries","rising"] ["entries","rising","way","mark","text"] ["way","mark","text"] ({ kind:=PySem.ScopeKind.function,names:=[ (PySem.Str.ofString ".0",PySem.NameKind.local),(PySem.Str.ofString "way",PySem.NameKind.local),(PySem.Str.ofString "mark",PySem.NameKind.local),(PySem.Str.ofString "text",PySem.NameKind.local),(PySem.Str.ofString "is_entry",PySem.NameKind.globalImplicit)],isGenerator:=false,isCoroutine:=false,more:=[]:PySem.Scope }):=⟨rfl,by decide +kernel,by decide +kernel,by decide +kernel,by decide +kernel,rfl,by decide +kernel⟩
theorem qg6(F:Fun K "are_entries" "are_entries" qa4 f fd)(B:Blt K mg cNoWay)(Cis_entry:Cal P w K mg base 6 "is_entry" ["way","mark","text"] (spOf K qcp)):FnOk P w K mg base CX0 7 f fd ["entries"] (spOf K qbn) :=
 F.okV sc_are_entries qgi λcdv A outer s H E hr=>⟨qer,(qaa (qas (i:=1) sc_are_entries.nd rfl (Or.inl rfl) (qc5 (qkt rfl) rfl B.all PyProof.Rows.Boot.«all» (vc_e (qfg (M:=["one","other"]) (q2w rfl B.zip (vac (vv 0) (vac (qcg (vv 0) (qc3 qad) qdx) qag))) rfl qcv (λcl C s2 H2 fp pn=>(qr8 rfl (qc9 (qbf (i:=2) (qcv).nd rfl (Or.inl rfl)) (qc9 (qbf (i:=3) (qcv).nd rfl (Or.inl rfl)) qmm)))) (λcl C s2 H2 fp pn=>qfh) (λcl C s2 H2 fp pn=>(qfo (qv5 hr.units) (qbx qa1 (vv 2) qad) (qbx qa1 (vv 3) qad)))))))
  (qaf (qaz (qhz (vv 1) (qks (qc5 (qkt rfl) rfl B.all PyProof.Rows.Boot.«all» (vc_e (qfg (M:=["way","mark","text"]) (qfp (vv 0)) rfl qby (λcl C s2 H2 fp pn=>(qr8 rfl (qc9 (qbf (i:=2) (qby).nd rfl (Or.inl rfl)) (qc9 (qbf (i:=3) (qby).nd rfl (Or.inl rfl)) (qc9 (qbf (i:=4) (qby).nd rfl (Or.inl rfl)) qmm))))) (λcl C s2 H2 fp pn=>qfh) (λcl C s2 H2 fp pn=>(qaw Cis_entry (hr.mono (by decide)) rfl (vac (vv 2) (vac (vv 3) (vac (vv 4) qag))))))))))))),qi5⟩
theorem qug:FnScope ["way"] ["way"] (qab qe9):=⟨rfl,rfl,rfl,by decide +kernel,rfl,by decide +kernel,by decide +kernel⟩
theorem qtm(F:Fun K "above" "above" qe9 f fd)(B:Blt K mg cNoWay):FnOk P w K mg base CX0 1 f fd ["way"] (spOf K qe5) :=
 F.okV qug qqi λcdv A outer s H E hr=>⟨qkz,(qaf (qaz (qcg (vv 0) qdx (qc3 (qr5 qad))))),qzl⟩
theorem sc_is_tree:FnScope ["entries","folders","way","mark","text"] ["entries"] (qab qdk):=⟨rfl,rfl,rfl,by decide +kernel,rfl,by decide +kernel,by decide +kernel⟩
theorem qog(F:Fun K "is_tree" "is_tree" qdk f fd)(B:Blt K mg cNoWay)(Care_entries:Cal P w K mg base 7 "are_entries" ["entries"] (spOf K qbn))(Cabove:Cal P w K mg base 1 "above" ["way"] (spOf K qe5)):FnOk P w K mg base CX0 8 f fd ["entries"] (spOf K qci) :=
 F.okV sc_is_tree qlm λcdv A outer s H E hr=>⟨qi9,(qaa (qbw (qg1 (qg2 (qaw Care_entries (hr.mono (by decide)) rfl (vac (vv 0) qag))))
   (qaf (qaz qc1))
   qap)
  (qaa (qg0 (i:=1) sc_is_tree.nd rfl (Or.inl rfl) (qus hr.dict (qbb qag) qc1))
  (qaa (qgz PassesOwn.never rfl (qfp (vv 0)) (qr8 rfl (qc9 (qbf (i:=2) sc_is_tree.nd rfl (Or.inl rfl)) (qc9 (qbf (i:=3) sc_is_tree.nd rfl (Or.inl rfl)) (qc9 (qbf (i:=4) sc_is_tree.nd rfl (Or.inl rfl)) qmm))))
   (qaa (qbw (vw_t (qsf (qay (qb3 hr.units) (vv 2) (qbb qag)) (qsf (qay quz (vv 3) (qnq rfl (Classical.choose_spec B.g_TREE_MARKS).1 (Classical.choose_spec B.g_TREE_MARKS).2)) (qsg (qku hr.dict (qaw Cabove (hr.mono (by decide)) rfl (vac (vv 2) qag)) (vv 1))))))
   (qaf (qaz qc1))
   qap)
  (qaf (qbw (qay (qb3 hr.units) (vv 3) qah)
   (qaf (qse 1 hr.dict (vv 2) qc1))
   qap))))
  (qaf (qaz qc1))))),qsl⟩
theorem sc_law:FnScope ["_law_script","_law_things","_law_stem","_law_k","_law_rows","_law_changed_here","_law_due","_law_handed","_law_first","_law_told","_law_again"] ["_law_script"] (qab qg8):=⟨rfl,rfl,rfl,by decide +kernel,rfl,by decide +kernel,by decide +kernel⟩
theorem qpw:CompScope (qab qg8) ["_law_script","_law_things","_law_stem","_law_k","_law_rows","_law_changed_here","_law_due","_law_handed","_law_first","_law_told","_law_again"] ["_law_script","_law_things","_law_stem","_law_k","_law_rows","_law_changed_here","_law_due","_law_handed","_law_first","_law_told","_law_again","_law_way"] ["_law_way"] ({ kind:=PySem.ScopeKind.function,names:=[ (PySem.Str.ofString ".0",PySem.NameKind.local),(PySem.Str.ofString "_law_way",PySem.NameKind.local),(PySem.Str.ofString "_law_things",PySem.NameKind.free)],isGenerator:=false,isCoroutine:=false,more:=[]:PySem.Scope }):=⟨rfl,by decide +kernel,by decide +kernel,by decide +kernel,by decide +kernel,rfl,by decide +kernel⟩
theorem q0u(F:Fun K "law" "law" qg8 f fd)(B:Blt K mg cNoWay)(Ctree_by:Cal P w K mg base 3 "_law_tree_by" ["_law_cells"] (spOf K qdh))(Ccell_at:Cal P w K mg base 1 "_law_cell_at" ["_law_script","_law_k"] (spOf K qa8))(Cname_by:Cal P w K mg base 1 "_law_name_by" ["_law_cell"] (spOf K qam))(Cchanged:Cal P w K mg base 4 "_law_changed" ["_law_rows","_law_script"] (qfr K qdf 0))(Cis_tree:Cal P w K mg base 8 "is_tree" ["entries"] (spOf K qci)):FnOk P w K mg base CX0 9 f fd ["_law_script"] (spOf K qlf) :=
 F.okV sc_law qw6 λcdv A outer s H E hr=>⟨qzy,(qaa (qg0 (i:=1) sc_law.nd rfl (Or.inr rfl) (qaw Ctree_by (hr.mono (by decide)) rfl (vac (qcg (vv 0) (qc3 qad) (qc3 qad)) qag)))
  (qaa (qbw (qay (qb3 hr.units) (qaj qa5 (qaj qc2 (qaw Ccell_at (hr.mono (by decide)) rfl (vac (vv 0) (vac qad qag))) qad) qad) qad)
   (qaa (qas (i:=2) sc_law.nd rfl (Or.inl rfl) (qcg (qaw Cname_by (hr.mono (by decide)) rfl (vac (qaw Ccell_at (hr.mono (by decide)) rfl (vac (vv 0) (vac qad qag))) qag)) qdx (qc3 qad)))
  (qaf (qgz PassesOwn.never rfl (qi3 rfl B.range (qaj qa5 (qaj qc2 (qaw Ccell_at (hr.mono (by decide)) rfl (vac (vv 0) (vac qad qag))) qad) qad)) (qbf (i:=3) sc_law.nd rfl (Or.inl rfl))
   (qaf (q4a 1 hr.dict (qbb (vac (qaj qax (vv 2) (qo2 qv3 rfl B.str PyProof.Rows.Boot.«str» (vv 3))) qag)) (qbb (vac qah (vac (qo2 qv3 rfl B.str PyProof.Rows.Boot.«str» (vv 3)) qag))))))))
   qap)
  (qaa (qzj (i:=4) sc_law.nd rfl (Or.inl rfl) (qfg (M:=["_law_way"]) (qfp (qc5 (qr7 hr.units) rfl B.sorted PyProof.Rows.Boot.«sorted» (qo2 (quw hr.hd) rfl B.list PyProof.Rows.Boot.«list» (vv 1)))) rfl qpw (λcl C s2 H2 fp pn=>(qbf (i:=11) (qpw).nd rfl (Or.inl rfl))) (λcl C s2 H2 fp pn=>qfh) (λcl C s2 H2 fp pn=>(qaj qax (qbb (vac (vv 11) qag)) (qzc hr.dict (vv 1) (vv 11))))))
  (qaa (qg0 (i:=5) sc_law.nd rfl (Or.inl rfl) (qo2 qmj rfl B.list PyProof.Rows.Boot.«list» (vv 4)))
  (q20 5 (qaa (qu2 (i:=6) sc_law.nd rfl (Or.inl rfl) Cchanged (hr.mono (by decide)) rfl (qfz 5 (vac (vv 0) qag)))
  (qaa (qas (i:=7) sc_law.nd rfl (Or.inl rfl) (qo2 qmj rfl B.list PyProof.Rows.Boot.«list» (vv 4)))
  (qaa (qas (i:=8) sc_law.nd rfl (Or.inl rfl) (qaw Cis_tree (hr.mono (by decide)) rfl (vac (vv 7) qag)))
  (qaa (qas (i:=9) sc_law.nd rfl (Or.inl rfl) (qaw Cis_tree (hr.mono (by decide)) rfl (vac (qo2 qmj rfl B.list PyProof.Rows.Boot.«list» (vvI 5)) qag)))
  (qaa (qas (i:=10) sc_law.nd rfl (Or.inl rfl) (qaw Cis_tree (hr.mono (by decide)) rfl (vac (vv 7) qag)))
  (qaa (qbw (vw_t (qsf (qg1 (qg2 (qi2 .bool rfl B.isinstance rfl B.bool PyProof.Rows.Boot.«bool» (vv 8)))) (qsf (qg1 (qg2 (qi2 .bool rfl B.isinstance rfl B.bool PyProof.Rows.Boot.«bool» (vv 9)))) (qsg (qg1 (qg2 (qi2 .bool rfl B.isinstance rfl B.bool PyProof.Rows.Boot.«bool» (vv 10))))))))
   (qaf (qaz qc1))
   qap)
  (qaf (qaz (qhz (vv 8) (qhz (vv 10) (qhz (qfo (qb3 hr.units) (vv 9) (vv 6)) (qks (qfo (qb3 hr.units) (vv 7) (vv 4))))))))))))))))))),q4b⟩
end
theorem q4d{l:PySem.W.OpenLaw}{w:World}{K:PySem.W.Frag}{h:Heap}{mg:Str->Option Value}{fa:Addr}(X:K.In h)(G:h.Ns mainGlobals mg)(hfa:mg "law" = some (.ref fa))
  {f1:Addr} {od1 an1:Option Addr} {sl1:Array (Option Value)} {oc1 kV1 dc1 pm1 cd1 ct1:Value}
  {f2:Addr} {od2 an2:Option Addr} {sl2:Array (Option Value)} {oc2 kV2 dc2 pm2 cd2 ct2:Value}
  {f3:Addr} {od3 an3:Option Addr} {sl3:Array (Option Value)} {oc3 kV3 dc3 pm3 cd3 ct3:Value}
  {f4:Addr} {od4 an4:Option Addr} {sl4:Array (Option Value)} {oc4 kV4 dc4 pm4 cd4 ct4:Value}
  {f5:Addr} {od5 an5:Option Addr} {sl5:Array (Option Value)} {oc5 kV5 dc5 pm5 cd5 ct5:Value}
  {f6:Addr} {od6 an6:Option Addr} {sl6:Array (Option Value)} {oc6 kV6 dc6 pm6 cd6 ct6:Value}
  {f7:Addr} {od7 an7:Option Addr} {sl7:Array (Option Value)} {oc7 kV7 dc7 pm7 cd7 ct7:Value}
  {f8:Addr} {od8 an8:Option Addr} {sl8:Array (Option Value)} {oc8 kV8 dc8 pm8 cd8 ct8:Value}
  {f9:Addr} {od9 an9:Option Addr} {sl9:Array (Option Value)} {oc9 kV9 dc9 pm9 cd9 ct9:Value}
  {f10:Addr} {od10 an10:Option Addr} {sl10:Array (Option Value)} {oc10 kV10 dc10 pm10 cd10 ct10:Value}
  {f11:Addr} {od11 an11:Option Addr} {sl11:Array (Option Value)} {oc11 kV11 dc11 pm11 cd11 ct11:Value}
  {f12:Addr} {od12 an12:Option Addr} {sl12:Array (Option Value)} {oc12 kV12 dc12 pm12 cd12 ct12:Value}
  {f13:Addr} {od13 an13:Option Addr} {sl13:Array (Option Value)} {oc13 kV13 dc13 pm13 cd13 ct13:Value}
  {f14:Addr} {od14 an14:Option Addr} {sl14:Array (Option Value)} {oc14 kV14 dc14 pm14 cd14 ct14:Value}
  {f15:Addr} {od15 an15:Option Addr} {sl15:Array (Option Value)} {oc15 kV15 dc15 pm15 cd15 ct15:Value}
  {f16:Addr} {od16 an16:Option Addr} {sl16:Array (Option Value)} {oc16 kV16 dc16 pm16 cd16 ct16:Value}
  {f17:Addr} {od17 an17:Option Addr} {sl17:Array (Option Value)} {oc17 kV17 dc17 pm17 cd17 ct17:Value}
  {f18:Addr} {od18 an18:Option Addr} {sl18:Array (Option Value)} {oc18 kV18 dc18 pm18 cd18 ct18:Value}
  {f19:Addr} {od19 an19:Option Addr} {sl19:Array (Option Value)} {oc19 kV19 dc19 pm19 cd19 ct19:Value}
  {f20:Addr} {od20 an20:Option Addr} {sl20:Array (Option Value)} {oc20 kV20 dc20 pm20 cd20 ct20:Value}
  {f21:Addr} {od21 an21:Option Addr} {sl21:Array (Option Value)} {oc21 kV21 dc21 pm21 cd21 ct21:Value}
  {f22:Addr} {od22 an22:Option Addr} {sl22:Array (Option Value)} {oc22 kV22 dc22 pm22 cd22 ct22:Value}
  {cNoWay:Addr}
  {gt_NAME_SIGNS:Tok}
  {gt_LONGEST_NAME:Tok}
  {gt_MOST_WORDS:Tok}
  {ad_BARE_MARKS:Addr} {ob_BARE_MARKS:Obj} {sn_BARE_MARKS:Nat} {gt_BARE_MARKS0:Tok} {gt_BARE_MARKS1:Tok} {gt_BARE_MARKS2:Tok}
  {ad_TREE_MARKS:Addr} {ob_TREE_MARKS:Obj} {sn_TREE_MARKS:Nat} {gt_TREE_MARKS0:Tok} {gt_TREE_MARKS1:Tok} {gt_TREE_MARKS2:Tok}
  (a1:PySem.W.nsIn K mainGlobals "is_name" = some (some (.ref f1))) (l1:K.lookup f1=some ⟨oc1,od1,.func (PySem.W.fnOf "is_name" "is_name" (qao qcz) (qal qcz) (qab qcz) .none kV1 dc1 pm1 an1 cd1 ct1),sl1⟩) (c1:PySem.W.codeIn K cd1 "is_name" = true) (k1:PySem.W.keepIn K (.ref f1)=true)
  (a2:PySem.W.nsIn K mainGlobals "above" = some (some (.ref f2))) (l2:K.lookup f2=some ⟨oc2,od2,.func (PySem.W.fnOf "above" "above" (qao qe9) (qal qe9) (qab qe9) .none kV2 dc2 pm2 an2 cd2 ct2),sl2⟩) (c2:PySem.W.codeIn K cd2 "above" = true) (k2:PySem.W.keepIn K (.ref f2)=true)
  (a3:PySem.W.nsIn K mainGlobals "is_word" = some (some (.ref f3))) (l3:K.lookup f3=some ⟨oc3,od3,.func (PySem.W.fnOf "is_word" "is_word" (qao qdl) (qal qdl) (qab qdl) .none kV3 dc3 pm3 an3 cd3 ct3),sl3⟩) (c3:PySem.W.codeIn K cd3 "is_word" = true) (k3:PySem.W.keepIn K (.ref f3)=true)
  (a4:PySem.W.nsIn K mainGlobals "words_of" = some (some (.ref f4))) (l4:K.lookup f4=some ⟨oc4,od4,.func (PySem.W.fnOf "words_of" "words_of" (qao qcc) (qal qcc) (qab qcc) .none kV4 dc4 pm4 an4 cd4 ct4),sl4⟩) (c4:PySem.W.codeIn K cd4 "words_of" = true) (k4:PySem.W.keepIn K (.ref f4)=true)
  (a5:PySem.W.nsIn K mainGlobals "is_way_text" = some (some (.ref f5))) (l5:K.lookup f5=some ⟨oc5,od5,.func (PySem.W.fnOf "is_way_text" "is_way_text" (qao qbp) (qal qbp) (qab qbp) .none kV5 dc5 pm5 an5 cd5 ct5),sl5⟩) (c5:PySem.W.codeIn K cd5 "is_way_text" = true) (k5:PySem.W.keepIn K (.ref f5)=true)
  (a6:PySem.W.nsIn K mainGlobals "fits" = some (some (.ref f6))) (l6:K.lookup f6=some ⟨oc6,od6,.func (PySem.W.fnOf "fits" "fits" (qao qhr) (qal qhr) (qab qhr) .none kV6 dc6 pm6 an6 cd6 ct6),sl6⟩) (c6:PySem.W.codeIn K cd6 "fits" = true) (k6:PySem.W.keepIn K (.ref f6)=true)
  (a7:PySem.W.nsIn K mainGlobals "is_entry" = some (some (.ref f7))) (l7:K.lookup f7=some ⟨oc7,od7,.func (PySem.W.fnOf "is_entry" "is_entry" (qao qb9) (qal qb9) (qab qb9) .none kV7 dc7 pm7 an7 cd7 ct7),sl7⟩) (c7:PySem.W.codeIn K cd7 "is_entry" = true) (k7:PySem.W.keepIn K (.ref f7)=true)
  (a8:PySem.W.nsIn K mainGlobals "are_entries" = some (some (.ref f8))) (l8:K.lookup f8=some ⟨oc8,od8,.func (PySem.W.fnOf "are_entries" "are_entries" (qao qa4) (qal qa4) (qab qa4) .none kV8 dc8 pm8 an8 cd8 ct8),sl8⟩) (c8:PySem.W.codeIn K cd8 "are_entries" = true) (k8:PySem.W.keepIn K (.ref f8)=true)
  (a9:PySem.W.nsIn K mainGlobals "is_tree" = some (some (.ref f9))) (l9:K.lookup f9=some ⟨oc9,od9,.func (PySem.W.fnOf "is_tree" "is_tree" (qao qdk) (qal qdk) (qab qdk) .none kV9 dc9 pm9 an9 cd9 ct9),sl9⟩) (c9:PySem.W.codeIn K cd9 "is_tree" = true) (k9:PySem.W.keepIn K (.ref f9)=true)
  (a10:PySem.W.nsIn K mainGlobals "_law_cell_at" = some (some (.ref f10))) (l10:K.lookup f10=some ⟨oc10,od10,.func (PySem.W.fnOf "_law_cell_at" "_law_cell_at" (qao qdi) (qal qdi) (qab qdi) .none kV10 dc10 pm10 an10 cd10 ct10),sl10⟩) (c10:PySem.W.codeIn K cd10 "_law_cell_at" = true) (k10:PySem.W.keepIn K (.ref f10)=true)
  (a11:PySem.W.nsIn K mainGlobals "_law_name_by" = some (some (.ref f11))) (l11:K.lookup f11=some ⟨oc11,od11,.func (PySem.W.fnOf "_law_name_by" "_law_name_by" (qao qdm) (qal qdm) (qab qdm) .none kV11 dc11 pm11 an11 cd11 ct11),sl11⟩) (c11:PySem.W.codeIn K cd11 "_law_name_by" = true) (k11:PySem.W.keepIn K (.ref f11)=true)
  (a12:PySem.W.nsIn K mainGlobals "_law_signs_by" = some (some (.ref f12))) (l12:K.lookup f12=some ⟨oc12,od12,.func (PySem.W.fnOf "_law_signs_by" "_law_signs_by" (qao qcu) (qal qcu) (qab qcu) .none kV12 dc12 pm12 an12 cd12 ct12),sl12⟩) (c12:PySem.W.codeIn K cd12 "_law_signs_by" = true) (k12:PySem.W.keepIn K (.ref f12)=true)
  (a13:PySem.W.nsIn K mainGlobals "_law_text_by" = some (some (.ref f13))) (l13:K.lookup f13=some ⟨oc13,od13,.func (PySem.W.fnOf "_law_text_by" "_law_text_by" (qao qdn) (qal qdn) (qab qdn) .none kV13 dc13 pm13 an13 cd13 ct13),sl13⟩) (c13:PySem.W.codeIn K cd13 "_law_text_by" = true) (k13:PySem.W.keepIn K (.ref f13)=true)
  (a14:PySem.W.nsIn K mainGlobals "_law_tree_by" = some (some (.ref f14))) (l14:K.lookup f14=some ⟨oc14,od14,.func (PySem.W.fnOf "_law_tree_by" "_law_tree_by" (qao qdo) (qal qdo) (qab qdo) .none kV14 dc14 pm14 an14 cd14 ct14),sl14⟩) (c14:PySem.W.codeIn K cd14 "_law_tree_by" = true) (k14:PySem.W.keepIn K (.ref f14)=true)
  (a15:PySem.W.nsIn K mainGlobals "_law_bad_name" = some (some (.ref f15))) (l15:K.lookup f15=some ⟨oc15,od15,.func (PySem.W.fnOf "_law_bad_name" "_law_bad_name" (qao qcr) (qal qcr) (qab qcr) .none kV15 dc15 pm15 an15 cd15 ct15),sl15⟩) (c15:PySem.W.codeIn K cd15 "_law_bad_name" = true) (k15:PySem.W.keepIn K (.ref f15)=true)
  (a16:PySem.W.nsIn K mainGlobals "_law_bad_text" = some (some (.ref f16))) (l16:K.lookup f16=some ⟨oc16,od16,.func (PySem.W.fnOf "_law_bad_text" "_law_bad_text" (qao qcs) (qal qcs) (qab qcs) .none kV16 dc16 pm16 an16 cd16 ct16),sl16⟩) (c16:PySem.W.codeIn K cd16 "_law_bad_text" = true) (k16:PySem.W.keepIn K (.ref f16)=true)
  (a17:PySem.W.nsIn K mainGlobals "_law_alone" = some (some (.ref f17))) (l17:K.lookup f17=some ⟨oc17,od17,.func (PySem.W.fnOf "_law_alone" "_law_alone" (qao qfa) (qal qfa) (qab qfa) .none kV17 dc17 pm17 an17 cd17 ct17),sl17⟩) (c17:PySem.W.codeIn K cd17 "_law_alone" = true) (k17:PySem.W.keepIn K (.ref f17)=true)
  (a18:PySem.W.nsIn K mainGlobals "_law_moved" = some (some (.ref f18))) (l18:K.lookup f18=some ⟨oc18,od18,.func (PySem.W.fnOf "_law_moved" "_law_moved" (qao qfb) (qal qfb) (qab qfb) .none kV18 dc18 pm18 an18 cd18 ct18),sl18⟩) (c18:PySem.W.codeIn K cd18 "_law_moved" = true) (k18:PySem.W.keepIn K (.ref f18)=true)
  (a19:PySem.W.nsIn K mainGlobals "_law_put_under" = some (some (.ref f19))) (l19:K.lookup f19=some ⟨oc19,od19,.func (PySem.W.fnOf "_law_put_under" "_law_put_under" (qao qca) (qal qca) (qab qca) .none kV19 dc19 pm19 an19 cd19 ct19),sl19⟩) (c19:PySem.W.codeIn K cd19 "_law_put_under" = true) (k19:PySem.W.keepIn K (.ref f19)=true)
  (a20:PySem.W.nsIn K mainGlobals "_law_turned" = some (some (.ref f20))) (l20:K.lookup f20=some ⟨oc20,od20,.func (PySem.W.fnOf "_law_turned" "_law_turned" (qao qec) (qal qec) (qab qec) .none kV20 dc20 pm20 an20 cd20 ct20),sl20⟩) (c20:PySem.W.codeIn K cd20 "_law_turned" = true) (k20:PySem.W.keepIn K (.ref f20)=true)
  (a21:PySem.W.nsIn K mainGlobals "_law_changed" = some (some (.ref f21))) (l21:K.lookup f21=some ⟨oc21,od21,.func (PySem.W.fnOf "_law_changed" "_law_changed" (qao qdj) (qal qdj) (qab qdj) .none kV21 dc21 pm21 an21 cd21 ct21),sl21⟩) (c21:PySem.W.codeIn K cd21 "_law_changed" = true) (k21:PySem.W.keepIn K (.ref f21)=true)
  (a22:PySem.W.nsIn K mainGlobals "law" = some (some (.ref f22))) (l22:K.lookup f22=some ⟨oc22,od22,.func (PySem.W.fnOf "law" "law" (qao qg8) (qal qg8) (qab qg8) .none kV22 dc22 pm22 an22 cd22 ct22),sl22⟩) (c22:PySem.W.codeIn K cd22 "law" = true) (k22:PySem.W.keepIn K (.ref f22)=true)
  (q_NoWay:PySem.W.nsIn K mainGlobals "NoWay" = some (some (.ref cNoWay)))
  (x_NoWay:OwnX K cNoWay)
  (m_NoWay_NoWay:PySem.W.exmOne K (.ref cNoWay) (.ref cNoWay)=some true)
  (g_NAME_SIGNS:PySem.W.nsIn K mainGlobals "NAME_SIGNS" = some (some (.str ("abcdefghijklmnopqrstuvwxyz0123456789" : Str) gt_NAME_SIGNS)))
  (g_LONGEST_NAME:PySem.W.nsIn K mainGlobals "LONGEST_NAME" = some (some (.int 12 gt_LONGEST_NAME)))
  (g_MOST_WORDS:PySem.W.nsIn K mainGlobals "MOST_WORDS" = some (some (.int 40 gt_MOST_WORDS)))
  (g_BARE_MARKS:PySem.W.nsIn K mainGlobals "BARE_MARKS" = some (some (.ref ad_BARE_MARKS)))
  (h_BARE_MARKS:K.lookup ad_BARE_MARKS=some ob_BARE_MARKS)
  (u_BARE_MARKS:ob_BARE_MARKS.cls=.type "tuple")
  (w_BARE_MARKS:ob_BARE_MARKS.data=.seq #[.str ("folder" : Str) gt_BARE_MARKS0,.str ("gone" : Str) gt_BARE_MARKS1,.str ("shut" : Str) gt_BARE_MARKS2] sn_BARE_MARKS)
  (g_TREE_MARKS:PySem.W.nsIn K mainGlobals "TREE_MARKS" = some (some (.ref ad_TREE_MARKS)))
  (h_TREE_MARKS:K.lookup ad_TREE_MARKS=some ob_TREE_MARKS)
  (u_TREE_MARKS:ob_TREE_MARKS.cls=.type "tuple")
  (w_TREE_MARKS:ob_TREE_MARKS.data=.seq #[.str ("file" : Str) gt_TREE_MARKS0,.str ("link" : Str) gt_TREE_MARKS1,.str ("folder" : Str) gt_TREE_MARKS2] sn_TREE_MARKS)
  (z_all:PySem.W.nsIn K mainGlobals "all" = some none)
  (z_bool:PySem.W.nsIn K mainGlobals "bool" = some none)
  (z_isinstance:PySem.W.nsIn K mainGlobals "isinstance" = some none)
  (z_len:PySem.W.nsIn K mainGlobals "len" = some none)
  (z_list:PySem.W.nsIn K mainGlobals "list" = some none)
  (z_range:PySem.W.nsIn K mainGlobals "range" = some none)
  (z_sorted:PySem.W.nsIn K mainGlobals "sorted" = some none)
  (z_str:PySem.W.nsIn K mainGlobals "str" = some none)
  (z_zip:PySem.W.nsIn K mainGlobals "zip" = some none) :
  ∃fd:FuncData,(∀(s:Shared) (v:Value),BindsTo s fd ⟨[v],[]⟩ [("_law_script",v)])/\∀base:Heap,K.In base->base.Ns mainGlobals mg->FnOk l.prog w K mg base CX0 9 fa fd ["_law_script"] (spOf K qlf):=by
 have e:=hfa.symm.trans (PySem.W.mg_of X G a22)
 cases e
 have B:Blt K mg cNoWay:=⟨PySem.W.mg_of X G q_NoWay,q_NoWay,x_NoWay,m_NoWay_NoWay,PySem.W.mg_none_of X G z_all,PySem.W.mg_none_of X G z_bool,PySem.W.mg_none_of X G z_isinstance,PySem.W.mg_none_of X G z_len,PySem.W.mg_none_of X G z_list,PySem.W.mg_none_of X G z_range,PySem.W.mg_none_of X G z_sorted,PySem.W.mg_none_of X G z_str,PySem.W.mg_none_of X G z_zip,⟨_,PySem.W.mg_of X G g_NAME_SIGNS⟩,⟨_,PySem.W.mg_of X G g_LONGEST_NAME⟩,⟨_,PySem.W.mg_of X G g_MOST_WORDS⟩,⟨_,PySem.W.mg_of X G g_BARE_MARKS,.inr ⟨_,_,_,h_BARE_MARKS,u_BARE_MARKS,w_BARE_MARKS,Nat.le_of_ble_eq_true rfl,(.cons ⟨_,rfl⟩ (.cons ⟨_,rfl⟩ (.cons ⟨_,rfl⟩ .nil)))⟩⟩,⟨_,PySem.W.mg_of X G g_TREE_MARKS,.inr ⟨_,_,_,h_TREE_MARKS,u_TREE_MARKS,w_TREE_MARKS,Nat.le_of_ble_eq_true rfl,(.cons ⟨_,rfl⟩ (.cons ⟨_,rfl⟩ (.cons ⟨_,rfl⟩ .nil)))⟩⟩⟩
 have F1:=qbq (st:=qcz) l1 c1 k1
 have b1:=F1.binds1 (ps:=["thing"]) rfl λ_ _ _ _ _ _ _=>rfl
 have F2:=qbq (st:=qe9) l2 c2 k2
 have b2:=F2.binds1 (ps:=["way"]) rfl λ_ _ _ _ _ _ _=>rfl
 have F3:=qbq (st:=qdl) l3 c3 k3
 have b3:=F3.binds1 (ps:=["text"]) rfl λ_ _ _ _ _ _ _=>rfl
 have F4:=qbq (st:=qcc) l4 c4 k4
 have b4:=F4.binds1 (ps:=["text"]) rfl λ_ _ _ _ _ _ _=>rfl
 have F5:=qbq (st:=qbp) l5 c5 k5
 have b5:=F5.binds1 (ps:=["text"]) rfl λ_ _ _ _ _ _ _=>rfl
 have F6:=qbq (st:=qhr) l6 c6 k6
 have b6:=F6.binds2 (ps:=["mark","text"]) rfl λ_ _ _ _ _ _ _ _=>rfl
 have F7:=qbq (st:=qb9) l7 c7 k7
 have b7:=F7.binds3 (ps:=["way","mark","text"]) rfl λ_ _ _ _ _ _ _ _ _=>rfl
 have F8:=qbq (st:=qa4) l8 c8 k8
 have b8:=F8.binds1 (ps:=["entries"]) rfl λ_ _ _ _ _ _ _=>rfl
 have F9:=qbq (st:=qdk) l9 c9 k9
 have b9:=F9.binds1 (ps:=["entries"]) rfl λ_ _ _ _ _ _ _=>rfl
 have F10:=qbq (st:=qdi) l10 c10 k10
 have b10:=F10.binds2 (ps:=["_law_script","_law_k"]) rfl λ_ _ _ _ _ _ _ _=>rfl
 have F11:=qbq (st:=qdm) l11 c11 k11
 have b11:=F11.binds1 (ps:=["_law_cell"]) rfl λ_ _ _ _ _ _ _=>rfl
 have F12:=qbq (st:=qcu) l12 c12 k12
 have b12:=F12.binds1 (ps:=["_law_cell"]) rfl λ_ _ _ _ _ _ _=>rfl
 have F13:=qbq (st:=qdn) l13 c13 k13
 have b13:=F13.binds2 (ps:=["_law_mark","_law_cell"]) rfl λ_ _ _ _ _ _ _ _=>rfl
 have F14:=qbq (st:=qdo) l14 c14 k14
 have b14:=F14.binds1 (ps:=["_law_cells"]) rfl λ_ _ _ _ _ _ _=>rfl
 have F15:=qbq (st:=qcr) l15 c15 k15
 have b15:=F15.binds1 (ps:=["_law_cell"]) rfl λ_ _ _ _ _ _ _=>rfl
 have F16:=qbq (st:=qcs) l16 c16 k16
 have b16:=F16.binds1 (ps:=["_law_cell"]) rfl λ_ _ _ _ _ _ _=>rfl
 have F17:=qbq (st:=qfa) l17 c17 k17
 have b17:=F17.binds2 (ps:=["_law_rows","_law_way"]) rfl λ_ _ _ _ _ _ _ _=>rfl
 have F18:=qbq (st:=qfb) l18 c18 k18
 have b18:=F18.binds4 (ps:=["_law_rows","_law_spot","_law_road","_law_drawn"]) rfl λ_ _ _ _ _ _ _ _ _ _=>rfl
 have F19:=qbq (st:=qca) l19 c19 k19
 have b19:=F19.binds3 (ps:=["_law_rows","_law_spot","_law_drawn"]) rfl λ_ _ _ _ _ _ _ _ _=>rfl
 have F20:=qbq (st:=qec) l20 c20 k20
 have b20:=F20.binds4 (ps:=["_law_rows","_law_spot","_law_road","_law_drawn"]) rfl λ_ _ _ _ _ _ _ _ _ _=>rfl
 have F21:=qbq (st:=qdj) l21 c21 k21
 have b21:=F21.binds2 (ps:=["_law_rows","_law_script"]) rfl λ_ _ _ _ _ _ _ _=>rfl
 have F22:=qbq (st:=qg8) l22 c22 k22
 have b22:=F22.binds1 (ps:=["_law_script"]) rfl λ_ _ _ _ _ _ _=>rfl
 refine⟨PySem.W.fnOf "law" "law" (qao qg8) (qal qg8) (qab qg8) .none kV22 dc22 pm22 an22 cd22 ct22,λs v=>.of_eq rfl,λbase _ _=>?_⟩
 have Cname_by:=Cal.mk (qoi (P:=l.prog) (w:=w) (mg:=mg) (base:=base) F11 B) (PySem.W.mg_of X G a11) k11 b11
 have Csigns_by:=Cal.mk (ql2 (P:=l.prog) (w:=w) (mg:=mg) (base:=base) F12 B) (PySem.W.mg_of X G a12) k12 b12
 have Ctext_by:=Cal.mk (qoj (P:=l.prog) (w:=w) (mg:=mg) (base:=base) F13 B Csigns_by Cname_by) (PySem.W.mg_of X G a13) k13 b13
 have Ctree_by:=Cal.mk (qok (P:=l.prog) (w:=w) (mg:=mg) (base:=base) F14 B Cname_by Ctext_by) (PySem.W.mg_of X G a14) k14 b14
 have Ccell_at:=Cal.mk (qod (P:=l.prog) (w:=w) (mg:=mg) (base:=base) F10 B) (PySem.W.mg_of X G a10) k10 b10
 have Calone:=Cal.mk (qtn (P:=l.prog) (w:=w) (mg:=mg) (base:=base) F17 B) (PySem.W.mg_of X G a17) k17 b17
 have Cmoved:=Cal.mk (qto (P:=l.prog) (w:=w) (mg:=mg) (base:=base) F18 B Calone) (PySem.W.mg_of X G a18) k18 b18
 have Cbad_text:=Cal.mk (ql0 (P:=l.prog) (w:=w) (mg:=mg) (base:=base) F16 B Cname_by) (PySem.W.mg_of X G a16) k16 b16
 have Cbad_name:=Cal.mk (qlz (P:=l.prog) (w:=w) (mg:=mg) (base:=base) F15 B Cname_by) (PySem.W.mg_of X G a15) k15 b15
 have Cput_under:=Cal.mk (qj2 (P:=l.prog) (w:=w) (mg:=mg) (base:=base) F19 B Cname_by) (PySem.W.mg_of X G a19) k19 b19
 have Cturned:=Cal.mk (qq2 (P:=l.prog) (w:=w) (mg:=mg) (base:=base) F20 B Csigns_by Calone Cbad_text Cbad_name Cput_under) (PySem.W.mg_of X G a20) k20 b20
 have Cchanged:=Cal.mk (qoe (P:=l.prog) (w:=w) (mg:=mg) (base:=base) F21 B Ccell_at Cmoved Cturned) (PySem.W.mg_of X G a21) k21 b21
 have Cis_name:=Cal.mk (qof (P:=l.prog) (w:=w) (mg:=mg) (base:=base) F1 B) (PySem.W.mg_of X G a1) k1 b1
 have Cis_word:=Cal.mk (qoh (P:=l.prog) (w:=w) (mg:=mg) (base:=base) F3 B Cis_name) (PySem.W.mg_of X G a3) k3 b3
 have Cwords_of:=CalX.mk (ql3 (P:=l.prog) (w:=w) (mg:=mg) (base:=base) F4 B Cis_word) (PySem.W.mg_of X G a4) k4 b4
 have Cis_way_text:=Cal.mk (qg7 (P:=l.prog) (w:=w) (mg:=mg) (base:=base) F5 B Cwords_of) (PySem.W.mg_of X G a5) k5 b5
 have Cfits:=Cal.mk (qxl (P:=l.prog) (w:=w) (mg:=mg) (base:=base) F6 B Cis_way_text) (PySem.W.mg_of X G a6) k6 b6
 have Cis_entry:=Cal.mk (ql1 (P:=l.prog) (w:=w) (mg:=mg) (base:=base) F7 B Cis_name Cfits) (PySem.W.mg_of X G a7) k7 b7
 have Care_entries:=Cal.mk (qg6 (P:=l.prog) (w:=w) (mg:=mg) (base:=base) F8 B Cis_entry) (PySem.W.mg_of X G a8) k8 b8
 have Cabove:=Cal.mk (qtm (P:=l.prog) (w:=w) (mg:=mg) (base:=base) F2 B) (PySem.W.mg_of X G a2) k2 b2
 have Cis_tree:=Cal.mk (qog (P:=l.prog) (w:=w) (mg:=mg) (base:=base) F9 B Care_entries Cabove) (PySem.W.mg_of X G a9) k9 b9
 exact q0u F22 B Ctree_by Ccell_at Cname_by Cchanged Cis_tree
theorem walk{l:PySem.W.OpenLaw}{q:Program}{loose:List Str}{XP:(Str->Option Value)->Heap->Prop}{YP:World->Heap->Prop}{d:DefRec}{K:Params->PySem.W.Frag}(hn:l.most=some 63)(hdf:d.params.defaults=[])
  (hY:∀(w:World) (h:Heap),YP w h->(K w.params).In h)
  (F:∀(w:World) (mg:Str->Option Value) (fa:Addr) (h:Heap),(K w.params).In h->h.Ns mainGlobals mg->mg d.name=some (.ref fa) ->
   ∃fd:FuncData,(∀(s:Shared) (u:Value),BindsTo s fd ⟨[u],[]⟩ [("_law_script",u)])/\∀base:Heap,(K w.params).In base->base.Ns mainGlobals mg->FnOk l.prog w (K w.params) mg base CX0 9 fa fd ["_law_script"] (spOf (K w.params) qlf)) :
  PySem.W.WalkO q loose XP YP l.row.toRowW d [] (λf vs=>PySem.call f vs) :=
 L2.q4c (n:=63) (k:=9) (x:="_law_script") (CX:=λ_=>CX0) (sp:=λw=>spOf (K w.params) qlf) hn (by decide) hdf ⟨rfl,by decide,by decide⟩ hY F (λw H a ns hl _ hS=>q0o ns hl hS) λ_ _ _ _ _ z=>z
end K07
open PySem PySem.W PyProof.Rows
set_option maxRecDepth 100000 in
set_option maxHeartbeats 0 in
def PySem.W.Fast.tw9900545872354945104 := ()
def PySem.W.Fast.tw9815349752161855235 := ()
def PySem.W.Fast.tw979164276948968908 := ()
def PySem.W.Fast.tw9771540807483289528 := ()
def PySem.W.Fast.tw9680482531492197790 := ()
def PySem.W.Fast.tw9606795192098938693 := ()
def PySem.W.Fast.tw9522341796658995179 := ()
def PySem.W.Fast.tw9491314548312216400 := ()
def PySem.W.Fast.tw9471242104746528830 := ()
def PySem.W.Fast.tw9402487930752805647 := ()
def PySem.W.Fast.tw9302908092787860310 := ()
def PySem.W.Fast.tw9045903346129789120 := ()
def PySem.W.Fast.tw8887293066401598217 := ()
def PySem.W.Fast.tw8775080069356398004 := ()
def PySem.W.Fast.tw8747504391187566558 := ()
def PySem.W.Fast.tw8730491323604984194 := ()
def PySem.W.Fast.tw8643041589176921510 := ()
def PySem.W.Fast.tw8611762763163848981 := ()
def PySem.W.Fast.tw8470924696626990469 := ()
def PySem.W.Fast.tw846017539559800369 := ()
def PySem.W.Fast.tw8460033553086399138 := ()
def PySem.W.Fast.tw8452614654318605230 := ()
def PySem.W.Fast.tw837011883439601429 := ()
def PySem.W.Fast.tw8222447695552940273 := ()
def PySem.W.Fast.tw8031467501085484245 := ()
def PySem.W.Fast.tw8015479863725272542 := ()
def PySem.W.Fast.tw7770641120097688670 := ()
def PySem.W.Fast.tw7699630415881241892 := ()
def PySem.W.Fast.tw7693573618205637878 := ()
def PySem.W.Fast.tw7577731820385237390 := ()
def PySem.W.Fast.tw7412860360354900924 := ()
def PySem.W.Fast.tw7323823858162415522 := ()
def PySem.W.Fast.tw7310863661943187741 := ()
def PySem.W.Fast.tw7251883171721477083 := ()
def PySem.W.Fast.tw6944889303677519259 := ()
def PySem.W.Fast.tw678932892961716665 := ()
def PySem.W.Fast.tw6633289033596555997 := ()
def PySem.W.Fast.tw6618932348460913616 := ()
def PySem.W.Fast.tw6539288995862248974 := ()
def PySem.W.Fast.tw6495061022129050513 := ()
def PySem.W.Fast.tw6295149957253419472 := ()
def PySem.W.Fast.tw6046146543007522197 := ()
def PySem.W.Fast.tw6029648743087797807 := ()
def PySem.W.Fast.tw6006824525317634693 := ()
def PySem.W.Fast.tw5618583404382965986 := ()
def PySem.W.Fast.tw5448140606563423650 := ()
def PySem.W.Fast.tw5040714445060235184 := ()
def PySem.W.Fast.tw5036430545894480883 := ()
def PySem.W.Fast.tw4979018045087983084 := ()
def PySem.W.Fast.tw4821556936139368615 := ()
def PySem.W.Fast.tw4705100842621990899 := ()
def PySem.W.Fast.tw4660411156698200859 := ()
def PySem.W.Fast.tw4586969601612409872 := ()
def PySem.W.Fast.tw4327177143316327988 := ()
def PySem.W.Fast.tw4280576824145565434 := ()
def PySem.W.Fast.tw3993359287351664324 := ()
def PySem.W.Fast.tw3819075311066455884 := ()
def PySem.W.Fast.tw3773524416651965518 := ()
def PySem.W.Fast.tw3745885926889589495 := ()
def PySem.W.Fast.tw3553213557464242333 := ()
def PySem.W.Fast.tw3548581495394061202 := ()
def PySem.W.Fast.tw3452220880184706941 := ()
def PySem.W.Fast.tw3449727688886265279 := ()
def PySem.W.Fast.tw3263736447547374318 := ()
def PySem.W.Fast.tw3190504541980138063 := ()
def PySem.W.Fast.tw3185100680957218396 := ()
def PySem.W.Fast.tw3154962404877734761 := ()
def PySem.W.Fast.tw3099000687468782973 := ()
def PySem.W.Fast.tw2880890061741326485 := ()
def PySem.W.Fast.tw2870922218153774808 := ()
def PySem.W.Fast.tw2779041392353118937 := ()
def PySem.W.Fast.tw2774092575866716207 := ()
def PySem.W.Fast.tw2731405022184844498 := ()
def PySem.W.Fast.tw2717265993604428954 := ()
def PySem.W.Fast.tw2697356459894545237 := ()
def PySem.W.Fast.tw2536261645839498669 := ()
def PySem.W.Fast.tw2342408107299439857 := ()
def PySem.W.Fast.tw2146051281591968715 := ()
def PySem.W.Fast.tw2138503255688007605 := ()
def PySem.W.Fast.tw2032624752425423813 := ()
def PySem.W.Fast.tw18385741210603701126 := ()
def PySem.W.Fast.tw18370587397954902348 := ()
def PySem.W.Fast.tw18355974010372847561 := ()
def PySem.W.Fast.tw18354059106064377259 := ()
def PySem.W.Fast.tw18353595810382551280 := ()
def PySem.W.Fast.tw181513582941818936 := ()
def PySem.W.Fast.tw18075586468398119899 := ()
def PySem.W.Fast.tw18052709931753525953 := ()
def PySem.W.Fast.tw17761051919002020388 := ()
def PySem.W.Fast.tw17505603096215678281 := ()
def PySem.W.Fast.tw17492128566099682179 := ()
def PySem.W.Fast.tw17443179609269095725 := ()
def PySem.W.Fast.tw1734145086850426844 := ()
def PySem.W.Fast.tw17241466351367325908 := ()
def PySem.W.Fast.tw17090522047438838267 := ()
def PySem.W.Fast.tw16966313108680941953 := ()
def PySem.W.Fast.tw16943758872972131493 := ()
def PySem.W.Fast.tw1680442650623269571 := ()
def PySem.W.Fast.tw16523848373585922511 := ()
def PySem.W.Fast.tw16485173983593982661 := ()
def PySem.W.Fast.tw16223142135928439591 := ()
def PySem.W.Fast.tw16202899058238225527 := ()
def PySem.W.Fast.tw16200583715358273166 := ()
def PySem.W.Fast.tw1607042150646636303 := ()
def PySem.W.Fast.tw16049205902084781403 := ()
def PySem.W.Fast.tw15923818973211459858 := ()
def PySem.W.Fast.tw15875477732287786673 := ()
def PySem.W.Fast.tw15696781167227713421 := ()
def PySem.W.Fast.tw15509342705225917990 := ()
def PySem.W.Fast.tw15342575590444344209 := ()
def PySem.W.Fast.tw15290351464287151894 := ()
def PySem.W.Fast.tw15251638243300184881 := ()
def PySem.W.Fast.tw15166094837463271427 := ()
def PySem.W.Fast.tw15163544932560955451 := ()
def PySem.W.Fast.tw15155524366560144129 := ()
def PySem.W.Fast.tw15009012442474658726 := ()
def PySem.W.Fast.tw14825955502072232491 := ()
def PySem.W.Fast.tw14779915666826649628 := ()
def PySem.W.Fast.tw14766724369478716050 := ()
def PySem.W.Fast.tw14442576744075298028 := ()
def PySem.W.Fast.tw14345082944533015863 := ()
def PySem.W.Fast.tw14319929981821287779 := ()
def PySem.W.Fast.tw14297921654063967978 := ()
def PySem.W.Fast.tw14254039277835072950 := ()
def PySem.W.Fast.tw14032762507507728698 := ()
def PySem.W.Fast.tw13927408834086065311 := ()
def PySem.W.Fast.tw13921352817167396607 := ()
def PySem.W.Fast.tw13829750143133931184 := ()
def PySem.W.Fast.tw13386463992920644517 := ()
def PySem.W.Fast.tw13286532378418454099 := ()
def PySem.W.Fast.tw1313819199522492920 := ()
def PySem.W.Fast.tw12955987187523161010 := ()
def PySem.W.Fast.tw12857296719784345054 := ()
def PySem.W.Fast.tw12854111376596725499 := ()
def PySem.W.Fast.tw12817090001922686191 := ()
def PySem.W.Fast.tw12688130498605603306 := ()
def PySem.W.Fast.tw12548151527449788534 := ()
def PySem.W.Fast.tw12466098890705217824 := ()
def PySem.W.Fast.tw12318220869020596435 := ()
def PySem.W.Fast.tw12307210026600017306 := ()
def PySem.W.Fast.tw1221519780462365487 := ()
def PySem.W.Fast.tw12169468335412096376 := ()
def PySem.W.Fast.tw1214769286374900493 := ()
def PySem.W.Fast.tw12006116043452901515 := ()
def PySem.W.Fast.tw11882789464773703467 := ()
def PySem.W.Fast.tw11800344659248344858 := ()
def PySem.W.Fast.tw11778416206566791179 := ()
def PySem.W.Fast.tw11665048981211127781 := ()
def PySem.W.Fast.tw11611917298026498780 := ()
def PySem.W.Fast.tw11605315688670367685 := ()
def PySem.W.Fast.tw11536689821552449741 := ()
def PySem.W.Fast.tw11354561886819188256 := ()
def PySem.W.Fast.tw11259047095135829713 := ()
def PySem.W.Fast.tw11206041478027219738 := ()
def PySem.W.Fast.tw11118688492418919987 := ()
def PySem.W.Fast.tw11095789209837931064 := ()
def PySem.W.Fast.tw11006642105382355880 := ()
def PySem.W.Fast.tw10968142121292594107 := ()
def PySem.W.Fast.tw10952040628252481048 := ()
def PySem.W.Fast.tw10812434482864628265 := ()
def PySem.W.Fast.tw10734071785249117056 := ()
def PySem.W.Fast.tw10710474671891887185 := ()
def PySem.W.Fast.tw10674435066763168794 := ()
def PySem.W.Fast.tw10671681805425538182 := ()
def PySem.W.Fast.tw10648775570991711124 := ()
def PySem.W.Fast.tw10616026504788622076 := ()
def PySem.W.Fast.tw10166568622052850279 := ()
def PySem.W.Fast.tw10095453342367889422 := ()
def PySem.W.Fast.tw10086078303343260090 := ()
def PySem.W.Fast.tw10085678623032743883 := ()
def PySem.W.Fast.tw10041110150911022461 := ()
theorem PySem.Challenge.cw_glasslayers_k07_is_tree_holds : PySem.Challenge.rw_glasslayers_k07_is_tree.Holds := by
 w_on;o_law;k_head;(case hw=>w_witness2)
 k_fill
 refine K07.walk (l:=PySem.Challenge.rw_glasslayers_k07_is_tree) rfl rfl (λw h Y=>PySem.W.kIn_of Y) ?F
 case F =>
  intro w mg fa h KX G hmg
  refine' K07.q4d KX G hmg ?a1 ?l1 ?c1 ?k1 ?a2 ?l2 ?c2 ?k2 ?a3 ?l3 ?c3 ?k3 ?a4 ?l4 ?c4 ?k4 ?a5 ?l5 ?c5 ?k5 ?a6 ?l6 ?c6 ?k6 ?a7 ?l7 ?c7 ?k7 ?a8 ?l8 ?c8 ?k8 ?a9 ?l9 ?c9 ?k9 ?a10 ?l10 ?c10 ?k10 ?a11 ?l11 ?c11 ?k11 ?a12 ?l12 ?c12 ?k12 ?a13 ?l13 ?c13 ?k13 ?a14 ?l14 ?c14 ?k14 ?a15 ?l15 ?c15 ?k15 ?a16 ?l16 ?c16 ?k16 ?a17 ?l17 ?c17 ?k17 ?a18 ?l18 ?c18 ?k18 ?a19 ?l19 ?c19 ?k19 ?a20 ?l20 ?c20 ?k20 ?a21 ?l21 ?c21 ?k21 ?a22 ?l22 ?c22 ?k22 ?q_NoWay ?x_NoWay ?m_NoWay_NoWay ?g_NAME_SIGNS ?g_LONGEST_NAME ?g_MOST_WORDS ?g_BARE_MARKS ?h_BARE_MARKS ?u_BARE_MARKS ?w_BARE_MARKS ?g_TREE_MARKS ?h_TREE_MARKS ?u_TREE_MARKS ?w_TREE_MARKS ?z_all ?z_bool ?z_isinstance ?z_len ?z_list ?z_range ?z_sorted ?z_str ?z_zip
  (case a1=>k_is)
  (case l1=>k_is)
  (case c1=>k_is)
  (case k1=>k_is)
  (case a2=>k_is)
  (case l2=>k_is)
  (case c2=>k_is)
  (case k2=>k_is)
  (case a3=>k_is)
  (case l3=>k_is)
  (case c3=>k_is)
  (case k3=>k_is)
  (case a4=>k_is)
  (case l4=>k_is)
  (case c4=>k_is)
  (case k4=>k_is)
  (case a5=>k_is)
  (case l5=>k_is)
  (case c5=>k_is)
  (case k5=>k_is)
  (case a6=>k_is)
  (case l6=>k_is)
  (case c6=>k_is)
  (case k6=>k_is)
  (case a7=>k_is)
  (case l7=>k_is)
  (case c7=>k_is)
  (case k7=>k_is)
  (case a8=>k_is)
  (case l8=>k_is)
  (case c8=>k_is)
  (case k8=>k_is)
  (case a9=>k_is)
  (case l9=>k_is)
  (case c9=>k_is)
  (case k9=>k_is)
  (case a10=>k_is)
  (case l10=>k_is)
  (case c10=>k_is)
  (case k10=>k_is)
  (case a11=>k_is)
  (case l11=>k_is)
  (case c11=>k_is)
  (case k11=>k_is)
  (case a12=>k_is)
  (case l12=>k_is)
  (case c12=>k_is)
  (case k12=>k_is)
  (case a13=>k_is)
  (case l13=>k_is)
  (case c13=>k_is)
  (case k13=>k_is)
  (case a14=>k_is)
  (case l14=>k_is)
  (case c14=>k_is)
  (case k14=>k_is)
  (case a15=>k_is)
  (case l15=>k_is)
  (case c15=>k_is)
  (case k15=>k_is)
  (case a16=>k_is)
  (case l16=>k_is)
  (case c16=>k_is)
  (case k16=>k_is)
  (case a17=>k_is)
  (case l17=>k_is)
  (case c17=>k_is)
  (case k17=>k_is)
  (case a18=>k_is)
  (case l18=>k_is)
  (case c18=>k_is)
  (case k18=>k_is)
  (case a19=>k_is)
  (case l19=>k_is)
  (case c19=>k_is)
  (case k19=>k_is)
  (case a20=>k_is)
  (case l20=>k_is)
  (case c20=>k_is)
  (case k20=>k_is)
  (case a21=>k_is)
  (case l21=>k_is)
  (case c21=>k_is)
  (case k21=>k_is)
  (case a22=>k_is)
  (case l22=>k_is)
  (case c22=>k_is)
  (case k22=>k_is)
  (case q_NoWay=>k_is)
  (case x_NoWay=>(delta L2.OwnX;k_exc))
  (case m_NoWay_NoWay=>kts_exm)
  (case g_NAME_SIGNS=>k_is)
  (case g_LONGEST_NAME=>k_is)
  (case g_MOST_WORDS=>k_is)
  (case g_BARE_MARKS=>k_is)
  (case h_BARE_MARKS=>k_is)
  (case u_BARE_MARKS=>rfl)
  (case w_BARE_MARKS=>rfl)
  (case g_TREE_MARKS=>k_is)
  (case h_TREE_MARKS=>k_is)
  (case u_TREE_MARKS=>rfl)
  (case w_TREE_MARKS=>rfl)
  (case z_all=>k_is)
  (case z_bool=>k_is)
  (case z_isinstance=>k_is)
  (case z_len=>k_is)
  (case z_list=>k_is)
  (case z_range=>k_is)
  (case z_sorted=>k_is)
  (case z_str=>k_is)
  (case z_zip=>k_is)
