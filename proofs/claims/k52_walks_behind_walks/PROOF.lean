import PyProof.Rows.All
import Wide.All
import OpenK.AllK
import Wide.FinOn
import Lean
import PyProof.EqAt
import PyProof.EqKinds
import PyProof.TupleCall
import PySem.Challenge.RW_glasslayers_k52_walks_behind_walks
set_option compiler.extract_closed false
set_option Elab.async false
set_option linter.all false
set_option maxRecDepth 100000
namespace L2
open PySem PySem.Spec PyProof.Rows
abbrev Key:=Sum Int Str
def keyIs:Key→Value→Bool
 | .inl k,v=>Value.isInt k v
 | .inr x,v=>Value.isStrOf x v
def keyH (w:World):Key→Int
 | .inl k=>hashInt k
 | .inr x=>hashStr w x
theorem keyIs_shape:∀ {k:Key} {v:Value},keyIs k v=true→(∃ i t,k=Sum.inl i∧v=Value.int i t)∨(∃ x t,k=Sum.inr x∧v=Value.str x t)
 | .inl i,v,h=>by
  obtain ⟨t,e⟩:=Value.isInt_shape (k:=i) (v:=v) h
  exact .inl ⟨i,t,rfl,e⟩
 | .inr x,v,h=>by
  obtain ⟨t,e⟩:=Value.isStrOf_shape (x:=x) (v:=v) h
  exact .inr ⟨x,t,rfl,e⟩
theorem keyIs_int (i:Int) (t:Tok):keyIs (.inl i) (.int i t)=true:=by simp [keyIs,Value.isInt]
theorem keyIs_str (x:Str) (t:Tok):keyIs (.inr x) (.str x t)=true:=by simp [keyIs,Value.isStrOf]
theorem key_ll (a b:Int):decide ((Sum.inl a:Key)=Sum.inl b)=(a == b):=by
 by_cases e:a=b
 ·subst e; simp
 ·have h:¬ (Sum.inl a:Key)=Sum.inl b:=fun q=>e (Sum.inl.inj q)
  rw [decide_eq_false h]
  exact (beq_eq_false_iff_ne.mpr e).symm
theorem key_rr (a b:Str):decide ((Sum.inr a:Key)=Sum.inr b)=decide (a=b):=by
 by_cases e:a=b
 ·subst e; simp
 ·have h:¬ (Sum.inr a:Key)=Sum.inr b:=fun q=>e (Sum.inr.inj q)
  rw [decide_eq_false h,decide_eq_false e]
theorem key_lr (a:Int) (b:Str):decide ((Sum.inl a:Key)=Sum.inr b)=false:=decide_eq_false (fun q=>nomatch q)
theorem key_rl (a:Str) (b:Int):decide ((Sum.inr a:Key)=Sum.inl b)=false:=decide_eq_false (fun q=>nomatch q)
def mixKind (prog:Program) (w:World):PySem.KeyKind prog w Key where
 is:=keyIs
 hash:=keyH w
 inj:=fun v a b ha hb=>by
  rcases keyIs_shape ha with ⟨i,t,rfl,rfl⟩ | ⟨x,t,rfl,rfl⟩
  ·rcases keyIs_shape hb with ⟨j,u,rfl,e⟩ | ⟨y,u,rfl,e⟩
   ·injection e with e1 _; rw [e1]
   ·exact nomatch e
  ·rcases keyIs_shape hb with ⟨j,u,rfl,e⟩ | ⟨y,u,rfl,e⟩
   ·exact nomatch e
   ·injection e with e1 _; rw [e1]
 byValue:=fun k v h=>by
  rcases keyIs_shape h with ⟨i,t,rfl,rfl⟩ | ⟨x,t,rfl,rfl⟩ <;> rfl
 pyHash:=fun hv h=>by
  rcases keyIs_shape hv with ⟨i,t,rfl,rfl⟩ | ⟨x,t,rfl,rfl⟩
  ·exact wpAny_pyHash_int h
  ·exact wpAny_pyHash_str h
 eqBool:=fun hu hv h=>by
  rcases keyIs_shape hu with ⟨i,t,rfl,rfl⟩ | ⟨x,t,rfl,rfl⟩
  ·rcases keyIs_shape hv with ⟨j,u,rfl,rfl⟩ | ⟨y,u,rfl,rfl⟩
   ·rw [key_ll] at h; exact wpAny_eqBool_int h
   ·rw [key_lr] at h; exact SeqAt.EqAt.int_str i t y u _ _ _ _ h
  ·rcases keyIs_shape hv with ⟨j,u,rfl,rfl⟩ | ⟨y,u,rfl,rfl⟩
   ·rw [key_rl] at h; exact SeqAt.EqAt.str_int x t j u _ _ _ _ h
   ·rw [key_rr] at h; exact wpAny_eqBool_str h
 «strs»:=fun k x t v h=>by
  rcases keyIs_shape h with ⟨i,u,rfl,e⟩ | ⟨y,u,rfl,e⟩
  ·exact nomatch e
  ·injection e with e1 _
   subst e1
   cases v <;> rfl
theorem mixKind_int (prog:Program) (w:World) (i:Int) (t:Tok):(mixKind prog w).is (.inl i) (.int i t)=true:=keyIs_int i t
theorem mixKind_str (prog:Program) (w:World) (x:Str) (t:Tok):(mixKind prog w).is (.inr x) (.str x t)=true:=keyIs_str x t
end L2
namespace L2
open PySem PySem.Spec PyProof.Rows
inductive V where
 | non | bl (b:Bool) | int (i:Int) | str (x:Str) | byt (b:Array UInt8) | flt (b:UInt64) | ref (a:Addr) | ty (n:String)
 deriving DecidableEq
def RelV:V→Value→Prop
 | .non,u=>u=Value.none
 | .bl b,u=>u=Value.bool b
 | .int i,u=>∃ t,u=Value.int i t
 | .str x,u=>∃ t,u=Value.str x t
 | .byt b,u=>∃ t,u=Value.bytes b t
 | .flt b,u=>∃ t,u=Value.float b t
 | .ref a,u=>u=Value.ref a
 | .ty n,u=>u=Value.type n
abbrev Vals:List V→List Value→Prop:=Paired RelV
theorem Vals.length {xs:List V} {us:List Value} (r:Vals xs us):xs.length=us.length:=Paired.length r
theorem Vals.get:∀ {xs:List V} {us:List Value} {i:Nat} {x:V},Vals xs us→xs[i]?=some x→∃ u,us[i]?=some u∧RelV x u
 | _,_,_,_,.nil,e=>by simp at e
 | _,_,0,_,.cons r _,e=>by simp at e; subst e; exact ⟨_,rfl,r⟩
 | _,_,i+1,x,.cons _ t,e=>by
  obtain ⟨u,h1,h2⟩:=Vals.get (i:=i) (x:=x) t (by simpa using e)
  exact ⟨u,by simpa using h1,h2⟩
theorem Vals.set {x:V} {u:Value} (r:RelV x u):∀ {xs:List V} {us:List Value} (i:Nat),Vals xs us→Vals (xs.set i x) (us.set i u)
 | _,_,_,.nil=>.nil
 | _,_,0,.cons _ t=>.cons r t
 | _,_,i+1,.cons q t=>.cons q (Vals.set r i t)
theorem Vals.append:∀ {xs ys:List V} {us ws:List Value},Vals xs us→Vals ys ws→Vals (xs++ys) (us++ws)
 | _,_,_,_,.nil,s=>s
 | _,_,_,_,.cons r t,s=>.cons r (Vals.append t s)
theorem Vals.take:∀ {xs:List V} {us:List Value} (n:Nat),Vals xs us→Vals (xs.take n) (us.take n)
 | _,_,0,_=>.nil
 | _,_,_+1,.nil=>.nil
 | _,_,n+1,.cons r t=>.cons r (Vals.take n t)
theorem Vals.drop:∀ {xs:List V} {us:List Value} (n:Nat),Vals xs us→Vals (xs.drop n) (us.drop n)
 | _,_,0,r=>r
 | _,_,_+1,.nil=>.nil
 | _,_,n+1,.cons _ t=>Vals.drop n t
def RelO:Option V→Option Value→Prop
 | some v,some u=>RelV v u
 | none,none=>True
 | _,_=>False
def KV {κ:Type}:List (κ × V)→List (κ × Value)→Prop:=Paired fun (p:κ × V) (q:κ × Value)=>p.1=q.1∧RelV p.2 q.2
def kV:Key→V
 | .inl i=>.int i
 | .inr x=>.str x
inductive HO where
 | lst (xs:List V)
 | tup (xs:List V)
 | dK (kvs:List (Key × V)) | dT (kvs:List (List Key × V))
 | set (S:Int→Bool) (n:Nat)
 | ins (C dx:Addr) (fs:List (Str × V))
 | own (x:Addr)
 | xd (fs:List (Str × V))
 | met (f x:Addr)
 | rng (lo hi:Int)
 | frz (o:Obj) (u:HO)
 | tbl (ps:Array Value)
 | ext (φ:Heap→Prop)
abbrev Hp:=Addr→Option HO
def upd (H:Hp) (a:Addr) (o:HO):Hp:=fun b=>if b=a then some o else H b
theorem upd_same {H:Hp} {a:Addr} {o:HO}:upd H a o a=some o:=by unfold upd; rw [if_pos rfl]
theorem upd_ne {H:Hp} {a b:Addr} {o:HO} (h:b≠a):upd H a o b=H b:=by unfold upd; rw [if_neg h]
theorem ne_of {H:Hp} {a b:Addr} {o u:HO} (h:H a=some o) (h':H b=some u) (d:o≠u):a≠b:=by
 intro e; subst e; rw [h] at h'; exact d (Option.some.inj h')
theorem ne_of_none {H:Hp} {a b:Addr} {o:HO} (h:H a=some o) (h':H b=none):a≠b:=by
 intro e; subst e; rw [h] at h'; cases h'
section
variable (P:Program) (w:World)
def ObjOk (H:Hp) (h:Heap) (a:Addr):HO→Prop
 | .lst xs=>xs.length≤sizeLine∧∃ (its:List Value) (n:Nat),Vals xs its∧h.get? a=some { cls:=.type "list",data:=.seq its.toArray n }
 | .tup xs=>xs.length≤sizeLine∧∃ its:List Value,Vals xs its∧IsTup h a its.toArray
 | .dK kvs=>kvs.length≤sizeLine∧(a == sysModules)=false∧∃ vs,KV kvs vs∧h.DictOf (mixKind P w) a vs
 | .dT kvs=>kvs.length≤sizeLine∧(a == sysModules)=false∧∃ xs:List (List Key × Addr × Value),
   Paired (fun (p:List Key × V) (q:List Key × Addr × Value)=>p.1=q.1∧H q.2.1=some (.tup (p.1.map kV))∧RelV p.2 q.2.2) kvs xs ∧
   ∃ o es ep,h.get? a=some o∧o.ExactDict∧o.data=.dict es ep∧es.toList=xs.map (entryOfKey (tupleKind (mixKind P w)))∧(xs.map (·.1)).Nodup
 | .set S n=>h.SetOf (intKind P w) a S n
 | .ins C dx fs=>H dx=some (.own a)∧fs.length≤1000∧dx≠a∧h.get? a=some (PySem.W.instObj C dx) ∧
   ∃ mA,h.Ns1 dx mA∧(∀ f,RelO (fs.lookup f) (mA f))∧PySem.Within mA (fs.map (·.1))
 | .own _=>∃ o,h.get? a=some o
 | .xd fs=>∃ mA,h.Ns1 a mA∧∀ f,RelO (fs.lookup f) (mA f)
 | .rng lo hi=>∃ t u v,h.get? a=some { cls:=.type "range",data:=.fields #[.int lo t,.int hi u,.int 1 v] }
 | .frz o u=>h.get? a=some o∧ObjOk H h a u
 | .tbl ps=>h.get? a=some { cls:=.none,data:=.fields ps }
 | .met f x=>h.get? a=some (PySem.W.methodObj (.ref f) (.ref x))
 | .ext φ=>φ h∧(∃ o,h.get? a=some o)∧∀ h1 h2:Heap,φ h1→(∀ o,h1.get? a=some o→h2.get? a=some o)→φ h2
def HOk (H:Hp) (h:Heap):Prop:=∀ a o,H a=some o→ObjOk P w H h a o
end
section
variable {P:Program} {w:World} {H H':Hp} {h h':Heap} {a:Addr} {o:HO}
theorem ObjOk.lt (x:ObjOk P w H h a o):a < h.objs.size:=by
 cases o with
 | lst xs=>obtain ⟨_,_,_,_,e⟩:=x; exact Heap.lt_size e
 | tup xs=>obtain ⟨_,_,_,p⟩:=x; exact p.lt
 | dK kvs=>obtain ⟨_,_,_,_,o,_,_,e,_⟩:=x; exact Heap.lt_size e
 | dT kvs=>obtain ⟨_,_,_,_,o,_,_,e,_⟩:=x; exact Heap.lt_size e
 | set S n=>obtain ⟨o,_,_,_,e,_⟩:=x; exact Heap.lt_size e
 | ins C dx fs=>obtain ⟨_,_,_,e,_⟩:=x; exact Heap.lt_size e
 | own y=>obtain ⟨_,e⟩:=x; exact Heap.lt_size e
 | xd fs=>obtain ⟨_,⟨_,_,_,e,_⟩,_⟩:=x; exact Heap.lt_size e
 | rng lo hi=>obtain ⟨_,_,_,e⟩:=x; exact Heap.lt_size e
 | frz ob u=>obtain ⟨e,_⟩:=x; exact Heap.lt_size e
 | tbl ps=>exact Heap.lt_size (show h.get? a=some _ from x)
 | met f y=>exact Heap.lt_size (show h.get? a=some _ from x)
 | ext φ=>obtain ⟨_,⟨_,e⟩,_⟩:=x; exact Heap.lt_size e
theorem Paired.mapP {α β:Type} {F G:α→β→Prop}:∀ {l₁:List α} {l₂:List β},Paired F l₁ l₂→(∀ a b,F a b→G a b)→Paired G l₁ l₂
 | _,_,.nil,_=>.nil
 | _,_,.cons r t,f=>.cons (f _ _ r) (Paired.mapP t f)
theorem ObjOk.stay (x:ObjOk P w H h a o) (k:∀ b u,(b=a∨H b=some (.own a))→h.get? b=some u→h'.get? b=some u)
  (ho:∀ b,H b=some (.own a)→H' b=some (.own a)) (ht:∀ b xs,H b=some (.tup xs)→H' b=some (.tup xs)):ObjOk P w H' h' a o:=by
 induction o with
 | lst xs=>obtain ⟨z,its,n,r,e⟩:=x; exact ⟨z,its,n,r,k _ _ (.inl rfl) e⟩
 | tup xs=>obtain ⟨z,its,r,ob,e,c⟩:=x; exact ⟨z,its,r,ob,k _ _ (.inl rfl) e,c⟩
 | dK kvs=>obtain ⟨z,y,vs,r,ob,es,ep,e,c⟩:=x; exact ⟨z,y,vs,r,ob,es,ep,k _ _ (.inl rfl) e,c⟩
 | dT kvs =>
  obtain ⟨z,y,xs,r,ob,es,ep,e,c⟩:=x
  exact ⟨z,y,xs,Paired.mapP r fun p q z=>⟨z.1,ht _ _ z.2.1,z.2.2⟩,ob,es,ep,k _ _ (.inl rfl) e,c⟩
 | set S n=>obtain ⟨ob,es,ep,t,e,c⟩:=x; exact ⟨ob,es,ep,t,k _ _ (.inl rfl) e,c⟩
 | ins C dx fs =>
  obtain ⟨d,z,ne,e,mA,⟨od,es,ep,e2,c⟩,r⟩:=x
  exact ⟨ho _ d,z,ne,k _ _ (.inl rfl) e,mA,⟨od,es,ep,k _ _ (.inr d) e2,c⟩,r⟩
 | own y=>obtain ⟨ob,e⟩:=x; exact ⟨ob,k _ _ (.inl rfl) e⟩
 | xd fs=>obtain ⟨mA,⟨od,es,ep,e,c⟩,r⟩:=x; exact ⟨mA,⟨od,es,ep,k _ _ (.inl rfl) e,c⟩,r⟩
 | rng lo hi=>obtain ⟨t,u,v,e⟩:=x; exact ⟨t,u,v,k _ _ (.inl rfl) e⟩
 | frz ob u ih=>obtain ⟨e,q⟩:=x; exact ⟨k _ _ (.inl rfl) e,ih q⟩
 | tbl ps =>
  have e:h.get? a=some { cls:=.none,data:=.fields ps }:=x
  show h'.get? a=some { cls:=.none,data:=.fields ps }
  exact k a _ (.inl rfl) e
 | met f y =>
  have e:h.get? a=some (PySem.W.methodObj (.ref f) (.ref y)):=x
  show h'.get? a=some (PySem.W.methodObj (.ref f) (.ref y))
  exact k a _ (.inl rfl) e
 | ext φ=>obtain ⟨p,⟨o,e⟩,st⟩:=x; exact ⟨st _ _ p fun o q=>k _ _ (.inl rfl) q,⟨o,k _ _ (.inl rfl) e⟩,st⟩
theorem HOk.lt (x:HOk P w H h) (e:H a=some o):a < h.objs.size:=(x a o e).lt
theorem HOk.fresh (x:HOk P w H h) (e:h.objs.size≤a):H a=none:=by
 cases q:H a with
 | none=>rfl
 | some u=>exact absurd (Nat.lt_of_lt_of_le (x.lt q) e) (Nat.lt_irrefl _)
theorem HOk.kept (x:HOk P w H h) (k:∀ b u,h.get? b=some u→h'.get? b=some u):HOk P w H h':=fun a o e =>
 (x a o e).stay (fun b u _ q=>k b u q) (fun _ q=>q) fun _ _ q=>q
theorem HOk.laid (x:HOk P w H h) (k:∀ b u,h.get? b=some u→h'.get? b=some u) (hp:h.objs.size≤a) (new:ObjOk P w (upd H a o) h' a o):HOk P w (upd H a o) h':=fun b u e=>by
 have hn:=x.fresh hp
 by_cases hb:b=a
 ·subst hb; rw [upd_same] at e; cases e; exact new
 ·rw [upd_ne hb] at e
  exact (x b u e).stay (fun c v _ q=>k c v q) (fun c q=>by rw [upd_ne (ne_of_none q hn)]; exact q) fun c xs q=>by rw [upd_ne (ne_of_none q hn)]; exact q
end
def Rd (H:Hp) (a:Addr) (u:HO):Prop:=H a=some u∨∃ o,H a=some (.frz o u)
theorem Rd.ok {P:Program} {w:World} {H:Hp} {h:Heap} {a:Addr} {u:HO} (r:Rd H a u) (x:HOk P w H h):ObjOk P w H h a u:=by
 rcases r with r | ⟨o,r⟩
 ·exact x a u r
 ·obtain ⟨_,q⟩:=x a _ r
  exact q
def Mut:Option HO→Prop
 | some (.lst _)=>True
 | some (.dK _)=>True
 | some (.dT _)=>True
 | some (.set _ _)=>True
 | some (.ins _ _ _)=>True
 | some (.ext _)=>True
 | _=>False
section
variable {P:Program} {w:World} {H:Hp} {h h':Heap} {x e:Addr} {o':HO}
theorem HOk.write (ok:HOk P w H h) (mu:Mut (H x)) (he:e=x∨H e=some (.own x)) (k:∀ b u,b≠e→h.get? b=some u→h'.get? b=some u) (heo:∃ u,h'.get? e=some u)
  (new:ObjOk P w (upd H x o') h' x o'):HOk P w (upd H x o') h':=fun b u q=>by
 have nown:∀ c y,H c=some (.own y)→c≠x:=fun c y r z=>by subst z; rw [r] at mu; exact mu
 have ntup:∀ c xs,H c=some (.tup xs)→c≠x:=fun c xs r z=>by subst z; rw [r] at mu; exact mu
 by_cases hb:b=x
 ·subst hb; rw [upd_same] at q; cases q; exact new
 ·rw [upd_ne hb] at q
  by_cases hbe:b=e
  ·have q':H b=some (.own x):=by
    rcases he with z | z
    ·exact absurd (hbe.trans z) hb
    ·rw [hbe]; exact z
   rw [q] at q'; cases q'
   obtain ⟨v,hv⟩:=heo
   exact ⟨v,by rw [hbe]; exact hv⟩
  ·refine (ok b u q).stay (fun c v hc r=>k c v ?_ r) (fun c r=>by rw [upd_ne (nown c b r)]; exact r) fun c xs r=>by rw [upd_ne (ntup c xs r)]; exact r
   rcases hc with rfl | hc
   ·exact hbe
   ·rintro rfl
    rcases he with z | z
    ·exact nown c b hc z
    ·rw [hc] at z; cases z; exact hb rfl
end
structure Un (fs ex:List Addr) (H H':Hp) (h h':Heap):Prop where
 keep:∀ b o,h.get? b=some o→H b=none→b∉fs→b∉ex→h'.get? b=some o
 slot:∀ b o,h.get? b=some o→H b=none→b∈fs→b∉ex→∃ sl,h'.get? b=some { o with slots:=sl }
 free:∀ b o,h.get? b=some o→H b=none→b∉ex→H' b=none
 there:∀ b o,h.get? b=some o→b∉ex→∃ o',h'.get? b=some o'
 tups:∀ b xs,H b=some (.tup xs)→H' b=some (.tup xs)
 frzs:∀ b o u,H b=some (.frz o u)→H' b=some (.frz o u)
 tbls:∀ b ps,H b=some (.tbl ps)→∃ more,H' b=some (.tbl (ps++more))
section
variable {fs fs' ex ex':List Addr} {H H1 H2:Hp} {h h1 h2 h':Heap} {a x e:Addr} {o:HO}
theorem Un.any (u:Un fs ex H H1 h h1) {b:Addr} {ob:Obj} (q:h.get? b=some ob) (n:H b=none) (hx:b∉ex):∃ sl,h1.get? b=some { ob with slots:=sl }:=by
 by_cases hb:b∈fs
 ·exact u.slot b ob q n hb hx
 ·exact ⟨ob.slots,u.keep b ob q n hb hx⟩
theorem Un.kept (k:∀ b u,h.get? b=some u→h'.get? b=some u):Un fs ex H H h h' :=
 ⟨fun b ob q _ _ _=>k b ob q,fun b ob q _ _ _=>⟨ob.slots,k b ob q⟩,fun _ _ _ n _=>n,fun b ob q _=>⟨ob,k b ob q⟩,fun _ _ q=>q,fun _ _ _ q=>q,fun _ ps q=>⟨#[],by rw [q]; simp⟩⟩
theorem Un.refl:Un fs ex H H h h:=Un.kept fun _ _ q=>q
theorem Un.laid (k:∀ b u,h.get? b=some u→h'.get? b=some u) (hp:h.objs.size≤a) (hn:H a=none):Un fs ex H (upd H a o) h h' where
 keep:=fun b u q _ _ _=>k b u q
 slot:=fun b u q _ _ _=>⟨u.slots,k b u q⟩
 free:=fun b u q n _=>by rw [upd_ne (Nat.ne_of_lt (Nat.lt_of_lt_of_le (Heap.lt_size q) hp))]; exact n
 there:=fun b u q _=>⟨u,k b u q⟩
 tups:=fun b xs q=>by rw [upd_ne (ne_of_none q hn)]; exact q
 frzs:=fun b u xs q=>by rw [upd_ne (ne_of_none q hn)]; exact q
 tbls:=fun b ps q=>⟨#[],by rw [upd_ne (ne_of_none q hn),q]; simp⟩
theorem Un.write (mu:Mut (H x)) (he:e=x∨H e=some (.own x)) (k:∀ b u,b≠e→h.get? b=some u→h'.get? b=some u) (heo:∃ u,h'.get? e=some u):Un fs ex H (upd H x o) h h':=by
 have hx:∀ b,H b=none→b≠x:=fun b n z=>by subst z; rw [n] at mu; exact mu
 have hb:∀ b,H b=none→b≠e:=fun b n z=>by
  subst z
  rcases he with r | r
  ·exact hx b n r
  ·rw [n] at r; cases r
 have hm:∀ b u,H b=some u→¬ Mut (some u)→b≠x:=fun b u q nm z=>by subst z; rw [q] at mu; exact nm mu
 refine ⟨fun b u q n _ _=>k b u (hb b n) q,fun b u q n _ _=>⟨u.slots,k b u (hb b n) q⟩,fun b u q n _=>by rw [upd_ne (hx b n)]; exact n,fun b u q _=>?_,
  fun b xs q=>by rw [upd_ne (hm b _ q fun z=>z)]; exact q,fun b u xs q=>by rw [upd_ne (hm b _ q fun z=>z)]; exact q,fun b ps q=>⟨#[],by rw [upd_ne (hm b _ q fun z=>z),q]; simp⟩⟩
 by_cases hbe:b=e
 ·subst hbe; exact heo
 ·exact ⟨u,k b u hbe q⟩
theorem Un.mono (u:Un fs ex H H1 h h1) (hs:∀ b∈fs,b∈fs') (hx:∀ b∈ex,b∈ex'):Un fs' ex' H H1 h h1 :=
 ⟨fun b ob q n hb he=>u.keep b ob q n (fun z=>hb (hs b z)) fun z=>he (hx b z),fun _ _ q n _ he=>u.any q n fun z=>he (hx _ z),fun b ob q n he=>u.free b ob q n fun z=>he (hx b z),fun b ob q he=>u.there b ob q fun z=>he (hx b z),u.tups,u.frzs,u.tbls⟩
end
def trk (h:Heap) (H:Hp):List Addr:=(List.range h.objs.size).filter fun a=>(H a).isSome
def hidT (h:Heap) (H:Hp):Heap:=PySem.W.hideAll h (trk h H)
theorem hidT_size (h:Heap) (H:Hp):(hidT h H).objs.size=h.objs.size:=PySem.W.hideAll_size _ _
theorem hidT_get {h:Heap} {H:Hp} {b:Addr} {o:Obj} (e:h.get? b=some o) (n:H b=none):(hidT h H).get? b=some o :=
 PySem.W.hideAll_get _ e fun hm=>by
  have q:(H b).isSome=true:=(List.mem_filter.mp hm).2
  rw [n] at q; simp at q
theorem of_hidT {h:Heap} {H:Hp} {b:Addr} {o:Obj} (e:(hidT h H).get? b=some o):h.get? b=some o∧H b=none:=by
 have e':h.get? b=some o:=PySem.W.of_hideAll (trk h H) e
 refine ⟨e',?_⟩
 cases q:H b with
 | none=>rfl
 | some x =>
  have hm:b∈trk h H:=List.mem_filter.mpr ⟨List.mem_range.mpr (Heap.lt_size e'),by simp [q]⟩
  have z:(hidT h H).get? b=none:=PySem.W.hideAll_none (trk h H) hm
  rw [z] at e; cases e
def allNews (g h:Heap) (L:Addr):List (Addr × Obj):=(List.range h.objs.size).filterMap fun a=>if a=L∨(g.get? a).isSome=true then none else (h.get? a).map fun o=>(a,o)
def rest (g h:Heap) (L d:Addr):List (Addr × Obj):=(allNews g h L).filter fun p=>decide (p.1≠d)
end L2
namespace L2
open PySem PySem.Spec PyProof.Rows
structure Mod (K:PySem.W.Frag) (mg:Str→Option Value) (base:Heap):Prop where
 kin:K.In base
 glob:base.Ns mainGlobals mg
 blt:∃ mb,base.Ns builtinsNs mb∧∀ x:Str,x≠"__name__" → mb x=bootBuiltins x
 nolimit:base.NoLimit
structure Cx where
 prog:Program
 w:World
 K:PySem.W.Frag
 mg:Str→Option Value
 base:Heap
 A:Around
 N:List Str
 s₀:Shared
 H₀:Hp
 env:Env
 outer:List Env
 stack:List Env
 ex:List Addr
 fn:Str→Bool
 calm:Bool
 pn:List (Addr × Obj)
 xe:Value→Shared→Prop
def frs (l:List Env):List Addr:=l.filterMap (·.frame)
abbrev Cx.fs (X:Cx):List Addr:=frs X.outer
def Vis (sc:Scope) (x:Str):Prop:=sc.names.lookup x=some .local∨sc.names.lookup x=some .cell∨sc.names.lookup x=some .free
def Loc (sc:Scope) (x:Str):Prop:=sc.names.lookup x=some .local∨sc.names.lookup x=some .cell
def Look (env:Env) (h:Heap) (m:Str→Option Value) (x:Str) (u:Value):Prop :=
 (env.kindOf x=some .local∧m x=some u)∨((env.kindOf x=some .cell∨env.kindOf x=some .free)∧∃ c,env.cells.lookup x=some c∧h.IsCell c (some u))
structure Cx.Ok (X:Cx):Prop where
 mod:Mod X.K X.mg X.base
 kind:X.env.scope.kind=.function
 glob:X.env.globals=mainGlobals
 blt:X.env.builtins=builtinsNs
 above:X.s₀.heap.objs.size≤X.env.locals
 inj:∀ x y c,X.env.cells.lookup x=some c→X.env.cells.lookup y=some c→x=y
 has:∀ x,(X.env.kindOf x=some .cell∨X.env.kindOf x=some .free)→∃ c,X.env.cells.lookup x=some c
 cab:∀ x c,X.fn x=true→X.env.cells.lookup x=some c→X.s₀.heap.objs.size≤c
 hd:X.calm=true→X.A.handled=none
 frames:X.A.frames=some X.stack
 stk:X.stack=X.outer∨(X.stack=X.env :: X.outer∧X.env.frame=some X.env.locals)
 exf:∀ b∈X.ex,b≠X.env.locals∧∀ x c,X.env.cells.lookup x=some c→c≠b
 bs:∀ b o,X.base.get? b=some o→X.s₀.heap.get? b=some o∧X.H₀ b=none
 bsz:X.base.objs.size≤X.s₀.heap.objs.size
 noex:∀ b o,X.base.get? b=some o→b∉X.ex
 exfs:∀ b∈X.ex,b∉X.fs
 funs:X.s₀.heap.FunFrames X.base X.outer
 frf:∀ b∈X.fs,X.H₀ b=none
structure Inv (X:Cx) (pins:List (Addr × Obj)) (σ:List (Option V)) (H:Hp) (s:Shared):Prop where
 ok:X.Ok
 os:s.os=X.s₀.os
 bare:AllBare s.gens
 base:Un X.fs X.ex X.H₀ H X.s₀.heap s.heap
 loc:∃ m,s.heap.Ns X.env.locals m∧∀ (i:Nat) (x:Str) (v:V),X.N[i]?=some x→σ[i]?=some (some v)→Vis X.env.scope x→∃ u,RelV v u∧Look X.env s.heap m x u
 cell:∀ x c,X.env.cells.lookup x=some c→∃ v,s.heap.IsCell c v
 free:H X.env.locals=none
 freeC:∀ x c,X.env.cells.lookup x=some c→H c=none
 pin:∀ p∈X.pn++pins,s.heap.get? p.1=some p.2∧H p.1=none∧p.1≠X.env.locals∧p.1∉X.fs∧∀ v,p.2.data≠.cell v
 hok:HOk X.prog X.w H s.heap
 len:σ.length=X.N.length
section
variable {X:Cx} {pins:List (Addr × Obj)} {σ:List (Option V)} {H H':Hp} {s:Shared} {h':Heap}
theorem Cx.Ok.nofr (ok:X.Ok) {b:Addr} {o:Obj} (e:X.base.get? b=some o):b∉X.fs:=fun hb=>by
 have:=(ok.funs.mem hb).1
 rw [e] at this; cases this
theorem Inv.bs (I:Inv X pins σ H s):∀ b o,X.base.get? b=some o→s.heap.get? b=some o∧H b=none:=fun b o e =>
 ⟨I.base.keep b o (I.ok.bs b o e).1 (I.ok.bs b o e).2 (I.ok.nofr e) (I.ok.noex b o e),I.base.free b o (I.ok.bs b o e).1 (I.ok.bs b o e).2 (I.ok.noex b o e)⟩
theorem Inv.bk (I:Inv X pins σ H s):∀ b o,X.base.get? b=some o→s.heap.get? b=some o:=fun b o e=>(I.bs b o e).1
theorem Inv.mod (I:Inv X pins σ H s):Mod X.K X.mg X.base:=I.ok.mod
theorem Inv.kIn (I:Inv X pins σ H s):X.K.In s.heap:=I.ok.mod.kin.keeps I.bk
theorem Inv.lt (I:Inv X pins σ H s):X.env.locals < s.heap.objs.size:=let ⟨_,hn,_⟩:=I.loc; hn.lt
theorem Inv.sz (I:Inv X pins σ H s):X.s₀.heap.objs.size≤s.heap.objs.size:=Nat.le_trans I.ok.above (Nat.le_of_lt I.lt)
theorem Inv.nofs (I:Inv X pins σ H s) {a:Addr} (h:s.heap.objs.size≤a):a∉X.fs:=fun hb=>by
 obtain ⟨_,o,ho,_⟩:=I.ok.funs.mem hb
 exact absurd (Nat.lt_of_lt_of_le (Heap.lt_size ho) (Nat.le_trans I.sz h)) (Nat.lt_irrefl _)
theorem Inv.cne (I:Inv X pins σ H s):∀ x c,X.env.cells.lookup x=some c→c≠X.env.locals:=fun x c e z=>by
 obtain ⟨v,o,ho,hd⟩:=I.cell x c e
 obtain ⟨m,⟨o',es,ep,ho',hd',_⟩,_⟩:=I.loc
 rw [z,ho'] at ho; cases ho; rw [hd'] at hd; cases hd
theorem Inv.funs (I:Inv X pins σ H s):s.heap.FunFrames X.base X.outer:=by
 have all:∀ (l:List Env),(∀ b∈frs l,b∈X.fs)→X.s₀.heap.FunFrames X.base l→s.heap.FunFrames X.base l:=by
  intro l
  induction l with
  | nil=>intro _ _; trivial
  | cons env r ih =>
   intro hs hl
   obtain ⟨hk,⟨L,o,hf,hn,ho,hd⟩,hr⟩:=hl
   have hL:L∈X.fs:=hs L (by unfold frs; rw [List.filterMap_cons,hf]; exact List.mem_cons_self)
   obtain ⟨sl,e⟩:=I.base.slot L o ho (I.ok.frf L hL) hL fun z=>I.ok.exfs L z hL
   exact ⟨hk,⟨L,_,hf,hn,e,hd⟩,ih (fun b hb=>hs b (by unfold frs; rw [List.filterMap_cons,hf]; exact List.mem_cons_of_mem _ hb)) hr⟩
 exact all X.outer (fun _ hb=>hb) I.ok.funs
theorem Inv.stack (I:Inv X pins σ H s):s.heap.FunFrames X.base X.stack:=by
 rcases I.ok.stk with e | ⟨e,hf⟩
 ·rw [e]; exact I.funs
 ·rw [e]
  obtain ⟨m,hn,_⟩:=I.loc
  refine .cons (by rw [I.ok.kind]; decide) hf hn ?_ I.funs
  exact Heap.get?_none_of_le (Nat.le_trans I.ok.bsz I.ok.above)
theorem Inv.stkSub (I:Inv X pins σ H s):∀ b∈frs X.stack,b∈X.env.locals :: X.fs:=fun b hb=>by
 rcases I.ok.stk with e | ⟨e,hf⟩
 ·rw [e] at hb; exact List.mem_cons_of_mem _ hb
 ·rw [e] at hb
  unfold frs at hb
  rw [List.filterMap_cons,hf] at hb
  exact hb
theorem Inv.stkFree (I:Inv X pins σ H s):∀ b∈frs X.stack,H b=none:=fun b hb=>by
 rcases List.mem_cons.mp (I.stkSub b hb) with e | hb
 ·rw [e]; exact I.free
 ·obtain ⟨_,o,ho,_⟩:=I.ok.funs.mem hb
  exact I.base.free b o ho (I.ok.frf b hb) fun z=>I.ok.exfs b z hb
theorem Inv.step {g':Array GenState} {t':Nat} {d':Drawn} {ch:List Addr} (I:Inv X pins σ H s)
  (hch:∀ b∈ch,(b∈X.ex∨X.s₀.heap.objs.size≤b)∧b≠X.env.locals∧(∀ x c,X.env.cells.lookup x=some c→c≠b)∧∀ p∈X.pn++pins,p.1≠b)
  (keep:∀ b o,b≠X.env.locals→b∉X.fs→b∉ch→s.heap.get? b=some o→H b=none→h'.get? b=some o)
  (slot:∀ b o,b≠X.env.locals→b∈X.fs→b∉ch→s.heap.get? b=some o→H b=none→∃ sl,h'.get? b=some { o with slots:=sl }) (free:∀ b o,b∉ch→s.heap.get? b=some o→H b=none→H' b=none)
  (there:∀ b o,b∉ch→s.heap.get? b=some o→∃ o',h'.get? b=some o')
  (tups:∀ b xs,H b=some (.tup xs)→H' b=some (.tup xs)) (frzs:∀ b o u,H b=some (.frz o u)→H' b=some (.frz o u)) (tbls:∀ b ps,H b=some (.tbl ps)→∃ more,H' b=some (.tbl (ps++more)))
  (ns:∀ m,s.heap.Ns X.env.locals m→h'.Ns X.env.locals m) (hok:HOk X.prog X.w H' h') (hg:AllBare g') :
  Inv X pins σ H' { s with heap:=h',gens:=g',drawn:=d',toks:=t' }:=by
 have neL:∀ b o,X.s₀.heap.get? b=some o→b≠X.env.locals:=fun b o e=>Nat.ne_of_lt (Nat.lt_of_lt_of_le (Heap.lt_size e) I.ok.above)
 have neC:∀ b o,X.s₀.heap.get? b=some o→b∉X.ex→b∉ch:=fun b o e hx hb=>by
  rcases (hch b hb).1 with z | z
  ·exact hx z
  ·exact absurd (Nat.lt_of_lt_of_le (Heap.lt_size e) z) (Nat.lt_irrefl _)
 have cellK:∀ x c,X.env.cells.lookup x=some c→∀ v,s.heap.IsCell c v→h'.IsCell c v:=fun x c e v ⟨o,ho,hd⟩=>by
  have nch:c∉ch:=fun z=>(hch c z).2.2.1 x c e rfl
  by_cases hc:c∈X.fs
  ·obtain ⟨sl,q⟩:=slot c o (I.cne x c e) hc nch ho (I.freeC x c e)
   exact ⟨_,q,hd⟩
  ·exact ⟨o,keep c o (I.cne x c e) hc nch ho (I.freeC x c e),hd⟩
 refine ⟨I.ok,I.os,hg,⟨fun b o e n hb hx=>?_,fun b o e n hb hx=>?_,fun b o e n hx=>?_,fun b o e hx=>?_,fun b xs e=>tups b xs (I.base.tups b xs e),fun b o xs e=>frzs b o xs (I.base.frzs b o xs e),fun b ps e=>?_⟩,?_,fun x c e=>?_,?_,fun x c e=>?_,fun p hp=>?_,hok,I.len⟩
 ·exact keep b o (neL b o e) hb (neC b o e hx) (I.base.keep b o e n hb hx) (I.base.free b o e n hx)
 ·obtain ⟨sl,e1⟩:=I.base.slot b o e n hb hx
  obtain ⟨sl',e2⟩:=slot b _ (neL b o e) hb (neC b o e hx) e1 (I.base.free b o e n hx)
  exact ⟨sl',e2⟩
 ·obtain ⟨o',e1⟩:=I.base.there b o e hx
  exact free b o' (neC b o e hx) e1 (I.base.free b o e n hx)
 ·obtain ⟨o',e1⟩:=I.base.there b o e hx
  exact there b o' (neC b o e hx) e1
 ·obtain ⟨m1,e1⟩:=I.base.tbls b ps e
  obtain ⟨m2,e2⟩:=tbls b _ e1
  exact ⟨m1++m2,by rw [e2,Array.append_assoc]⟩
 ·obtain ⟨m,hn,hl⟩:=I.loc
  refine ⟨m,ns m hn,fun i x v e1 e2 e3=>?_⟩
  obtain ⟨u,r,l⟩:=hl i x v e1 e2 e3
  refine ⟨u,r,?_⟩
  rcases l with l | ⟨k,c,e,z⟩
  ·exact .inl l
  ·exact .inr ⟨k,c,e,cellK x c e _ z⟩
 ·obtain ⟨v,z⟩:=I.cell x c e
  exact ⟨v,cellK x c e v z⟩
 ·obtain ⟨m,⟨o,_,_,ho,_⟩,_⟩:=I.loc
  exact free _ o (fun z=>(hch _ z).2.1 rfl) ho I.free
 ·obtain ⟨v,o,ho,hd⟩:=I.cell x c e
  exact free c o (fun z=>(hch c z).2.2.1 x c e rfl) ho (I.freeC x c e)
 ·obtain ⟨e,n,ne,nf,d⟩:=I.pin p hp
  have nch:p.1∉ch:=fun z=>(hch p.1 z).2.2.2 p hp rfl
  exact ⟨keep p.1 p.2 ne nf nch e n,free p.1 p.2 nch e n,ne,nf,d⟩
theorem Inv.un {t':Nat} (I:Inv X pins σ H s) (u:Un X.fs [] H H' s.heap h') (hok:HOk X.prog X.w H' h'):Inv X pins σ H' { s with heap:=h',toks:=t' }:=by
 obtain ⟨m,⟨o,es,ep,ho,r⟩,_⟩:=id I.loc
 obtain ⟨sl,hL⟩:=u.any ho I.free (by simp)
 exact I.step (g':=s.gens) (d':=s.drawn) (ch:=[]) (fun _ z=>nomatch z) (fun b o _ hb _ e n=>u.keep b o e n hb (by simp)) (fun b o _ hb _ e n=>u.slot b o e n hb (by simp)) (fun b o _ e n=>u.free b o e n (by simp)) (fun b o _ e=>u.there b o e (by simp)) u.tups u.frzs u.tbls (fun m' hm=>by
  obtain ⟨o',es',ep',ho',r'⟩:=hm
  rw [ho] at ho'; cases ho'
  exact ⟨_,es',ep',hL,r'⟩) hok I.bare
theorem Inv.call {g':Array GenState} {t':Nat} {d':Drawn} {ch:List Addr} (I:Inv X pins σ H s) (u:Un (frs X.stack) ch H H' s.heap h') (hok:HOk X.prog X.w H' h') (hg:AllBare g')
  (hch:∀ b∈ch,(b∈X.ex∨X.s₀.heap.objs.size≤b)∧b≠X.env.locals∧(∀ x c,X.env.cells.lookup x=some c→c≠b)∧∀ p∈X.pn++pins,p.1≠b) :
  Inv X pins σ H' { s with heap:=h',gens:=g',drawn:=d',toks:=t' }:=by
 obtain ⟨m,⟨o,es,ep,ho,r⟩,_⟩:=id I.loc
 obtain ⟨sl,hL⟩:=u.any ho I.free fun z=>(hch _ z).2.1 rfl
 exact I.step (ch:=ch) hch (fun b o hL hb hc e n=>u.keep b o e n (fun z=>(List.mem_cons.mp (I.stkSub b z)).elim hL hb) hc) (fun b o _ _ hc e n=>u.any e n hc) (fun b o hc e n=>u.free b o e n hc) (fun b o hc e=>u.there b o e hc) u.tups u.frzs u.tbls (fun m' hm=>by
  obtain ⟨o',es',ep',ho',r'⟩:=hm
  rw [ho] at ho'; cases ho'
  exact ⟨_,es',ep',hL,r'⟩) hok hg
theorem Inv.turned {t':Nat} {it:Addr} (I:Inv X pins σ H s) (k:∀ b o,b≠it→s.heap.get? b=some o→h'.get? b=some o) (hn:H it=none) (hL:it≠X.env.locals)
  (h1:it∈X.ex∨X.s₀.heap.objs.size≤it) (h2:∀ x c,X.env.cells.lookup x=some c→c≠it) (h3:∀ p∈X.pn++pins,p.1≠it):Inv X pins σ H { s with heap:=h',toks:=t' }:=by
 have nit:∀ b u,H b=some u→b≠it:=fun b u e z=>by rw [z,hn] at e; cases e
 refine I.step (g':=s.gens) (d':=s.drawn) (ch:=[it]) (fun b hb=>?_) (fun b o _ _ hc e _=>k b o (fun z=>hc (by simp [z])) e) (fun b o _ _ hc e _=>⟨o.slots,k b o (fun z=>hc (by simp [z])) e⟩) (fun _ _ _ _ n=>n)
  (fun b o hc e=>⟨o,k b o (fun z=>hc (by simp [z])) e⟩) (fun _ _ e=>e) (fun _ _ _ e=>e) (fun b ps e=>⟨#[],by rw [e]; simp⟩) (fun m hm=>?_) (fun b u e=>?_) I.bare
 ·have e:b=it:=by simpa using hb
  subst e
  exact ⟨h1,hL,h2,h3⟩
 ·obtain ⟨o,es,ep,ho,r⟩:=hm
  exact ⟨o,es,ep,k _ o (Ne.symm hL) ho,r⟩
 ·refine (I.hok b u e).stay (fun c v hc q=>k c v ?_ q) (fun _ q=>q) fun _ _ q=>q
  rcases hc with z | z
  ·rw [z]; exact nit b u e
  ·exact nit c _ z
theorem Inv.tok (I:Inv X pins σ H s) (t:Nat):Inv X pins σ H { s with toks:=t }:=I.un (h':=s.heap) (t':=t) Un.refl I.hok
theorem Inv.kept {t':Nat} (I:Inv X pins σ H s) (k:∀ b u,s.heap.get? b=some u→h'.get? b=some u):Inv X pins σ H { s with heap:=h',toks:=t' }:=I.un (Un.kept k) (I.hok.kept k)
theorem Inv.laid {a:Addr} {o:HO} {t':Nat} (I:Inv X pins σ H s) (k:∀ b u,s.heap.get? b=some u→h'.get? b=some u) (hp:s.heap.objs.size≤a) (new:ObjOk X.prog X.w (upd H a o) h' a o) :
  Inv X pins σ (upd H a o) { s with heap:=h',toks:=t' }:=I.un (Un.laid k hp (I.hok.fresh hp)) (I.hok.laid k hp new)
theorem Inv.write {x e:Addr} {o:HO} {t':Nat} (I:Inv X pins σ H s) (mu:Mut (H x)) (he:e=x∨H e=some (.own x)) (k:∀ b u,b≠e→s.heap.get? b=some u→h'.get? b=some u) (heo:∃ u,h'.get? e=some u)
  (new:ObjOk X.prog X.w (upd H x o) h' x o):Inv X pins σ (upd H x o) { s with heap:=h',toks:=t' }:=I.un (Un.write mu he k heo) (I.hok.write mu he k heo new)
theorem Inv.pins_of {pins':List (Addr × Obj)} (I:Inv X pins σ H s) (h:∀ p∈pins',s.heap.get? p.1=some p.2∧H p.1=none∧p.1≠X.env.locals∧p.1∉X.fs∧∀ v,p.2.data≠.cell v):Inv X pins' σ H s :=
 ⟨I.ok,I.os,I.bare,I.base,I.loc,I.cell,I.free,I.freeC,fun p hp=>(List.mem_append.mp hp).elim (fun z=>I.pin p (List.mem_append_left _ z)) (h p),I.hok,I.len⟩
theorem nodup_ix {N:List Str} (hN:N.Nodup) {i j:Nat} {x:Str} (a:N[i]?=some x) (b:N[j]?=some x):i=j:=by
 obtain ⟨h1,e1⟩:=List.getElem?_eq_some_iff.mp a
 obtain ⟨h2,e2⟩:=List.getElem?_eq_some_iff.mp b
 exact (List.getElem_inj hN).mp (e1.trans e2.symm)
theorem store_ok2 {M:Model} {A:Around} {E:Value→Shared→Prop} {i:Nat} {x:Str} {v:V} {u:Value} {Q:Unit→Shared→Prop} (I:Inv X pins σ H s) (hN:X.N.Nodup) (hi:X.N[i]?=some x) (hx:Loc X.env.scope x) (r:RelV v u)
  (h:∀ s',Inv X pins (σ.set i (some v)) H s'→(∃ a,Heap.SameBut a s.heap s'.heap∧(a=X.env.locals∨X.env.cells.lookup x=some a))→Q () s') (hf:X.fn x=true∨X.env.scope.names.lookup x=some .local:=by first | exact .inl rfl | exact .inr rfl | assumption):wpAny M A (storeName X.env x u) Q E s:=by
 obtain ⟨m,hn,hl⟩:=id I.loc
 have hcls:(X.env.scope.kind == .class || (X.env.scope.kind == .module && X.env.locals != X.env.globals))=false:=by rw [I.ok.kind]; rfl
 have hiσ:i < σ.length:=by rw [I.len]; exact (List.getElem?_eq_some_iff.mp hi).1
 have cne:=I.cne
 have tracked:∀ {a:Addr} {h':Heap},(∃ o,s.heap.get? a=some o∧H a=none)→Heap.SameBut a s.heap h'→HOk X.prog X.w H h':=fun {a h'} ha hs b ob e=>by
  obtain ⟨_,_,hfree⟩:=ha
  refine (I.hok b ob e).stay (fun c w' hc q=>(hs.2 c ?_).trans q) (fun _ q=>q) fun _ _ q=>q
  rintro rfl
  rcases hc with rfl | hc
  ·rw [hfree] at e; cases e
  ·rw [hfree] at hc; cases hc
 rcases hx with hk | hk
 ·refine wpAny_storeName_local hk hn (fun h' hn' hs=>?_) hcls
  obtain ⟨oL,_,_,hoL,_⟩:=id hn
  refine h _ ⟨I.ok,I.os,I.bare,⟨fun b o e n hb hx=>?_,fun b o e n hb hx=>?_,I.base.free,fun b o e hx=>?_,I.base.tups,I.base.frzs,I.base.tbls⟩,⟨_,hn',fun j y v' e1 e2 e3=>?_⟩,fun y c e=>?_,I.free,I.freeC,fun p hp=>?_,tracked ⟨oL,hoL,I.free⟩ hs,by simpa using I.len⟩ ⟨_,hs,.inl rfl⟩
  ·exact (hs.2 b (Nat.ne_of_lt (Nat.lt_of_lt_of_le (Heap.lt_size e) I.ok.above))).trans (I.base.keep b o e n hb hx)
  ·obtain ⟨sl,e1⟩:=I.base.slot b o e n hb hx
   exact ⟨sl,(hs.2 b (Nat.ne_of_lt (Nat.lt_of_lt_of_le (Heap.lt_size e) I.ok.above))).trans e1⟩
  ·obtain ⟨o',e1⟩:=I.base.there b o e hx
   exact ⟨o',(hs.2 b (Nat.ne_of_lt (Nat.lt_of_lt_of_le (Heap.lt_size e) I.ok.above))).trans e1⟩
  ·by_cases hj:j=i
   ·subst hj
    rw [hi] at e1; cases e1
    rw [List.getElem?_set_self hiσ] at e2
    cases e2
    exact ⟨u,r,.inl ⟨hk,by simp⟩⟩
   ·rw [List.getElem?_set_ne (Ne.symm hj)] at e2
    obtain ⟨u',r',q⟩:=hl j y v' e1 e2 e3
    refine ⟨u',r',?_⟩
    rcases q with ⟨k,e⟩ | ⟨k,c,e,z⟩
    ·refine .inl ⟨k,?_⟩
     have:y≠x:=fun e=>hj (nodup_ix hN e1 (e ▸ hi))
     simp [this,e]
    ·exact .inr ⟨k,c,e,z.sameBut hs (cne y c e)⟩
  ·obtain ⟨w',z⟩:=I.cell y c e
   exact ⟨w',z.sameBut hs (cne y c e)⟩
  ·obtain ⟨e,n,ne,nf,d⟩:=I.pin p hp
   exact ⟨(hs.2 p.1 ne).trans e,n,ne,nf,d⟩
 ·have hfn:X.fn x=true:=by
   rcases hf with z | z
   ·exact z
   ·rw [z] at hk; cases hk
  obtain ⟨c,hc⟩:=I.ok.has x (.inl hk)
  obtain ⟨w',z⟩:=I.cell x c hc
  refine wpAny_storeName_cell I.ok.kind hk hc z (fun h' hc' hs=>?_)
  obtain ⟨oc,hoc,hocd⟩:=id z
  refine h { s with heap:=h' } ⟨I.ok,I.os,I.bare,⟨fun b o e n hb hx=>?_,fun b o e n hb hx=>?_,I.base.free,fun b o e hx=>?_,I.base.tups,I.base.frzs,I.base.tbls⟩,⟨m,hn.sameBut hs (Ne.symm (cne x c hc)),fun j y v' e1 e2 e3=>?_⟩,fun y c' e=>?_,I.free,I.freeC,fun p hp=>?_,tracked ⟨oc,hoc,I.freeC x c hc⟩ hs,by simpa using I.len⟩ ⟨c,hs,.inr hc⟩
  ·exact (hs.2 b (Nat.ne_of_lt (Nat.lt_of_lt_of_le (Heap.lt_size e) (I.ok.cab x c hfn hc)))).trans (I.base.keep b o e n hb hx)
  ·obtain ⟨sl,e1⟩:=I.base.slot b o e n hb hx
   exact ⟨sl,(hs.2 b (Nat.ne_of_lt (Nat.lt_of_lt_of_le (Heap.lt_size e) (I.ok.cab x c hfn hc)))).trans e1⟩
  ·obtain ⟨o',e1⟩:=I.base.there b o e hx
   exact ⟨o',(hs.2 b (Nat.ne_of_lt (Nat.lt_of_lt_of_le (Heap.lt_size e) (I.ok.cab x c hfn hc)))).trans e1⟩
  ·by_cases hj:j=i
   ·subst hj
    rw [hi] at e1; cases e1
    rw [List.getElem?_set_self hiσ] at e2
    cases e2
    exact ⟨u,r,.inr ⟨.inl hk,c,hc,hc'⟩⟩
   ·rw [List.getElem?_set_ne (Ne.symm hj)] at e2
    obtain ⟨u',r',q⟩:=hl j y v' e1 e2 e3
    refine ⟨u',r',?_⟩
    rcases q with q | ⟨k,c',e,z'⟩
    ·exact .inl q
    ·refine .inr ⟨k,c',e,z'.sameBut hs ?_⟩
     rintro rfl
     exact hj (nodup_ix hN e1 (I.ok.inj _ _ _ e hc ▸ hi))
  ·by_cases hcc:c'=c
   ·subst hcc; exact ⟨_,hc'⟩
   ·obtain ⟨w2,z2⟩:=I.cell y c' e
    exact ⟨w2,z2.sameBut hs hcc⟩
  ·obtain ⟨e,n,ne,nf,d⟩:=I.pin p hp
   refine ⟨(hs.2 p.1 ?_).trans e,n,ne,nf,d⟩
   intro q
   rw [q,hoc] at e
   have q':oc=p.2:=Option.some.inj e
   exact d w' (by rw [← q']; exact hocd)
theorem store_ok {M:Model} {A:Around} {E:Value→Shared→Prop} {i:Nat} {x:Str} {v:V} {u:Value} {Q:Unit→Shared→Prop} (I:Inv X pins σ H s) (hN:X.N.Nodup) (hi:X.N[i]?=some x) (hx:Loc X.env.scope x) (r:RelV v u)
  (h:∀ s',Inv X pins (σ.set i (some v)) H s'→Q () s') (hf:X.fn x=true∨X.env.scope.names.lookup x=some .local:=by first | exact .inl rfl | exact .inr rfl | assumption):wpAny M A (storeName X.env x u) Q E s :=
 store_ok2 I hN hi hx r (fun s' I' _=>h s' I') hf
theorem Inv.call' {s':Shared} {ch:List Addr} (I:Inv X pins σ H s) (ho:s'.os=s.os) (u:Un (frs X.stack) ch H H' s.heap s'.heap) (hok:HOk X.prog X.w H' s'.heap) (hg:AllBare s'.gens)
  (hch:∀ b∈ch,(b∈X.ex∨X.s₀.heap.objs.size≤b)∧b≠X.env.locals∧(∀ x c,X.env.cells.lookup x=some c→c≠b)∧∀ p∈X.pn++pins,p.1≠b):Inv X pins σ H' s':=by
 obtain ⟨h',g',d',t',o'⟩:=s'
 have e:o'=s.os:=ho
 subst e
 exact I.call (g':=g') (t':=t') (d':=d') u hok hg hch
end
abbrev XK:=Value→Option Addr→Hp→Prop
abbrev St:=List (Option V)
abbrev VK:=V→Hp→Prop
abbrev TE:=St→Hp→VK→Prop
abbrev TT:=St→Hp→(Bool→Hp→Prop)→Prop
abbrev TA:=St→Hp→(List V→Hp→Prop)→Prop
structure Ends where
 nx:St→Hp→Prop
 rt:VK
 bk:St→Hp→Prop:=fun _ _=>False
 ct:St→Hp→Prop:=fun _ _=>False
abbrev TS:=Ends→St→Hp→Prop
def EP (X:Cx) (pins:List (Addr × Obj)) (σ:St) (Q:VK) (u:Value) (s':Shared):Prop:=∃ v H',Inv X pins σ H' s'∧RelV v u∧Q v H'
def TP (X:Cx) (pins:List (Addr × Obj)) (σ:St) (Q:Bool→Hp→Prop) (b:Bool) (s':Shared):Prop:=∃ H',Inv X pins σ H' s'∧Q b H'
def AP (X:Cx) (pins:List (Addr × Obj)) (σ:St) (Q:List V→Hp→Prop) (us:List Value) (s':Shared):Prop:=∃ vs H',Inv X pins σ H' s'∧Vals vs us∧Q vs H'
def SP (X:Cx) (pins:List (Addr × Obj)) (D:Ends) (f:Flow) (s':Shared):Prop :=
 match f with
 | .next=>∃ σ' H',Inv X pins σ' H' s'∧D.nx σ' H'
 | .brk=>∃ σ' H',Inv X pins σ' H' s'∧D.bk σ' H'
 | .cont=>∃ σ' H',Inv X pins σ' H' s'∧D.ct σ' H'
 | .ret u=>∃ v σ' H',Inv X pins σ' H' s'∧RelV v u∧D.rt v H'
def PE (X:Cx) (e:Expr) (t:TE):Prop :=
 ∀ (pins:List (Addr × Obj)) (s:Shared) (σ:St) (H:Hp) (Q:VK),Inv X pins σ H s→t σ H Q→wpAny (model X.prog X.w) X.A (eval e X.env) (EP X pins σ Q) X.xe s
def PT (X:Cx) (e:Expr) (t:TT):Prop :=
 ∀ (pins:List (Addr × Obj)) (s:Shared) (σ:St) (H:Hp) (Q:Bool→Hp→Prop),Inv X pins σ H s→t σ H Q→wpAny (model X.prog X.w) X.A (isTrue e X.env (eval e X.env)) (TP X pins σ Q) X.xe s
def PW (X:Cx) (e:Expr) (t:TT):Prop :=
 ∀ (whole:Sem Value) (pins:List (Addr × Obj)) (s:Shared) (σ:St) (H:Hp) (Q:Bool→Hp→Prop),Inv X pins σ H s→t σ H Q→wpAny (model X.prog X.w) X.A (isTrue e X.env whole) (TP X pins σ Q) X.xe s
theorem PW.pt {X:Cx} {e:Expr} {t:TT} (h:PW X e t):PT X e t:=h _
def PA (X:Cx) (es:List Expr) (t:TA):Prop :=
 ∀ (pos:Pos) (pins:List (Addr × Obj)) (s:Shared) (σ:St) (H:Hp) (Q:List V→Hp→Prop),Inv X pins σ H s→t σ H Q→wpAny (model X.prog X.w) X.A (spliced (backTo pos (starEach es X.env))) (AP X pins σ Q) X.xe s
def PS (X:Cx) (st:Stmt) (t:TS):Prop :=
 ∀ (pins:List (Addr × Obj)) (s:Shared) (σ:St) (H:Hp) (D:Ends),Inv X pins σ H s→t D σ H→wpAny (model X.prog X.w) X.A (exec st X.env) (SP X pins D) X.xe s
def PSs (X:Cx) (st:List Stmt) (t:TS):Prop :=
 ∀ (pins:List (Addr × Obj)) (s:Shared) (σ:St) (H:Hp) (D:Ends),Inv X pins σ H s→t D σ H→wpAny (model X.prog X.w) X.A (execs st X.env) (SP X pins D) X.xe s
theorem thn {α:Type} {t:Sem α} {Q Q':α→Shared→Prop} {M:Model} {A:Around} {E:Value→Shared→Prop} {s:Shared} (h:wpAny M A t Q E s) (hQ:∀ a s,Q a s→Q' a s):wpAny M A t Q' E s:=wpAny_mono h hQ fun _ _ x=>x
end L2
namespace L2
open PySem PySem.Spec PyProof.Rows
section
variable {X:Cx}
def tVar (i:Nat):TE:=fun σ H Q=>∃ v,σ[i]?=some (some v)∧Q v H
def tC (v:V):TE:=fun _ H Q=>Q v H
theorem pe_var {i:Nat} {x:Str} {pos:Pos} (hN:X.N[i]?=some x) (hv:Vis X.env.scope x) (hd:(x == ("__debug__" : Str))=false:=by decide) (hcd:(x == ("__classdict__" : Str))=false:=by decide):PE X (.Name x pos) (tVar i):=by
 intro pins s σ H Q I h
 obtain ⟨v,e,h⟩:=h
 obtain ⟨m,hn,hl⟩:=I.loc
 obtain ⟨u,r,l⟩:=hl i x v hN e hv
 have fin:EP X pins σ Q u s:=⟨v,H,I,r,h⟩
 rcases l with ⟨hk,hm⟩ | ⟨hk,c,hc,hcell⟩
 ·exact wpAny_Name (wpAny_loadName_local I.ok.kind hk hn hm fin) hd
 ·rcases hk with hk | hk
  ·exact wpAny_Name (wpAny_loadName_cell I.ok.kind hk hc hcell fin) hd
  ·exact wpAny_Name (wpAny_loadName_free I.ok.kind hk hc hcell fin hcd) hd
theorem pe_int {i j pos}:PE X (.Constant (.int i) j pos) (tC (.int i)):=fun _ _ _ H _ I h=>wpAny_Constant_int ⟨.int i,H,I.tok _,⟨_,rfl⟩,h⟩
theorem pe_bl {b j pos}:PE X (.Constant (.bool b) j pos) (tC (.bl b)):=fun _ _ _ H _ I h=>Constant_bool ⟨.bl b,H,I,rfl,h⟩
theorem pe_non {j pos}:PE X (.Constant .none j pos) (tC .non):=fun _ _ _ H _ I h=>Constant_none ⟨.non,H,I,rfl,h⟩
theorem pe_str {x j pos}:PE X (.Constant (.str x) j pos) (tC (.str x)):=fun _ _ _ H _ I h=>Calls.Constant_str ⟨.str x,H,I.tok _,⟨_,rfl⟩,h⟩
def Gl (X:Cx) (x:Str):Prop:=X.env.kindOf x=some .globalImplicit
theorem ld_glob {E:Value→Shared→Prop} {pins:List (Addr × Obj)} {s:Shared} {σ:St} {H:Hp} {x:Str} {u:Value} {pos:Pos} {Q:Value→Shared→Prop} (I:Inv X pins σ H s) (hg:Gl X x) (hm:X.mg x=some u) (h:Q u s)
  (hd:(x == ("__debug__" : Str))=false:=by decide):wpAny (model X.prog X.w) X.A (eval (.Name x pos) X.env) Q E s :=
 Calls.Name_function_global I.ok.kind hg (Calls.loadGlobal_global (by rw [I.ok.glob]; exact I.mod.glob.keeps I.bk) hm h) hd
theorem ld_blt {E:Value→Shared→Prop} {pins:List (Addr × Obj)} {s:Shared} {σ:St} {H:Hp} {x:Str} {u:Value} {pos:Pos} {Q:Value→Shared→Prop} (I:Inv X pins σ H s) (hg:Gl X x) (hm:X.mg x=none) (hv:bootBuiltins x=some u) (h:Q u s)
  (hn:x≠"__name__" := by decide) (hd:(x == ("__debug__" : Str))=false:=by decide):wpAny (model X.prog X.w) X.A (eval (.Name x pos) X.env) Q E s:=by
 obtain ⟨mb,h1,h2⟩:=I.mod.blt
 exact Calls.Name_function_global I.ok.kind hg (Calls.loadGlobal_builtin (by rw [I.ok.glob]; exact I.mod.glob.keeps I.bk) hm (by rw [I.ok.blt]; exact h1.keeps I.bk) ((h2 x hn).trans hv) h) hd
theorem pe_glob {x:Str} {v:V} {u:Value} {pos:Pos} (hg:Gl X x) (hm:X.mg x=some u) (r:RelV v u) (hd:(x == ("__debug__" : Str))=false:=by decide):PE X (.Name x pos) (tC v) :=
 fun _ _ _ H _ I h=>ld_glob I hg hm ⟨v,H,I,r,h⟩ hd
theorem pe_bltn {x:Str} {v:V} {u:Value} {pos:Pos} (hg:Gl X x) (hm:X.mg x=none) (hv:bootBuiltins x=some u) (r:RelV v u) (hn:x≠"__name__" := by decide) (hd:(x == ("__debug__" : Str))=false:=by decide):PE X (.Name x pos) (tC v) :=
 fun _ _ _ H _ I h=>ld_blt I hg hm hv ⟨v,H,I,r,h⟩ hn hd
variable {a b:Expr} {ta tb:TE} {pos:Pos}
def PC (X:Cx) (op:CmpOp) (a b:Expr) (t:TE):Prop :=
 ∀ (pins:List (Addr × Obj)) (s:Shared) (σ:St) (H:Hp) (Q:VK),Inv X pins σ H s→t σ H Q →
  wpAny (model X.prog X.w) X.A (eval a X.env) (fun v s₁=>wpAny (model X.prog X.w) X.A (eval b X.env) (fun u s₂=>wpAny (model X.prog X.w) X.A (compareOp op v u) (EP X pins σ Q) X.xe s₂) X.xe s₁) X.xe s
theorem nobehind (b:Expr) {op:CmpOp} (h:op≠.In) (h2:op≠.NotIn):behindInMarks op b=false:=by
 have e1:(op == CmpOp.In)=false:=by cases op <;> first | rfl | exact absurd rfl h
 have e2:(op == CmpOp.NotIn)=false:=by cases op <;> first | rfl | exact absurd rfl h2
 cases b <;> simp [behindInMarks,e1,e2]
def tB (t:TE):TT:=fun σ H Q=>t σ H fun x H1=>∃ c,x=.bl c∧Q c H1
theorem pt_cmp {op:CmpOp} {t:TE} (h:PC X op a b t) (h1:behindInMarks op b=false:=by first | exact nobehind _ (by decide) (by decide) | rfl):PT X (.Compare a [op] [b] pos) (tB t):=by
 intro pins s σ H Q I hw
 refine wpAny_isTrue_Compare1 (thn (h pins s σ H _ I hw) fun v s1 h1=>thn h1 fun u s2 h2=>thn h2 fun c s3 ⟨x,H1,I1,r1,q1⟩=>?_) h1
 obtain ⟨d,rfl,q⟩:=q1
 cases r1
 exact wpAny_truthy_bool ⟨H1,I1,q⟩
theorem pt_val {e:Expr} {t:TE} (h:PE X e t) (he:∀ whole,isTrue e X.env whole=(do let v ← whole; standAt e.pos; holding [v] (truthy v)):=by intro _; rfl):PT X e (tB t):=by
 intro pins s σ H Q I hw
 refine isTrue_plain (thn (h pins s σ H _ I hw) fun v s1 ⟨x,H1,I1,r1,q1⟩=>?_) (he _)
 obtain ⟨d,rfl,q⟩:=q1
 cases r1
 exact wpAny_truthy_bool ⟨H1,I1,q⟩
variable {tA tB':TT} {rest:List Expr}
def tAnd (t u:TT):TT:=fun σ H Q=>t σ H fun c H1=>if c=true then u σ H1 Q else Q false H1
def tOr (t u:TT):TT:=fun σ H Q=>t σ H fun c H1=>if c=true then Q true H1 else u σ H1 Q
def tNot (t:TT):TT:=fun σ H Q=>t σ H fun c H1=>Q (!c) H1
theorem pw_and1 (ha:PT X a tA):PW X (.BoolOp .And [a] pos) tA:=by
 intro wh pins s σ H Q I h
 refine isTrue_and (thn (ha pins s σ H Q I h) fun c s1 e=>?_)
 cases c with
 | true=>exact isTrue_and_nil e
 | false=>exact e
theorem pw_or1 (ha:PT X a tA):PW X (.BoolOp .Or [a] pos) tA:=by
 intro wh pins s σ H Q I h
 refine isTrue_or (thn (ha pins s σ H Q I h) fun c s1 e=>?_)
 cases c with
 | false=>exact isTrue_or_nil e
 | true=>exact e
theorem pw_and (ha:PT X a tA) (hb:PW X (.BoolOp .And (b :: rest) pos) tB'):PW X (.BoolOp .And (a :: b :: rest) pos) (tAnd tA tB'):=by
 intro wh pins s σ H Q I h
 refine isTrue_and (thn (ha pins s σ H _ I h) fun c s1 ⟨H1,I1,q1⟩=>?_)
 cases c with
 | true=>exact hb wh pins s1 σ H1 Q I1 q1
 | false=>exact ⟨H1,I1,q1⟩
theorem pw_or (ha:PT X a tA) (hb:PW X (.BoolOp .Or (b :: rest) pos) tB'):PW X (.BoolOp .Or (a :: b :: rest) pos) (tOr tA tB'):=by
 intro wh pins s σ H Q I h
 refine isTrue_or (thn (ha pins s σ H _ I h) fun c s1 ⟨H1,I1,q1⟩=>?_)
 cases c with
 | true=>exact ⟨H1,I1,q1⟩
 | false=>exact hb wh pins s1 σ H1 Q I1 q1
theorem pt_not (ha:PT X a tA):PT X (.UnaryOp .Not a pos) (tNot tA):=by
 intro pins s σ H Q I h
 exact isTrue_not (ha pins s σ H (fun c H1=>Q (!c) H1) I h)
def tAndV (ta tb:TE):TE:=fun σ H Q=>ta σ H fun x H1=>∃ c,x=.bl c∧if c=true then tb σ H1 Q else Q (.bl false) H1
def tOrV (ta tb:TE):TE:=fun σ H Q=>ta σ H fun x H1=>∃ c,x=.bl c∧if c=true then Q (.bl true) H1 else tb σ H1 Q
theorem pe_one {op} {t:TE} (h:PE X a t):PE X (.BoolOp op [a] pos) t:=fun pins s σ H Q I hw=>BoolOp_one (h pins s σ H Q I hw)
theorem pe_and (ha:PE X a ta) (hb:PE X (.BoolOp .And (b :: rest) pos) tb):PE X (.BoolOp .And (a :: b :: rest) pos) (tAndV ta tb):=by
 intro pins s σ H Q I h
 refine BoolOp_and (thn (ha pins s σ H _ I h) fun v s1 ⟨x,H1,I1,r1,q1⟩=>?_)
 obtain ⟨c,rfl,q1⟩:=q1
 cases r1
 refine wpAny_truthy_bool ?_
 cases c with
 | true=>exact hb pins s1 σ H1 Q I1 q1
 | false=>exact ⟨.bl false,H1,I1,rfl,q1⟩
theorem pe_or (ha:PE X a ta) (hb:PE X (.BoolOp .Or (b :: rest) pos) tb):PE X (.BoolOp .Or (a :: b :: rest) pos) (tOrV ta tb):=by
 intro pins s σ H Q I h
 refine BoolOp_or (thn (ha pins s σ H _ I h) fun v s1 ⟨x,H1,I1,r1,q1⟩=>?_)
 obtain ⟨c,rfl,q1⟩:=q1
 cases r1
 refine wpAny_truthy_bool ?_
 cases c with
 | false=>exact hb pins s1 σ H1 Q I1 q1
 | true=>exact ⟨.bl true,H1,I1,rfl,q1⟩
def tIf (t:TT) (ta tb:TE):TE:=fun σ H Q=>t σ H fun c H1=>if c=true then ta σ H1 Q else tb σ H1 Q
theorem pe_ifExp {c:Expr} (hc:PT X c tA) (ha:PE X a ta) (hb:PE X b tb):PE X (.IfExp c a b pos) (tIf tA ta tb):=by
 intro pins s σ H Q I h
 refine wpAny_IfExp (thn (hc pins s σ H _ I h) fun d s1 ⟨H1,I1,q1⟩=>?_)
 cases d with
 | true=>exact ha pins s1 σ H1 Q I1 q1
 | false=>exact hb pins s1 σ H1 Q I1 q1
end
end L2
namespace L2
open PySem PySem.Spec PyProof.Rows
def SqL (K:PySem.W.Frag) (H:Hp) (a:Addr) (xs:List V):Prop :=
 Rd H a (.lst xs) ∨
  ∃ (o:Obj) (its:Array Value) (n:Nat),K.lookup a=some o∧o.cls=.type "list" ∧ o.dict=none∧o.data=.seq its n∧its.size≤sizeLine∧Vals xs its.toList
def SqT (K:PySem.W.Frag) (H:Hp) (a:Addr) (xs:List V):Prop :=
 Rd H a (.tup xs) ∨
  ∃ (o:Obj) (its:Array Value) (n:Nat),K.lookup a=some o∧o.cls=.type "tuple" ∧ o.data=.seq its n∧its.size≤sizeLine∧Vals xs its.toList
def absV:Value→Option V
 | .none=>some .non
 | .bool b=>some (.bl b)
 | .int i _=>some (.int i)
 | .str x _=>some (.str x)
 | .bytes b _=>some (.byt b)
 | .float b _=>some (.flt b)
 | .ref a=>some (.ref a)
 | .type n=>some (.ty n)
 | _=>none
theorem RelV.abs {x:V} {u:Value} (r:RelV x u):absV u=some x:=by
 cases x with
 | non=>cases r; rfl
 | bl _=>cases r; rfl
 | int _=>obtain ⟨t,rfl⟩:=r; rfl
 | str _=>obtain ⟨t,rfl⟩:=r; rfl
 | byt _=>obtain ⟨t,rfl⟩:=r; rfl
 | flt _=>obtain ⟨t,rfl⟩:=r; rfl
 | ref _=>cases r; rfl
 | ty _=>cases r; rfl
theorem RelV.inj {x y:V} {u:Value} (r:RelV x u) (q:RelV y u):x=y:=Option.some.inj (r.abs.symm.trans q.abs)
theorem Vals.inj:∀ {xs ys:List V} {us:List Value},Vals xs us→Vals ys us→xs=ys
 | _,_,_,.nil,.nil=>rfl
 | _,_,_,.cons r t,.cons r' t'=>by rw [r.inj r',Vals.inj t t']
section
variable {X:Cx} {pins:List (Addr × Obj)} {σ:St} {H:Hp} {s:Shared} {a:Addr} {xs ys:List V}
theorem SqL.of {K:PySem.W.Frag} (h:H a=some (.lst xs)):SqL K H a xs:=.inl (.inl h)
theorem SqT.of {K:PySem.W.Frag} (h:H a=some (.tup xs)):SqT K H a xs:=.inl (.inl h)
theorem Inv.list (I:Inv X pins σ H s) (h:SqL X.K H a xs):∃ its:List Value,Vals xs its∧PlainL s.heap a its.toArray∧xs.length≤sizeLine:=by
 rcases h with h | ⟨o,its,n,hk,hc,hd,hs,hz,r⟩
 ·obtain ⟨z,its,n,r,e⟩:=h.ok I.hok
  exact ⟨its,r,⟨_,n,e,rfl,rfl,rfl⟩,z⟩
 ·refine ⟨its.toList,r,⟨o,n,I.kIn a o hk,hc,hd,by simpa using hs⟩,?_⟩
  have e:=r.length
  simp only [Array.length_toList] at e
  lia
theorem Inv.tuple (I:Inv X pins σ H s) (h:SqT X.K H a xs):∃ its:List Value,Vals xs its∧IsTup s.heap a its.toArray∧xs.length≤sizeLine:=by
 rcases h with h | ⟨o,its,n,hk,hc,hs,hz,r⟩
 ·obtain ⟨z,its,r,p⟩:=h.ok I.hok
  exact ⟨its,r,p,z⟩
 ·refine ⟨its.toList,r,⟨o,I.kIn a o hk,hc,n,by simpa using hs⟩,?_⟩
  have e:=r.length
  simp only [Array.length_toList] at e
  lia
theorem Inv.list_inj (I:Inv X pins σ H s) (h:SqL X.K H a xs) (h':SqL X.K H a ys):xs=ys:=by
 obtain ⟨its,r,⟨o,n,e,_,_,d⟩,_⟩:=I.list h
 obtain ⟨its',r',⟨o',n',e',_,_,d'⟩,_⟩:=I.list h'
 rw [e] at e'; cases e'
 rw [d] at d'
 injection d' with d1 _
 have:its=its':=by simpa using congrArg Array.toList d1
 subst this
 exact r.inj r'
theorem Inv.tuple_inj (I:Inv X pins σ H s) (h:SqT X.K H a xs) (h':SqT X.K H a ys):xs=ys:=by
 obtain ⟨its,r,⟨o,e,_,n,d⟩,_⟩:=I.tuple h
 obtain ⟨its',r',⟨o',e',_,n',d'⟩,_⟩:=I.tuple h'
 rw [e] at e'; cases e'
 rw [d] at d'
 injection d' with d1 _
 have:its=its':=by simpa using congrArg Array.toList d1
 subst this
 exact r.inj r'
end
abbrev Cx.wish (X:Cx) (E:Value→Shared→Prop):Cx:={ X with xe:=E }
abbrev Cx.nox (X:Cx):Cx:=X.wish fun _ _=>False
theorem Cx.Ok.wish {X:Cx} (ok:X.Ok) (E:Value→Shared→Prop):(X.wish E).Ok :=
 ⟨ok.mod,ok.kind,ok.glob,ok.blt,ok.above,ok.inj,ok.has,ok.cab,ok.hd,ok.frames,ok.stk,ok.exf,ok.bs,ok.bsz,ok.noex,ok.exfs,ok.funs,ok.frf⟩
theorem Cx.Ok.unwish {X:Cx} {E:Value→Shared→Prop} (ok:(X.wish E).Ok):X.Ok :=
 ⟨ok.mod,ok.kind,ok.glob,ok.blt,ok.above,ok.inj,ok.has,ok.cab,ok.hd,ok.frames,ok.stk,ok.exf,ok.bs,ok.bsz,ok.noex,ok.exfs,ok.funs,ok.frf⟩
section
variable {X:Cx} {pins:List (Addr × Obj)} {σ:St} {H:Hp} {s:Shared} {E:Value→Shared→Prop}
theorem Inv.wish (I:Inv X pins σ H s) (E:Value→Shared→Prop):Inv (X.wish E) pins σ H s:=⟨I.ok.wish E,I.os,I.bare,I.base,I.loc,I.cell,I.free,I.freeC,I.pin,I.hok,I.len⟩
theorem Inv.unwish (I:Inv (X.wish E) pins σ H s):Inv X pins σ H s:=⟨I.ok.unwish,I.os,I.bare,I.base,I.loc,I.cell,I.free,I.freeC,I.pin,I.hok,I.len⟩
theorem SP.unwish {D:Ends} {f:Flow} {s':Shared} (h:SP (X.wish E) pins D f s'):SP X pins D f s':=by
 cases f with
 | next=>obtain ⟨σ',H',I,q⟩:=h; exact ⟨σ',H',I.unwish,q⟩
 | brk=>obtain ⟨σ',H',I,q⟩:=h; exact ⟨σ',H',I.unwish,q⟩
 | cont=>obtain ⟨σ',H',I,q⟩:=h; exact ⟨σ',H',I.unwish,q⟩
 | ret u=>obtain ⟨v,σ',H',I,r,q⟩:=h; exact ⟨v,σ',H',I.unwish,r,q⟩
theorem PSs.nox {st:List Stmt} {t:TS} (h:PSs X.nox st t):PSs X st t:=fun pins s σ H D I hw =>
 wpAny_mono (h pins s σ H D (I.wish _) hw) (fun _ _ q=>q.unwish) fun _ _ z=>False.elim z
end
section
variable {X:Cx} {st:Stmt} {rest:List Stmt} {t u:TS} {e:Expr} {te:TE} {pos:Pos}
def tNext:TS:=fun D σ H=>D.nx σ H
def tSeq (t u:TS):TS:=fun D σ H=>t { D with nx:=u D } σ H
theorem pss_nil:PSs X [] tNext:=fun _ _ σ H _ I h=>wpAny_execs_nil ⟨σ,H,I,h⟩
theorem pss_cons (h1:PS X st t) (h2:PSs X rest u):PSs X (st :: rest) (tSeq t u):=by
 intro pins s σ H D I h
 refine wpAny_execs_cons (thn (h1 pins s σ H { D with nx:=u D } I h) fun f s1 q=>?_)
 cases f with
 | next =>
  obtain ⟨σ',H',I',q⟩:=q
  exact h2 pins s1 σ' H' D I' q
 | ret v=>exact q
 | brk=>exact q
 | cont=>exact q
theorem pss_one (h1:PS X st t):PSs X [st] t:=by
 intro pins s σ H D I h
 refine wpAny_execs_cons (thn (h1 pins s σ H D I h) fun f s1 q=>?_)
 cases f with
 | next=>exact wpAny_execs_nil q
 | ret v=>exact q
 | brk=>exact q
 | cont=>exact q
theorem Inv.quiet {pins:List (Addr × Obj)} {σ:St} {H:Hp} {s:Shared} (I:Inv X pins σ H s):interactive X.env=false:=by simp [interactive,I.ok.kind]
def tDrop (te:TE):TS:=fun D σ H=>te σ H fun _ H1=>D.nx σ H1
theorem ps_expr (he:PE X e te) (hs:swapsWith e none pos.line X.env=pure false:=by rfl):PS X (.Expr e pos) (tDrop te):=by
 intro pins s σ H D I h
 exact wpAny_Expr_any (thn (he pins s σ H _ I h) fun v s1 ⟨x,H1,I1,r1,q1⟩=>⟨σ,H1,I1,q1⟩) I.quiet hs
def tRet (te:TE):TS:=fun D σ H=>te σ H D.rt
theorem ps_ret (he:PE X e te):PS X (.Return (some e) pos) (tRet te):=by
 intro pins s σ H D I h
 exact wpAny_Return_some (thn (he pins s σ H _ I h) fun v s1 ⟨x,H1,I1,r1,q1⟩=>⟨x,σ,H1,I1,r1,q1⟩)
def tIfS (c:TT) (t u:TS):TS:=fun D σ H=>c σ H fun b H1=>if b=true then t D σ H1 else u D σ H1
theorem ps_if {c:Expr} {a b:List Stmt} {tc:TT} (hc:PT X c tc) (ha:PSs X a t) (hb:PSs X b u):PS X (.If c a b pos) (tIfS tc t u):=by
 intro pins s σ H D I h
 refine wpAny_If (thn (hc pins s σ H _ I h) fun d s1 ⟨H1,I1,q1⟩=>?_)
 cases d with
 | true=>exact ha pins s1 σ H1 D I1 q1
 | false=>exact hb pins s1 σ H1 D I1 q1
end
abbrev TG:=V→St→Hp→(St→Hp→Prop)→Prop
abbrev TGs:=List V→St→Hp→(St→Hp→Prop)→Prop
def PG (X:Cx) (target:Expr) (t:TG):Prop :=
 ∀ (pins:List (Addr × Obj)) (s:Shared) (σ:St) (H:Hp) (v:V) (u:Value) (Q:St→Hp→Prop),Inv X pins σ H s→RelV v u→t v σ H Q →
  wpAny (model X.prog X.w) X.A (assign target X.env u) (fun _ s'=>∃ σ' H',Inv X pins σ' H' s'∧Q σ' H') X.xe s
def PGs (X:Cx) (ts:List Expr) (t:TGs):Prop :=
 ∀ (pins:List (Addr × Obj)) (s:Shared) (σ:St) (H:Hp) (vs:List V) (us:List Value) (Q:St→Hp→Prop),Inv X pins σ H s→Vals vs us→t vs σ H Q →
  wpAny (model X.prog X.w) X.A (assignInOrder ((assignEach ts X.env).map (·.2)) us) (fun _ s'=>∃ σ' H',Inv X pins σ' H' s'∧Q σ' H') X.xe s
abbrev TIp:=V→V→Hp→VK→Prop
def PIp (X:Cx) (op:Operator) (t:TIp):Prop :=
 ∀ (pins:List (Addr × Obj)) (s:Shared) (σ:St) (H:Hp) (x y:V) (v u:Value) (Q:VK),Inv X pins σ H s→RelV x v→RelV y u→t x y H Q →
  wpAny (model X.prog X.w) X.A (inplaceOp op v u) (EP X pins σ Q) X.xe s
section
variable {X:Cx} {pos:Pos}
def gName (i:Nat):TG:=fun v σ H Q=>Q (σ.set i (some v)) H
theorem pg_name {i:Nat} {x:Str} (hN:X.N.Nodup) (hi:X.N[i]?=some x) (hx:Loc X.env.scope x) (hf:X.fn x=true∨X.env.scope.names.lookup x=some .local:=by first | exact .inl rfl | exact .inr rfl | assumption):PG X (.Name x pos) (gName i):=by
 intro pins s σ H v u Q I r h
 exact wpAny_assign_Name (store_ok I hN hi hx r (fun s' I'=>⟨_,H,I',h⟩) hf)
def gNil:TGs:=fun vs σ H Q=>vs=[]∧Q σ H
def gCons (t:TG) (u:TGs):TGs:=fun vs σ H Q=>∃ v r,vs=v :: r∧t v σ H fun σ' H'=>u r σ' H' Q
theorem pgs_nil:PGs X [] gNil:=by
 intro pins s σ H vs us Q I r h
 obtain ⟨e,h⟩:=h
 subst e
 cases r
 exact assignInOrder_nil ⟨σ,H,I,h⟩
theorem pgs_cons {e:Expr} {es:List Expr} {t:TG} {u:TGs} (h1:PG X e t) (h2:PGs X es u)
  (hs:(assignEach (e :: es) X.env).map (·.2)=assign e X.env :: (assignEach es X.env).map (·.2):=by rfl):PGs X (e :: es) (gCons t u):=by
 intro pins s σ H vs us Q I r h
 obtain ⟨v,vr,e1,h⟩:=h
 subst e1
 cases r with
 | cons r rr =>
  rw [hs]
  refine assignInOrder_cons (thn (h1 pins s σ H _ _ _ I r h) fun _ s1 ⟨σ1,H1,I1,q1⟩=>?_)
  exact h2 pins s1 σ1 H1 _ _ Q I1 rr q1
def gTup (K:PySem.W.Frag) (n:Nat) (t:TGs):TG:=fun v σ H Q=>∃ a xs,v=.ref a∧SqT K H a xs∧xs.length=n∧t xs σ H Q
theorem pg_tup {es:List Expr} {k:Nat} {t:TGs} {n:Nat} (hc:X.calm=true) (h:PGs X es t)
  (hn:(assignEach es X.env).length=n:=by rfl) (hst:(assignEach es X.env).findIdx? (·.1)=none:=by rfl):PG X (.Tuple es k pos) (gTup X.K n t):=by
 intro pins s σ H v u Q I r hw
 obtain ⟨a,xs,e1,hq,hl,hw⟩:=hw
 subst e1
 cases r
 obtain ⟨its,rv,ht,hz⟩:=I.tuple hq
 refine assign_Tuple_tuple (I.ok.hd hc) ht (by simp [hn,← hl,rv.length]) hst fun h' hx=>?_
 have I1:Inv X pins σ H { s with heap:=h' }:=I.kept (t':=s.toks) fun b o e=>hx b o (Nat.ne_of_lt (Heap.lt_size e)) e
 exact h pins _ σ H xs _ Q I1 (by simpa using rv) hw
def tAsg (te:TE) (g:TG):TS:=fun D σ H=>te σ H fun x H1=>g x σ H1 D.nx
theorem ps_asg {tg e:Expr} {te:TE} {g:TG} (he:PE X e te) (hg:PG X tg g) (hs:swapsWithSole [tg] e pos.line X.env=pure false:=by rfl) (hw:swappedStores [tg] e X.env=pure none:=by rfl)
  (h1:(assignEach [tg] X.env).map (·.2)=[assign tg X.env]:=by rfl):PS X (.Assign [tg] e pos) (tAsg te g):=by
 intro pins s σ H D I h
 refine wpAny_Assign_stores (thn (he pins s σ H _ I h) fun v s1 ⟨x,H1,I1,r1,q1⟩=>?_) hs hw
 rw [h1]
 exact thn (hg pins s1 σ H1 x v _ I1 r1 q1) fun _ s2 q=>q
theorem ps_set {i:Nat} {x:Str} {e:Expr} {te:TE} {pos':Pos} (hN:X.N.Nodup) (hi:X.N[i]?=some x) (hx:Loc X.env.scope x) (he:PE X e te) (hs:swapsWith e (some (.Name x pos')) pos.line X.env=pure false:=by rfl) (hf:X.fn x=true∨X.env.scope.names.lookup x=some .local:=by first | exact .inl rfl | exact .inr rfl | assumption) :
  PS X (.Assign [.Name x pos'] e pos) (tAsg te (gName i)):=by
 intro pins s σ H D I h
 refine wpAny_Assign_Name (thn (he pins s σ H _ I h) fun v s1 ⟨y,H1,I1,r1,q1⟩=>?_) hs
 exact store_ok I1 hN hi hx r1 (fun s2 I2=>⟨_,H1,I2,q1⟩) hf
def tAug (i:Nat) (te:TE) (ti:TIp):TS:=fun D σ H=>∃ x,σ[i]?=some (some x)∧te σ H fun y H1=>ti x y H1 fun z H2=>D.nx (σ.set i (some z)) H2
theorem ps_aug {i:Nat} {x:Str} {e:Expr} {te:TE} {op:Operator} {ti:TIp} {pos':Pos} (hN:X.N.Nodup) (hi:X.N[i]?=some x) (hx:Loc X.env.scope x) (he:PE X e te) (ho:PIp X op ti) (hf:X.fn x=true∨X.env.scope.names.lookup x=some .local:=by first | exact .inl rfl | exact .inr rfl | assumption) :
  PS X (.AugAssign (.Name x pos') op e pos) (tAug i te ti):=by
 intro pins s σ H D I h
 obtain ⟨v,e1,h⟩:=h
 obtain ⟨m,hn,hl⟩:=I.loc
 have vis:Vis X.env.scope x:=by rcases hx with k | k; exact .inl k; exact .inr (.inl k)
 obtain ⟨u,r,l⟩:=hl i x v hi e1 vis
 refine wpAny_AugAssign_Name ?_
 have go:wpAny (model X.prog X.w) X.A (eval e X.env) (fun w s₂=>wpAny (model X.prog X.w) X.A (inplaceOp op u w) (fun r s₃=>wpAny (model X.prog X.w) X.A (storeName X.env x r) (fun _=>SP X pins D .next) X.xe s₃) X.xe s₂) X.xe s:=by
  refine thn (he pins s σ H _ I h) fun w s1 ⟨y,H1,I1,r1,q1⟩=>?_
  refine thn (ho pins s1 σ H1 v y u w _ I1 r r1 q1) fun z s2 ⟨zv,H2,I2,r2,q2⟩=>?_
  exact store_ok I2 hN hi hx r2 (fun s3 I3=>⟨_,H2,I3,q2⟩) hf
 rcases l with ⟨hk,hm⟩ | ⟨hk,c,hc,hcell⟩
 ·exact wpAny_loadName_local I.ok.kind hk hn hm go
 ·rcases hk with hk | hk
  ·exact wpAny_loadName_cell I.ok.kind hk hc hcell go
  ·rcases hx with k | k
   ·have:X.env.scope.names.lookup x=some .free:=hk
    rw [k] at this; cases this
   ·have:X.env.scope.names.lookup x=some .free:=hk
    rw [k] at this; cases this
def ipI (f:Int→Int→Int):TIp:=fun x y H Q=>∃ i j,x=.int i∧y=.int j∧Q (.int (f i j)) H
theorem ip_add:PIp X .Add (ipI fun i j=>i+j):=by
 intro pins s σ H x y v u Q I r1 r2 h
 obtain ⟨i,j,e1,e2,q⟩:=h
 subst e1; subst e2
 obtain ⟨t,rfl⟩:=r1
 obtain ⟨t',rfl⟩:=r2
 exact iadd_int ⟨.int _,H,I.tok _,⟨_,rfl⟩,q⟩
end
section
variable {X:Cx} {pos:Pos}
def tWhile (c:TT) (tb:TS):TS:=fun D σ H=>∃ W:Nat→St→Hp→Prop,(∃ m,W m σ H)∧∀ m σ H,W m σ H →
 c σ H fun b H1=>if b=true then ∃ N:St→Hp→Prop,(∀ σ' H',N σ' H'→∃ m',m' < m∧W m' σ' H')∧tb { D with nx:=N,ct:=N,bk:=D.nx } σ H1 else D.nx σ H1
theorem ps_while {c:Expr} {body:List Stmt} {tc:TT} {tb:TS} (hp:PassesOwn (model X.prog X.w) X.A X.env X.xe) (hc:PT X c tc) (hb:PSs X body tb):PS X (.While c body [] pos) (tWhile tc tb):=by
 intro pins s σ H D I h
 obtain ⟨W,⟨m0,w0⟩,turn⟩:=h
 refine wpAny_While (codeAny_whileLoop (fun n s'=>∃ σ' H',Inv X pins σ' H' s'∧W n σ' H') ?_ m0 ⟨σ,H,I,w0⟩)
 rintro n s1 ⟨σ1,H1,I1,w1⟩
 refine wpAny_passesOwn hp (thn (hc pins s1 σ1 H1 _ I1 (turn n σ1 H1 w1)) fun b s2 ⟨H2,I2,q2⟩=>?_)
 cases b with
 | true =>
  obtain ⟨N,hN,q2⟩:=q2
  rw [if_pos rfl]
  refine wpAny_passesOwn hp (thn (hb pins s2 σ1 H2 _ I2 q2) fun f s3 q3=>?_)
  cases f with
  | next =>
   obtain ⟨σ3,H3,I3,n3⟩:=q3
   obtain ⟨m',hm,w3⟩:=hN σ3 H3 n3
   exact ⟨m',hm,σ3,H3,I3,w3⟩
  | cont =>
   obtain ⟨σ3,H3,I3,n3⟩:=q3
   obtain ⟨m',hm,w3⟩:=hN σ3 H3 n3
   exact ⟨m',hm,σ3,H3,I3,w3⟩
  | brk=>exact q3
  | ret v=>exact q3
 | false =>
  rw [if_neg Bool.false_ne_true]
  exact wpAny_execs_nil ⟨σ1,H2,I2,q2⟩
end
structure It where
 go:Nat→Hp→Prop
 yld:Nat→Hp→V→Hp→Prop
 stop:Nat→Hp→Prop
def FpOk (X:Cx) (pins:List (Addr × Obj)) (H:Hp) (b:Addr):Prop :=
 H b=none∧b≠X.env.locals∧b∉X.fs∧(b∈X.ex∨X.s₀.heap.objs.size≤b)∧(∀ x c,X.env.cells.lookup x=some c→c≠b)∧∀ p∈X.pn++pins,p.1≠b
theorem Inv.fpOk {X:Cx} {pins:List (Addr × Obj)} {σ:St} {H H':Hp} {s:Shared} {b:Addr} (I:Inv X pins σ H s) (hb:s.heap.objs.size≤b) (hn:H' b=none):FpOk X pins H' b:=by
 refine ⟨hn,Nat.ne_of_gt (Nat.lt_of_lt_of_le I.lt hb),I.nofs hb,.inr (Nat.le_trans I.sz hb),fun x c e z=>?_,fun p hp z=>?_⟩
 ·obtain ⟨v,q⟩:=I.cell x c e
  exact absurd (Nat.lt_of_lt_of_le q.lt (by rw [z]; exact hb)) (Nat.lt_irrefl _)
 ·exact absurd (Nat.lt_of_lt_of_le (Heap.lt_size (I.pin p hp).1) (by rw [z]; exact hb)) (Nat.lt_irrefl _)
structure Turn (P:Program) (w:World) (K:PySem.W.Frag) (tg:Expr) (J:It) (fp:List Addr) (it:Addr) (tn:Nat→Heap→Prop):Prop where
 mem:it∈fp
 obj:∀ i h,tn i h→∀ b∈fp,∃ o,h.get? b=some o∧∀ v,o.data≠.cell v
 keep:∀ i h h',tn i h→(∀ b∈fp,∀ o,h.get? b=some o→h'.get? b=some o)→tn i h'
 item:∀ (X:Cx),X.prog=P→X.w=w→X.K=K→X.calm=true→∀ (i:Nat) (pins:List (Addr × Obj)) (s:Shared) (σ:St) (H:Hp) (E:Value→Shared→Prop),Inv X pins σ H s→(∀ b∈fp,FpOk X pins H b)→tn i s.heap→J.go i H →
  wpAny (model P w) X.A (pyNext (.ref it)) (fun r s1=>∃ u,r=some u ∧
   wpAny (model P w) X.A (letOwnedTupleGo tg (.ref it) u) (fun _ s2=>∃ x H',Inv X pins σ H' s2∧RelV x u∧J.yld i H x H'∧tn (i+1) s2.heap∧∀ b∈fp,H' b=none) E s1) E s
 done:∀ (X:Cx),X.prog=P→X.w=w→X.K=K→X.calm=true→∀ (i:Nat) (pins:List (Addr × Obj)) (s:Shared) (σ:St) (H:Hp) (E:Value→Shared→Prop),Inv X pins σ H s→(∀ b∈fp,FpOk X pins H b)→tn i s.heap→J.stop i H →
  wpAny (model P w) X.A (pyNext (.ref it)) (fun r s1=>r=none∧Inv X pins σ H s1) E s
 self:∀ (A:Around) (i:Nat) (s:Shared) (Q:Value→Shared→Prop) (E:Value→Shared→Prop),tn i s.heap→Q (.ref it) s→wpAny (model P w) A (pyIter (.ref it)) Q E s
abbrev TI:=St→Hp→(It→Hp→Prop)→Prop
def PIE (X:Cx) (pins:List (Addr × Obj)) (σ:St) (tg:Expr) (R:It→Hp→Prop) (itv:Value) (s2:Shared):Prop :=
 ∃ (it:Addr) (fp:List Addr) (tn:Nat→Heap→Prop) (J:It) (H':Hp),itv=.ref it∧Inv X pins σ H' s2∧Turn X.prog X.w X.K tg J fp it tn∧tn 0 s2.heap∧(∀ b∈fp,FpOk X pins H' b)∧R J H'
def PI (X:Cx) (tg iter:Expr) (wi:TI):Prop :=
 ∀ (pins:List (Addr × Obj)) (s:Shared) (σ:St) (H:Hp) (R:It→Hp→Prop),Inv X pins σ H s→wi σ H R →
  wpAny (model X.prog X.w) X.A (eval iter X.env) (fun v s1=>wpAny (model X.prog X.w) X.A (pyIter v) (PIE X pins σ tg R) X.xe s1) X.xe s
theorem go_of {M:Model} {A:Around} {E:Value→Shared→Prop} {s:Shared} {tg:Expr} {it:Addr} {u:Value} {o:Obj} {n:String} {vs:Array Value} {Q:Unit→Shared→Prop} (ho:s.heap.get? it=some o) (hc:o.cls=.type n) (hd:o.data=.fields vs)
    (hn:["enumerate","zip","dict_itemiterator","dict_reverseitemiterator","odict_iterator","itertools.zip_longest","itertools.pairwise"].contains n=false) (hQ:Q () s):wpAny M A (letOwnedTupleGo tg (.ref it) u) Q E s:=by
  unfold letOwnedTupleGo
  cases tg <;> first
    | exact wpAny_pure hQ
    | (cases u <;> first
        | exact wpAny_pure hQ
        | (refine wpAny_bind (wpAny_load ho ?_)
           rw [hc,hd]
           show wpAny M A (if (["enumerate","zip","dict_itemiterator","dict_reverseitemiterator","odict_iterator","itertools.zip_longest","itertools.pairwise"].contains n && vs[0]? == some (rawInt _))=true then _ else _) Q E s
           rw [if_neg (by intro h; rw [hn,Bool.false_and] at h; cases h)]
           exact wpAny_pure hQ))
def Itl (K:PySem.W.Frag) (a:Addr):It :=
 ⟨fun i H=>∃ xs x,SqL K H a xs∧xs[i]?=some x,fun i H x H'=>H'=H∧∀ xs,SqL K H a xs→xs[i]?=some x,fun i H=>∃ xs,SqL K H a xs∧xs.length≤i⟩
def Itt (K:PySem.W.Frag) (a:Addr):It :=
 ⟨fun i H=>∃ xs x,SqT K H a xs∧xs[i]?=some x,fun i H x H'=>H'=H∧∀ xs,SqT K H a xs→xs[i]?=some x,fun i H=>∃ xs,SqT K H a xs∧xs.length≤i⟩
def Itr (lo:Int) (n:Nat):It:=⟨fun i _=>i < n,fun i H x H'=>H'=H∧x=.int (lo+i),fun i _=>n≤i⟩
theorem turn_list {P:Program} {w:World} {K:PySem.W.Frag} {tg:Expr} (a it:Addr):Turn P w K tg (Itl K a) [it] it (fun i h=>h.IsListIter it a i) where
 mem:=by simp
 obj:=fun i h st b hb=>by
  have e:b=it:=by simpa using hb
  subst e
  obtain ⟨o,e,c,d⟩:=st
  exact ⟨o,e,fun v z=>by rw [d] at z; cases z⟩
 keep:=fun i h h' st k=>st.at fun o e=>k it (by simp) o e
 item:=by
  intro X hP hw hK hc i pins s σ H E I hf st hg
  subst hP hw hK
  obtain ⟨xs,x,hq,hx⟩:=hg
  obtain ⟨its,rv,p,hz⟩:=I.list hq
  obtain ⟨u,hu,ru⟩:=rv.get hx
  obtain ⟨f0,f1,f2,f3,f4,f5⟩:=hf it (by simp)
  refine wpAny_pyNext_list_item st p.isList (x:=u) (by simpa using hu) fun h' st' sb=>?_
  have I1:Inv X pins σ H { s with heap:=h' }:=I.turned (t':=s.toks) (fun b o hb e=>(sb.2 b hb).trans e) f0 f1 f3 f4 f5
  obtain ⟨o,e,c,d⟩:=id st'
  exact ⟨u,rfl,go_of (s:={ s with heap:=h' }) e c d (by decide) ⟨x,H,I1,ru,⟨rfl,fun ys hy=>by rw [I.list_inj hy hq]; exact hx⟩,st',fun b hb=>(hf b hb).1⟩⟩
 done:=by
  intro X hP hw hK hc i pins s σ H E I hf st hg
  subst hP hw hK
  obtain ⟨xs,hq,hx⟩:=hg
  obtain ⟨its,rv,p,hz⟩:=I.list hq
  obtain ⟨f0,f1,f2,f3,f4,f5⟩:=hf it (by simp)
  have hl:=rv.length
  exact wpAny_pyNext_list_end (I.ok.hd hc) st p.isList (by simp; lia) fun h' eb=>⟨rfl,I.turned (t':=s.toks) (fun b o hb e=>eb b o hb e) f0 f1 f3 f4 f5⟩
 self:=fun _ _ _ _ _ st h=>wpAny_pyIter_listiter st h
theorem turn_tuple {P:Program} {w:World} {K:PySem.W.Frag} {tg:Expr} (a it:Addr):Turn P w K tg (Itt K a) [it] it (fun i h=>h.IsTupleIter it a i) where
 mem:=by simp
 obj:=fun i h st b hb=>by
  have e:b=it:=by simpa using hb
  subst e
  obtain ⟨o,e,c,d⟩:=st
  exact ⟨o,e,fun v z=>by rw [d] at z; cases z⟩
 keep:=fun i h h' st k=>st.at fun o e=>k it (by simp) o e
 item:=by
  intro X hP hw hK hc i pins s σ H E I hf st hg
  subst hP hw hK
  obtain ⟨xs,x,hq,hx⟩:=hg
  obtain ⟨its,rv,p,hz⟩:=I.tuple hq
  obtain ⟨u,hu,ru⟩:=rv.get hx
  obtain ⟨f0,f1,f2,f3,f4,f5⟩:=hf it (by simp)
  refine wpAny_pyNext_tuple_item st (show s.heap.IsTuple a its.toArray from p) (x:=u) (by simpa using hu) fun h' st' sb=>?_
  have I1:Inv X pins σ H { s with heap:=h' }:=I.turned (t':=s.toks) (fun b o hb e=>(sb.2 b hb).trans e) f0 f1 f3 f4 f5
  obtain ⟨o,e,c,d⟩:=id st'
  exact ⟨u,rfl,go_of (s:={ s with heap:=h' }) e c d (by decide) ⟨x,H,I1,ru,⟨rfl,fun ys hy=>by rw [I.tuple_inj hy hq]; exact hx⟩,st',fun b hb=>(hf b hb).1⟩⟩
 done:=by
  intro X hP hw hK hc i pins s σ H E I hf st hg
  subst hP hw hK
  obtain ⟨xs,hq,hx⟩:=hg
  obtain ⟨its,rv,p,hz⟩:=I.tuple hq
  obtain ⟨f0,f1,f2,f3,f4,f5⟩:=hf it (by simp)
  have hl:=rv.length
  exact wpAny_pyNext_tuple_end (I.ok.hd hc) st (show s.heap.IsTuple a its.toArray from p) (by simp; lia) fun h' eb=>⟨rfl,I.turned (t':=s.toks) (fun b o hb e=>eb b o hb e) f0 f1 f3 f4 f5⟩
 self:=fun _ _ _ _ _ st h=>wpAny_pyIter_tupleiter st h
theorem turn_range {P:Program} {w:World} {K:PySem.W.Frag} {tg:Expr} (it:Addr) (lo:Int) (n:Nat):Turn P w K tg (Itr lo n) [it] it (fun i h=>IsRangeIter h it (lo+(i:Nat) * 1) ((n:Int) - (i:Nat)) 1) where
 mem:=by simp
 obj:=fun i h st b hb=>by
  have e:b=it:=by simpa using hb
  subst e
  exact ⟨_,st,fun v z=>by
   have z':Data.fields _=Data.cell v:=z
   cases z'⟩
 keep:=fun i h h' st k=>k it (by simp) _ st
 item:=by
  intro X hP hw hK hc i pins s σ H E I hf st hg
  subst hP hw hK
  obtain ⟨f0,f1,f2,f3,f4,f5⟩:=hf it (by simp)
  have W:=Walks.range (prog:=X.prog) (w:=X.w) (I.ok.hd hc) it lo 1 n
  refine W.item i s _ _ hg st fun v h' tk hv st' kk=>?_
  obtain ⟨t,rfl⟩:=hv
  have I1:Inv X pins σ H { s with heap:=h',toks:=tk }:=I.turned (fun b o hb e=>kk b o (by simpa using hb) e) f0 f1 f3 f4 f5
  refine ⟨_,rfl,go_of (s:={ s with heap:=h',toks:=tk }) (n:="range_iterator") st' rfl rfl (by decide) ⟨.int (lo+i),H,I1,⟨t,?_⟩,⟨rfl,rfl⟩,st',fun b hb=>(hf b hb).1⟩⟩
  rw [Int.mul_one]
 done:=by
  intro X hP hw hK hc i pins s σ H E I hf st hg
  subst hP hw hK
  obtain ⟨f0,f1,f2,f3,f4,f5⟩:=hf it (by simp)
  exact wpAny_pyNext_range_end (I.ok.hd hc) st (by have:n≤i:=hg; lia) fun h' eb=>⟨rfl,I.turned (t':=s.toks) (fun b o hb e=>eb b o hb e) f0 f1 f3 f4 f5⟩
 self:=fun _ _ _ _ _ st h=>wpAny_pyIter_rangeiter st h
end L2
namespace L2
open PySem PySem.Spec PyProof.Rows
section
variable {X:Cx} {tg:Expr}
theorem range_it {pins:List (Addr × Obj)} {σ:St} {H:Hp} {s:Shared} {R:It→Hp→Prop} {E:Value→Shared→Prop} {lo hi:Int} {t u v:Tok} {tk:Nat} (I:Inv X pins σ H s) (h1:-(2 ^ 62)≤lo) (h2:lo < 2 ^ 62) (h3:-(2 ^ 62)≤hi) (h4:hi < 2 ^ 62)
  (q:R (Itr lo (hi - lo).toNat) H):wpAny (model X.prog X.w) X.A (pyIter (.ref s.heap.objs.size)) (PIE X pins σ tg R) E { s with heap:=s.heap.push { cls:=.type "range",data:=.fields #[.int lo t,.int hi u,.int 1 v] },toks:=tk }:=by
 refine wpAny_pyIter_range (IsRange.new ..) (small_one h1 h2 h3 h4) ?_
 have I1:Inv X pins σ H { s with heap:=s.heap.push { cls:=.type "range",data:=.fields #[.int lo t,.int hi u,.int 1 v] },toks:=tk }:=I.kept fun b o e=>Heap.get?_push_of_some _ e
 refine ⟨(s.heap.push { cls:=.type "range",data:=.fields #[.int lo t,.int hi u,.int 1 v] }).objs.size,[(s.heap.push { cls:=.type "range",data:=.fields #[.int lo t,.int hi u,.int 1 v] }).objs.size],_,_,H,rfl,
  I1.kept (t':=tk) fun b o e=>Heap.get?_push_of_some _ e,turn_range _ lo (hi - lo).toNat,?_,fun b hb=>?_,q⟩
 ·have e1:lo+((0:Nat):Int) * 1=lo:=by simp
  have e2:(((hi - lo).toNat:Nat):Int) - ((0:Nat):Int)=Builtin.Range.rangeSize lo hi 1:=by rw [rangeSize_one]; split <;> lia
  show IsRangeIter _ _ (lo+((0:Nat):Int) * 1) ((((hi - lo).toNat:Nat):Int) - ((0:Nat):Int)) 1
  rw [e1,e2]
  exact Heap.get?_push_size _ rfl
 ·have e:b=(s.heap.push { cls:=.type "range",data:=.fields #[.int lo t,.int hi u,.int 1 v] }).objs.size:=by simpa using hb
  subst e
  exact I1.fpOk (Nat.le_refl _) (I1.hok.fresh (Nat.le_refl _))
def iRng1 (ta:TA):TI:=fun σ H R=>ta σ H fun vs H1=>∃ j:Int,vs=[.int j]∧-(2 ^ 62)≤j∧j < 2 ^ 62∧R (Itr 0 j.toNat) H1
def iRng2 (ta:TA):TI:=fun σ H R=>ta σ H fun vs H1=>∃ i j:Int,vs=[.int i,.int j]∧(-(2 ^ 62)≤i∧i < 2 ^ 62∧-(2 ^ 62)≤j∧j < 2 ^ 62)∧R (Itr i (j - i).toNat) H1
theorem pi_range1 {a:Expr} {ta:TA} {p pos:Pos} (hg:Gl X "range") (hm:X.mg "range" = none) (ha:PA X [a] ta) (hs:starEach [a] X.env=[(false,eval a X.env)]:=by rfl):PI X tg (.Call (.Name "range" p) [a] [] pos) (iRng1 ta):=by
 intro pins s σ H R I h
 refine Call_ (ld_blt I hg hm boot_range (PyProof.Rows.callWith_type1 (thn (ha pos pins s σ H _ I h) fun us s1 ⟨vs,H1,I1,r1,q1⟩=>?_) hs rfl))
 obtain ⟨j,e,q1,q2,q⟩:=q1
 subst e
 cases r1 with
 | cons r rr =>
  cases rr
  obtain ⟨t,rfl⟩:=r
  exact call_range_1 (range_it I1 (by lia) (by lia) q1 q2 (by simpa using q))
theorem pi_range2 {a b:Expr} {ta:TA} {p pos:Pos} (hg:Gl X "range") (hm:X.mg "range" = none) (ha:PA X [a,b] ta) (hs:starEach [a,b] X.env=[(false,eval a X.env),(false,eval b X.env)]:=by rfl) (hs2:starEach [b] X.env=[(false,eval b X.env)]:=by rfl) :
  PI X tg (.Call (.Name "range" p) [a,b] [] pos) (iRng2 ta):=by
 intro pins s σ H R I h
 refine Call_ (ld_blt I hg hm boot_range (PyProof.Rows.callWith_type1 (thn (ha pos pins s σ H _ I h) fun us s1 ⟨vs,H1,I1,r1,q1⟩=>?_) (by rw [hs,hs2]) (by rw [hs2]; rfl)))
 obtain ⟨i,j,e,⟨q1,q2,q3,q4⟩,q⟩:=q1
 subst e
 cases r1 with
 | cons r rr =>
  cases rr with
  | cons r' rr =>
   cases rr
   obtain ⟨t,rfl⟩:=r
   obtain ⟨t',rfl⟩:=r'
   exact call_range_2 (range_it I1 q1 q2 q3 q4 q)
def tFor (wi:TI) (g:TG) (tb:TS):TS:=fun D σ H=>wi σ H fun J H1=>∃ W:Nat→Nat→St→Hp→Prop,(∃ m,W 0 m σ H1)∧∀ i m σ H,W i m σ H →
 (J.stop i H∧D.nx σ H)∨(J.go i H∧∃ N:St→Hp→Prop,(∀ σ' H',N σ' H'→∃ m',m' < m∧W (i+1) m' σ' H')∧∀ x H',J.yld i H x H'→g x σ H' fun σ2 H2=>tb { D with nx:=N,ct:=N,bk:=D.nx } σ2 H2)
def pinsAt (fp:List Addr) (h:Heap):List (Addr × Obj):=fp.filterMap fun b=>(h.get? b).map fun o=>(b,o)
theorem mem_pinsAt {fp:List Addr} {h:Heap} {b:Addr} {o:Obj} (hb:b∈fp) (e:h.get? b=some o):(b,o)∈pinsAt fp h:=List.mem_filterMap.mpr ⟨b,hb,by rw [e]; rfl⟩
theorem of_pinsAt {fp:List Addr} {h:Heap} {p:Addr × Obj} (hp:p∈pinsAt fp h):p.1∈fp∧h.get? p.1=some p.2:=by
 obtain ⟨b,hb,e⟩:=List.mem_filterMap.mp hp
 cases q:h.get? b with
 | none=>rw [q] at e; cases e
 | some o =>
  rw [q] at e
  have e':(b,o)=p:=Option.some.inj e
  subst e'
  exact ⟨hb,q⟩
theorem Inv.pinned {pins:List (Addr × Obj)} {σ:St} {H:Hp} {s:Shared} {fp:List Addr} (I:Inv X pins σ H s) (hf:∀ b∈fp,FpOk X pins H b) (ho:∀ b∈fp,∃ o,s.heap.get? b=some o∧∀ v,o.data≠.cell v):Inv X (pins++pinsAt fp s.heap) σ H s :=
 I.pins_of fun p hp=>(List.mem_append.mp hp).elim (fun z=>I.pin p (List.mem_append_right _ z)) fun z=>by
  obtain ⟨hb,e⟩:=of_pinsAt z
  obtain ⟨f0,f1,f2,_⟩:=hf p.1 hb
  obtain ⟨o,e',d⟩:=ho p.1 hb
  rw [e] at e'; cases e'
  exact ⟨e,f0,f1,f2,d⟩
theorem Inv.unpinned {pins pl:List (Addr × Obj)} {σ:St} {H:Hp} {s:Shared} (I:Inv X (pins++pl) σ H s):Inv X pins σ H s:=I.pins_of fun p hp=>I.pin p (List.mem_append_right _ (List.mem_append_left _ hp))
theorem ps_for {iter:Expr} {body:List Stmt} {wi:TI} {g:TG} {tb:TS} {pos:Pos} (hp:PassesOwn (model X.prog X.w) X.A X.env X.xe) (hc:X.calm=true) (hi:PI X tg iter wi) (hg:PG X tg g) (hb:PSs X body tb)
  (hs:∀ x,foldedSetIterable iter X.env x=pure x:=by intro _; rfl):PS X (.For tg iter body [] pos) (tFor wi g tb):=by
 intro pins s σ H D I h
 refine wpAny_For (thn (hi pins s σ H _ I h) fun v s1 h1=>thn h1 fun itv s2 h2=>?_) hs
 obtain ⟨it,fp,tn,J,H2,e,I2,T,st2,f2,W,⟨m0,w0⟩,turn⟩:=h2
 subst e
 have stat:∀ {H':Hp},(∀ b∈fp,H' b=none)→∀ b∈fp,FpOk X pins H' b:=fun hn b hb=>⟨hn b hb,(f2 b hb).2⟩
 refine codeAny_forLoop_any (fun n s'=>∃ i σ' H',Inv X pins σ' H' s'∧tn i s'.heap∧(∀ b∈fp,H' b=none)∧W i n σ' H') ?_ m0 ⟨0,σ,H2,I2,st2,fun b hb=>(f2 b hb).1,w0⟩
 rintro n s3 ⟨i,σ3,H3,I3,st3,fr3,w3⟩
 rcases turn i n σ3 H3 w3 with ⟨stop,qn⟩ | ⟨go,N,hN,step⟩
 ·refine wpAny_passesOwn hp (thn (T.done X rfl rfl rfl hc i pins s3 σ3 H3 X.xe I3 (stat fr3) st3 stop) fun r s4 ⟨hr,I4⟩=>?_)
  subst hr
  exact wpAny_execs_nil ⟨σ3,H3,I4,qn⟩
 ·refine wpAny_passesOwn hp (thn (T.item X rfl rfl rfl hc i pins s3 σ3 H3 X.xe I3 (stat fr3) st3 go) fun r s4 ⟨u,hr,h4⟩=>?_)
  subst hr
  refine wpAny_passesOwn hp (thn h4 fun _ s5 ⟨x,H5,I5,r5,y5,st5,fr5⟩=>?_)
  have I5':=I5.pinned (stat fr5) (T.obj _ _ st5)
  refine wpAny_passesOwn hp (thn (hg _ s5 σ3 H5 x u _ I5' r5 (step x H5 y5)) fun _ s6 ⟨σ6,H6,I6,q6⟩=>?_)
  refine wpAny_passesOwn hp (thn (hb _ s6 σ6 H6 _ I6 q6) fun f s7 q7=>?_)
  have again:∀ {σ7:St} {H7:Hp},Inv X (pins++pinsAt fp s5.heap) σ7 H7 s7→N σ7 H7→∃ m,m < n∧∃ i σ' H',Inv X pins σ' H' s7∧tn i s7.heap∧(∀ b∈fp,H' b=none)∧W i m σ' H':=fun {σ7 H7} I7 n7=>by
   obtain ⟨m',hm,w7⟩:=hN σ7 H7 n7
   refine ⟨m',hm,i+1,σ7,H7,I7.unpinned,T.keep _ _ _ st5 fun b hb o e=>(I7.pin (b,o) (List.mem_append_right _ (List.mem_append_right _ (mem_pinsAt hb e)))).1,fun b hb=>?_,w7⟩
   obtain ⟨o,e,d⟩:=T.obj _ _ st5 b hb
   exact (I7.pin (b,o) (List.mem_append_right _ (List.mem_append_right _ (mem_pinsAt hb e)))).2.1
  cases f with
  | next=>obtain ⟨σ7,H7,I7,n7⟩:=q7; exact again I7 n7
  | cont=>obtain ⟨σ7,H7,I7,n7⟩:=q7; exact again I7 n7
  | brk=>obtain ⟨σ7,H7,I7,q7⟩:=q7; exact ⟨σ7,H7,I7.unpinned,q7⟩
  | ret v=>obtain ⟨x7,σ7,H7,I7,r7,q7⟩:=q7; exact ⟨x7,σ7,H7,I7.unpinned,r7,q7⟩
end
end L2
namespace L2
open PySem PySem.Spec PyProof.Rows
abbrev R2:=V→V→Hp→VK→Prop
def OpR (X:Cx) (f:Value→Value→Sem Value) (r:R2):Prop :=
 ∀ (pins:List (Addr × Obj)) (s:Shared) (σ:St) (H:Hp) (x y:V) (v u:Value) (Q:VK),Inv X pins σ H s→RelV x v→RelV y u→r x y H Q →
  wpAny (model X.prog X.w) X.A (f v u) (EP X pins σ Q) X.xe s
def UnR (X:Cx) (f:Value→Sem Value) (r:V→Hp→VK→Prop):Prop :=
 ∀ (pins:List (Addr × Obj)) (s:Shared) (σ:St) (H:Hp) (x:V) (v:Value) (Q:VK),Inv X pins σ H s→RelV x v→r x H Q →
  wpAny (model X.prog X.w) X.A (f v) (EP X pins σ Q) X.xe s
def CallR (X:Cx) (f:Value) (r:List V→Hp→VK→Prop):Prop :=
 ∀ (pins:List (Addr × Obj)) (s:Shared) (σ:St) (H:Hp) (xs:List V) (us:List Value) (Q:VK),Inv X pins σ H s→Vals xs us→r xs H Q →
  wpAny (model X.prog X.w) X.A (call f us) (EP X pins σ Q) X.xe s
def tOp (r:R2) (ta tb:TE):TE:=fun σ H Q=>ta σ H fun x H1=>tb σ H1 fun y H2=>r x y H2 Q
def tUn (r:V→Hp→VK→Prop) (ta:TE):TE:=fun σ H Q=>ta σ H fun x H1=>r x H1 Q
def rI (C:Int→Int→Prop) (g:Int→Int→V):R2:=fun x y H Q=>∃ i j,x=.int i∧y=.int j∧C i j∧Q (g i j) H
def rI0 (g:Int→Int→V):R2:=fun x y H Q=>∃ i j,x=.int i∧y=.int j∧Q (g i j) H
def rU (g:Int→V):V→Hp→VK→Prop:=fun x H Q=>∃ i,x=.int i∧Q (g i) H
section
variable {X:Cx} {a b c:Expr} {ta tb tc:TE} {pos:Pos}
theorem binT (ha:PE X a ta) (hb:PE X b tb) {pins:List (Addr × Obj)} {s:Shared} {σ:St} {H:Hp} {R:V→V→Hp→Prop} (I:Inv X pins σ H s)
  (h:ta σ H fun x H1=>tb σ H1 fun y H2=>R x y H2) {Q:Value→Shared→Prop} {f:Value→Value→Sem Value}
  (hf:∀ v u s2 x y H2,Inv X pins σ H2 s2→RelV x v→RelV y u→R x y H2→wpAny (model X.prog X.w) X.A (f v u) Q X.xe s2) :
  wpAny (model X.prog X.w) X.A (eval a X.env) (fun v s₁=>wpAny (model X.prog X.w) X.A (eval b X.env) (fun u s₂=>wpAny (model X.prog X.w) X.A (f v u) Q X.xe s₂) X.xe s₁) X.xe s:=by
 refine thn (ha pins s σ H _ I h) fun v s1 ⟨x,H1,I1,r1,q1⟩=>?_
 refine thn (hb pins s1 σ H1 _ I1 q1) fun u s2 ⟨y,H2,I2,r2,q2⟩=>?_
 exact hf v u s2 x y H2 I2 r1 r2 q2
theorem pe_op {op:Operator} {r:R2} (ho:OpR X (binaryOp op) r) (ha:PE X a ta) (hb:PE X b tb):PE X (.BinOp a op b pos) (tOp r ta tb):=by
 intro pins s σ H Q I h
 exact wpAny_BinOp (binT ha hb I h fun v u s2 x y H2 I2 rx ry q=>ho pins s2 σ H2 x y v u Q I2 rx ry q)
theorem pe_un {op:UnaryOp} {r:V→Hp→VK→Prop} (ho:UnR X (unaryOp op) r) (ha:PE X a ta):PE X (.UnaryOp op a pos) (tUn r ta):=by
 intro pins s σ H Q I h
 exact UnaryOp_ (thn (ha pins s σ H _ I h) fun v s1 ⟨x,H1,I1,r1,q1⟩=>ho pins s1 σ H1 x v Q I1 r1 q1)
theorem opI {f:Value→Value→Sem Value} {C:Int→Int→Prop} {g:Int→Int→Int}
  (rule:∀ (i j:Int) (t u:Tok) (s:Shared) (Q:Value→Shared→Prop) (E:Value→Shared→Prop),C i j→Q (.int (g i j) s.toks) { s with toks:=s.toks+1 }→wpAny (model X.prog X.w) X.A (f (.int i t) (.int j u)) Q E s) :
  OpR X f (rI C fun i j=>.int (g i j)):=by
 intro pins s σ H x y v u Q I rx ry h
 obtain ⟨i,j,rfl,rfl,hc,q⟩:=h
 obtain ⟨t,rfl⟩:=rx
 obtain ⟨t',rfl⟩:=ry
 exact rule i j t t' s _ _ hc ⟨.int (g i j),H,I.tok _,⟨_,rfl⟩,q⟩
theorem opI0 {f:Value→Value→Sem Value} {g:Int→Int→Int}
  (rule:∀ (i j:Int) (t u:Tok) (s:Shared) (Q:Value→Shared→Prop) (E:Value→Shared→Prop),Q (.int (g i j) s.toks) { s with toks:=s.toks+1 }→wpAny (model X.prog X.w) X.A (f (.int i t) (.int j u)) Q E s) :
  OpR X f (rI0 fun i j=>.int (g i j)):=by
 intro pins s σ H x y v u Q I rx ry h
 obtain ⟨i,j,rfl,rfl,q⟩:=h
 obtain ⟨t,rfl⟩:=rx
 obtain ⟨t',rfl⟩:=ry
 exact rule i j t t' s _ _ ⟨.int (g i j),H,I.tok _,⟨_,rfl⟩,q⟩
theorem opB0 {f:Value→Value→Sem Value} {g:Int→Int→Bool}
  (rule:∀ (i j:Int) (t u:Tok) (s:Shared) (Q:Value→Shared→Prop) (E:Value→Shared→Prop),Q (.bool (g i j)) s→wpAny (model X.prog X.w) X.A (f (.int i t) (.int j u)) Q E s) :
  OpR X f (rI0 fun i j=>.bl (g i j)):=by
 intro pins s σ H x y v u Q I rx ry h
 obtain ⟨i,j,rfl,rfl,q⟩:=h
 obtain ⟨t,rfl⟩:=rx
 obtain ⟨t',rfl⟩:=ry
 exact rule i j t t' s _ _ ⟨.bl (g i j),H,I,rfl,q⟩
def CDiv (i j:Int):Prop:=0 < j∧j < 1073741824
def CPow (i j:Int):Prop:=0≤j∧j≤1000000∧i.natAbs < 2 ^ 64
def CMul (i j:Int):Prop:=(-(2 ^ 64) < i∧i < 2 ^ 64)∨(-(2 ^ 64) < j∧j < 2 ^ 64)
theorem CMul.ok {i j:Int} (h:CMul i j):IntMulOk i j:=by
 rcases h with ⟨h1,h2⟩ | ⟨h1,h2⟩
 ·exact .of_left (intBits_le_64 h1 h2)
 ·exact .of_right (intBits_le_64 h1 h2)
theorem op_add:OpR X (binaryOp .Add) (rI0 fun i j=>.int (i+j)):=opI0 fun _ _ _ _ _ _ _ q=>add_int q
theorem op_sub:OpR X (binaryOp .Sub) (rI0 fun i j=>.int (i - j)):=opI0 fun _ _ _ _ _ _ _ q=>sub_int q
theorem op_mul:OpR X (binaryOp .Mult) (rI CMul fun i j=>.int (i * j)):=opI fun _ _ _ _ _ _ _ hc q=>mul_int q hc.ok
theorem op_fdiv:OpR X (binaryOp .FloorDiv) (rI CDiv fun i j=>.int (i / j)):=opI fun i j _ _ _ _ _ hc q=>by
 have h1:(0:Int) < j:=hc.1
 have h2:j < 1073741824:=hc.2
 exact floordiv_int (by lia) (by rw [Int.fdiv_eq_ediv_of_nonneg i (by lia)]; exact q) (.inl (PyProof.noPylong_small (by lia)))
theorem op_mod:OpR X (binaryOp .Mod) (rI (fun _ j=>0 < j) fun i j=>.int (i % j)):=opI fun i j _ _ _ _ _ hc q=>by
 have h1:(0:Int) < j:=hc
 exact mod_int' (by lia) (by rw [Int.fmod_eq_emod_of_nonneg i (by lia)]; exact q)
theorem op_pow:OpR X (binaryOp .Pow) (rI CPow fun i j=>.int (i ^ j.toNat)):=opI fun _ _ _ _ _ _ _ hc q=>pow_int_small hc.1 hc.2.1 hc.2.2 q
theorem unI {f:Value→Sem Value} {g:Int→Int}
  (rule:∀ (i:Int) (t:Tok) (s:Shared) (Q:Value→Shared→Prop) (E:Value→Shared→Prop),Q (.int (g i) s.toks) { s with toks:=s.toks+1 }→wpAny (model X.prog X.w) X.A (f (.int i t)) Q E s) :
  UnR X f (rU fun i=>.int (g i)):=by
 intro pins s σ H x v Q I rx h
 obtain ⟨i,rfl,q⟩:=h
 obtain ⟨t,rfl⟩:=rx
 exact rule i t s _ _ ⟨.int (g i),H,I.tok _,⟨_,rfl⟩,q⟩
theorem un_neg:UnR X (unaryOp .USub) (rU fun i=>.int (-i)):=unI fun _ _ _ _ _ q=>neg_int q
end
def scal:V→V→Bool
 | .non,.non=>true | .non,.int _=>true | .int _,.non=>true | .non,.bl _=>true | .bl _,.non=>true | .non,.str _=>true | .str _,.non=>true
 | .int _,.int _=>true | .bl _,.bl _=>true | .str _,.str _=>true | .byt _,.byt _=>true
 | .int _,.str _=>true | .str _,.int _=>true | .bl _,.str _=>true | .str _,.bl _=>true
 | _,_=>false
def rEq:R2:=fun x y H Q=>scal x y=true∧Q (.bl (decide (x=y))) H
def rNe:R2:=fun x y H Q=>scal x y=true∧Q (.bl (!decide (x=y))) H
theorem dec_int {i j:Int}:decide (V.int i=V.int j)=(i == j):=by
 rw [Bool.eq_iff_iff]
 simp
theorem dec_bl {i j:Bool}:decide (V.bl i=V.bl j)=(i == j):=by
 rw [Bool.eq_iff_iff]
 simp
theorem dec_str {i j:Str}:decide (V.str i=V.str j)=(i == j):=by
 rw [Bool.eq_iff_iff]
 simp
theorem dec_byt {i j:Array UInt8}:decide (V.byt i=V.byt j)=(i.toList == j.toList):=by
 rw [Bool.eq_iff_iff]
 cases i
 cases j
 simp
section
variable {X:Cx} {a b c:Expr} {ta tb tc:TE} {pos:Pos}
theorem fin_bl {pins:List (Addr × Obj)} {σ:St} {H:Hp} {s:Shared} {Q:VK} {k k':Bool} (I:Inv X pins σ H s) (q:Q (.bl k) H) (e:k=k'):EP X pins σ Q (.bool k') s:=by
 subst e
 exact ⟨.bl k,H,I,rfl,q⟩
theorem op_eq:OpR X (compareOp .Eq) rEq:=by
 intro pins s σ H x y v u Q I rx ry h
 obtain ⟨hs,q⟩:=h
 cases x with
 | non =>
  cases rx
  cases y with
  | non=>cases ry; exact PySem.EqNone.eq_none_none (fin_bl I q (by simp))
  | bl j=>cases ry; exact PySem.EqNone.eq_none_bool (fin_bl I q (by simp))
  | int j=>obtain ⟨t',rfl⟩:=ry; exact PySem.EqNone.eq_none_int (fin_bl I q (by simp))
  | str j=>obtain ⟨t',rfl⟩:=ry; exact PySem.EqNone.eq_none_str (fin_bl I q (by simp))
  | _=>exact absurd (show false=true from hs) Bool.false_ne_true
 | bl i =>
  cases rx
  cases y with
  | non=>cases ry; exact PySem.EqNone.eq_bool_none (fin_bl I q (by simp))
  | bl j=>cases ry; exact eq_bool (fin_bl I q dec_bl)
  | str j=>obtain ⟨t',rfl⟩:=ry; exact PySem.EqMixed.eq_bool_str (fin_bl I q (by simp))
  | _=>exact absurd (show false=true from hs) Bool.false_ne_true
 | int i =>
  obtain ⟨t,rfl⟩:=rx
  cases y with
  | non=>cases ry; exact PySem.EqNone.eq_int_none (fin_bl I q (by simp))
  | int j=>obtain ⟨t',rfl⟩:=ry; exact eq_int (fin_bl I q dec_int)
  | str j=>obtain ⟨t',rfl⟩:=ry; exact PySem.EqMixed.eq_int_str (fin_bl I q (by simp))
  | _=>exact absurd (show false=true from hs) Bool.false_ne_true
 | str i =>
  obtain ⟨t,rfl⟩:=rx
  cases y with
  | non=>cases ry; exact PySem.EqNone.eq_str_none (fin_bl I q (by simp))
  | bl j=>cases ry; exact PySem.EqMixed.eq_str_bool (fin_bl I q (by simp))
  | int j=>obtain ⟨t',rfl⟩:=ry; exact PySem.EqMixed.eq_str_int (fin_bl I q (by simp))
  | str j=>obtain ⟨t',rfl⟩:=ry; exact eq_str (fin_bl I q dec_str)
  | _=>exact absurd (show false=true from hs) Bool.false_ne_true
 | byt i =>
  obtain ⟨t,rfl⟩:=rx
  cases y with
  | byt j=>obtain ⟨t',rfl⟩:=ry; exact PySem.W.eq_bytes (fin_bl I q dec_byt)
  | _=>exact absurd (show false=true from hs) Bool.false_ne_true
 | _=>cases y <;> exact absurd (show false=true from hs) Bool.false_ne_true
theorem op_ne:OpR X (compareOp .NotEq) rNe:=by
 intro pins s σ H x y v u Q I rx ry h
 obtain ⟨hs,q⟩:=h
 cases x with
 | non =>
  cases rx
  cases y with
  | non=>cases ry; exact PySem.EqNone.ne_none_none (fin_bl I q (by simp))
  | bl j=>cases ry; exact PySem.EqNone.ne_none_bool (fin_bl I q (by simp))
  | int j=>obtain ⟨t',rfl⟩:=ry; exact PySem.EqNone.ne_none_int (fin_bl I q (by simp))
  | str j=>obtain ⟨t',rfl⟩:=ry; exact PySem.EqNone.ne_none_str (fin_bl I q (by simp))
  | _=>exact absurd (show false=true from hs) Bool.false_ne_true
 | bl i =>
  cases rx
  cases y with
  | non=>cases ry; exact PySem.EqNone.ne_bool_none (fin_bl I q (by simp))
  | bl j=>cases ry; exact ne_bool (fin_bl I q (congrArg not dec_bl))
  | str j=>obtain ⟨t',rfl⟩:=ry; exact PySem.EqMixed.ne_bool_str (fin_bl I q (by simp))
  | _=>exact absurd (show false=true from hs) Bool.false_ne_true
 | int i =>
  obtain ⟨t,rfl⟩:=rx
  cases y with
  | non=>cases ry; exact PySem.EqNone.ne_int_none (fin_bl I q (by simp))
  | int j=>obtain ⟨t',rfl⟩:=ry; exact ne_int (fin_bl I q (congrArg not dec_int))
  | str j=>obtain ⟨t',rfl⟩:=ry; exact PySem.EqMixed.ne_int_str (fin_bl I q (by simp))
  | _=>exact absurd (show false=true from hs) Bool.false_ne_true
 | str i =>
  obtain ⟨t,rfl⟩:=rx
  cases y with
  | non=>cases ry; exact PySem.EqNone.ne_str_none (fin_bl I q (by simp))
  | bl j=>cases ry; exact PySem.EqMixed.ne_str_bool (fin_bl I q (by simp))
  | int j=>obtain ⟨t',rfl⟩:=ry; exact PySem.EqMixed.ne_str_int (fin_bl I q (by simp))
  | str j=>obtain ⟨t',rfl⟩:=ry; exact ne_str (fin_bl I q (congrArg not dec_str))
  | _=>exact absurd (show false=true from hs) Bool.false_ne_true
 | byt i =>
  obtain ⟨t,rfl⟩:=rx
  cases y with
  | byt j=>obtain ⟨t',rfl⟩:=ry; exact PySem.W.ne_bytes (fin_bl I q (congrArg not dec_byt))
  | _=>exact absurd (show false=true from hs) Bool.false_ne_true
 | _=>cases y <;> exact absurd (show false=true from hs) Bool.false_ne_true
theorem op_lt:OpR X (compareOp .Lt) (rI0 fun i j=>.bl (decide (i < j))):=opB0 fun _ _ _ _ _ _ _ q=>lt_int q
theorem op_le:OpR X (compareOp .LtE) (rI0 fun i j=>.bl (decide (i≤j))):=opB0 fun _ _ _ _ _ _ _ q=>le_int q
theorem op_gt:OpR X (compareOp .Gt) (rI0 fun i j=>.bl (decide (j < i))):=opB0 fun _ _ _ _ _ _ _ q=>gt_int q
theorem op_in_str:OpR X (compareOp .In) (fun x y H Q=>∃ i j,x=.str i∧y=.str j∧Q (.bl (!(Builtin.Str.occurrences j i 0 j.length 1).isEmpty)) H):=by
 intro pins s σ H x y v u Q I rx ry h
 obtain ⟨i,j,rfl,rfl,q⟩:=h
 obtain ⟨t,rfl⟩:=rx
 obtain ⟨t',rfl⟩:=ry
 exact in_str (fin_bl I q rfl)
theorem op_isN:OpR X (compareOp .Is) (fun x y H Q=>y=.non∧Q (.bl (decide (x=.non))) H):=by
 intro pins s σ H x y v u Q I rx ry h
 obtain ⟨rfl,q⟩:=h
 cases ry
 refine is_none_gen (fin_bl I q ?_)
 cases x <;> first
  | (cases rx; rfl)
  | (obtain ⟨t,rfl⟩:=rx; rfl)
theorem OpR.or {f:Value→Value→Sem Value} {r r':R2} (h:OpR X f r) (h':OpR X f r'):OpR X f (fun x y H Q=>r x y H Q∨r' x y H Q):=by
 intro pins s σ H x y v u Q I rx ry q
 rcases q with q | q
 ·exact h pins s σ H x y v u Q I rx ry q
 ·exact h' pins s σ H x y v u Q I rx ry q
theorem pe_cmpR {op:CmpOp} {r:R2} (ho:OpR X (compareOp op) r) (ha:PE X a ta) (hb:PE X b tb) (hm:behindInMarks op b=false):PE X (.Compare a [op] [b] pos) (tOp r ta tb):=by
 intro pins s σ H Q I h
 exact wpAny_Compare1 (binT ha hb I h fun v u s2 x y H2 I2 rx ry q=>ho pins s2 σ H2 x y v u Q I2 rx ry q) hm
def tTest (t:TE):TT:=fun σ H Q=>t σ H fun x H'=>∃ k,x=.bl k∧Q k H'
theorem pt_cmpR {op:CmpOp} {r:R2} (ho:OpR X (compareOp op) r) (ha:PE X a ta) (hb:PE X b tb) (hm:behindInMarks op b=false):PT X (.Compare a [op] [b] pos) (tTest (tOp r ta tb)):=by
 intro pins s σ H Q I h
 refine wpAny_isTrue_Compare1 (thn (ha pins s σ H _ I h) fun v s1 ⟨x,H1,I1,r1,q1⟩=>thn (hb pins s1 σ H1 _ I1 q1) fun u s2 ⟨y,H2,I2,r2,q2⟩ =>
  thn (ho pins s2 σ H2 x y v u _ I2 r1 r2 q2) fun c s3 ⟨z,H3,I3,r3,k,e,q3⟩=>?_) hm
 subst e
 cases r3
 exact wpAny_truthy_bool ⟨H3,I3,q3⟩
def tChain (r r':R2) (ta tb tc:TE):TE:=fun σ H Q=>ta σ H fun x H1=>tb σ H1 fun y H2=>r x y H2 fun z H3=>∃ k,z=.bl k ∧
 (if k=true then tc σ H3 fun w' H4=>r' y w' H4 Q else Q (.bl false) H3)
theorem pt_chain {op op':CmpOp} {r r':R2} (ho:OpR X (compareOp op) r) (ho':OpR X (compareOp op') r') (ha:PE X a ta) (hb:PE X b tb) (hc:PE X c tc)
  (hm:lastMarks [op,op'] [b,c]=false:=by with_unfolding_all rfl):PT X (.Compare a [op,op'] [b,c] pos) (tTest (tChain r r' ta tb tc)):=by
 intro pins s σ H Q I h
 refine isTrue_chain (thn (ha pins s σ H _ I h) fun v s1 ⟨x,H1,I1,r1,q1⟩=>test_link (thn (hb pins s1 σ H1 _ I1 q1) fun u s2 ⟨y,H2,I2,r2,q2⟩ =>
  thn (ho pins s2 σ H2 x y v u _ I2 r1 r2 q2) fun d s3 ⟨z,H3,I3,r3,k,e,q3⟩=>?_)) hm
 subst e
 cases r3
 refine wpAny_truthy_bool ?_
 cases k with
 | false =>
  obtain ⟨k',e',q'⟩:=q3
  cases e'
  exact ite_ff ⟨H3,I3,q'⟩
 | true =>
  refine ite_tt (test_last (thn (hc pins s3 σ H3 _ I3 q3) fun w' s4 ⟨z',H4,I4,r4,q4⟩=>thn (ho' pins s4 σ H4 y z' u w' _ I4 r2 r4 q4) fun d' s5 ⟨z2,H5,I5,r5,k2,e2,q5⟩=>?_))
  subst e2
  cases r5
  exact wpAny_truthy_bool ⟨H5,I5,q5⟩
theorem line63:(sizeLine:Nat) < 2 ^ 63:=by rw [sizeLine_eq]; decide
theorem op_add_str:OpR X (binaryOp .Add) (fun x y H Q=>∃ i j,x=.str i∧y=.str j∧i.length+j.length≤sizeLine∧Q (.str (i++j)) H):=by
 intro pins s σ H x y v u Q I rx ry h
 obtain ⟨i,j,rfl,rfl,hz,q⟩:=h
 obtain ⟨t,rfl⟩:=rx
 obtain ⟨t',rfl⟩:=ry
 exact add_str (fun t' tk=>⟨.str (i++j),H,I.tok _,⟨_,rfl⟩,q⟩) hz
theorem vals1 {x:V} {us:List Value} (r:Vals [x] us):∃ u,us=[u]∧RelV x u:=by
 cases r with
 | cons r1 r2=>cases r2; exact ⟨_,rfl,r1⟩
theorem vals2 {x y:V} {us:List Value} (r:Vals [x,y] us):∃ u w',us=[u,w']∧RelV x u∧RelV y w':=by
 cases r with
 | cons r1 r2 =>
  cases r2 with
  | cons r3 r4=>cases r4; exact ⟨_,_,rfl,r1,r3⟩
theorem call_str_int:CallR X (.type "str") (fun xs H Q=>∃ i,xs=[.int i]∧i.natAbs.log2 < 1920∧Q (.str (toString i)) H):=by
 intro pins s σ H xs us Q I r h
 obtain ⟨i,rfl,hz,q⟩:=h
 obtain ⟨u,rfl,t,rfl⟩:=vals1 r
 exact PySem.P.str_of_int hz ⟨.str _,H,I.tok _,⟨_,rfl⟩,q⟩
end
end L2
namespace L2
open PySem PySem.Spec PyProof.Rows
structure ObjM (h:Heap) (x dx C:Addr) (mA:Str→Option Value):Prop where
 obj:h.get? x=some (PySem.W.instObj C dx)
 ns:h.Ns1 dx mA
 ne:dx≠x
theorem lookIn_ns {h:Heap} {dx:Addr} {mA:Str→Option Value} (n:h.Ns1 dx mA):∃ od,h.get? dx=some od∧∀ name,PySem.W.lookIn name od=some (mA name):=by
 obtain ⟨o,es,ep,ho,hd,hk,_,hm⟩:=n
 refine ⟨o,ho,fun name=>?_⟩
 have e:=hm name
 unfold nsFind findBy at e
 rw [← Array.find?_toList] at e
 unfold PySem.W.lookIn
 rw [hd]
 dsimp only
 split
 ·rename_i y q
  rw [q] at e
  exact congrArg some e
 ·rename_i q
  rw [q] at e
  have a:es.toList.any (·.refKey)=false:=by
   rw [List.any_eq_false]
   intro y hy
   obtain ⟨z,t,hkey⟩:=hk y (Array.mem_toList_iff.mp hy)
   simp [DictEntry.refKey,hkey]
  have a':¬ es.toList.any (·.refKey)=true:=by rw [a]; exact Bool.false_ne_true
  rw [if_neg a']
  exact congrArg some e
theorem ObjM.look {h:Heap} {x dx C:Addr} {mA:Str→Option Value} (I:ObjM h x dx C mA):∃ od,PySem.W.InstAt h x (PySem.W.instObj C dx) C (some od)∧∀ name,PySem.W.lookIn name od=some (mA name) :=
 let ⟨od,ho,hl⟩:=lookIn_ns I.ns
 ⟨od,⟨I.obj,rfl,rfl,ho⟩,hl⟩
section
variable {prog:Program} {w:World} {A:Around} {E:Value→Shared→Prop} {s:Shared} {K:PySem.W.Frag} {x dx C f:Addr} {mA:Str→Option Value} {name:Str} {v:Value}
end
theorem RelO.some_of {v:V} {o:Option Value} (r:RelO (some v) o):∃ u,o=some u∧RelV v u:=by
 cases o with
 | none=>exact (show False from r).elim
 | some u=>exact ⟨u,rfl,r⟩
section
variable {P:Program} {w:World} {H H':Hp} {h h':Heap} {a C dx:Addr} {fs fs':List (Str × V)}
theorem ins_get (hok:HOk P w H h) (e:H a=some (.ins C dx fs)):∃ mA,ObjM h a dx C mA∧(∀ f,RelO (fs.lookup f) (mA f))∧PySem.Within mA (fs.map (·.1))∧fs.length≤1000∧H dx=some (.own a):=by
 obtain ⟨d,z,ne,ob,mA,n,r,q⟩:=(show ObjOk P w H h a (.ins C dx fs) from hok a _ e)
 exact ⟨mA,⟨ob,n,ne⟩,r,q,z,d⟩
end
structure Cls (K:PySem.W.Frag) (C:Addr):Prop where
 pg:PySem.W.plainGet K C Str.empty=true
 hd:PySem.W.hasDictIn K C=true
 po:PySem.W.plainOver K C=true
 sa:PySem.W.findIn K (.ref C) "__setattr__" = some (some (.builtin "object.__setattr__"))
theorem Cls.get {K:PySem.W.Frag} {C:Addr} (c:Cls K C) (f:Str):PySem.W.plainGet K C f=true:=c.pg
structure Con (K:PySem.W.Frag) (C:Addr) (f:Str) (v:V) (u:Value):Prop where
 at_:PySem.W.findIn K (.ref C) f=some (some u)
 rel:RelV v u
 get:PySem.W.specialIn K u "__get__" = some none
 cp:PySem.W.copiedNames.contains f=false
structure Meth (K:PySem.W.Frag) (C:Addr) (m:Str) (f:Addr):Prop where
 at_:PySem.W.findIn K (.ref C) m=some (some (.ref f))
 fn:PySem.W.isFn K (.ref f)=true
 kp:PySem.W.keepIn K (.ref f)=true
section
variable {X:Cx} {pins:List (Addr × Obj)} {σ:St} {H:Hp} {s:Shared} {a C dx:Addr} {fs:List (Str × V)} {f:Str} {v:V} {A:Around} {E:Value→Shared→Prop}
end
section
variable {X:Cx} {o e value:Expr} {f:Str} {pos pos' tpos:Pos} {ta tv:TE}
end
section
variable {X:Cx} {pins:List (Addr × Obj)} {σ:St} {H:Hp} {s:Shared} {A:Around} {E:Value→Shared→Prop} {Q:Value→Shared→Prop} {c:Value} {b:Bool}
inductive TyOf (K:PySem.W.Frag) (H:Hp):V→Value→Prop where
 | non:TyOf K H .non (.type "NoneType")
 | bl (x:Bool):TyOf K H (.bl x) (.type "bool")
 | int (i:Int):TyOf K H (.int i) (.type "int")
 | str (x:Str):TyOf K H (.str x) (.type "str")
 | flt (x:UInt64):TyOf K H (.flt x) (.type "float")
 | lst {a:Addr} {xs:List V} (e:H a=some (.lst xs)):TyOf K H (.ref a) (.type "list")
 | frz {a:Addr} {o:Obj} {xs:List V} (e:H a=some (.frz o (.lst xs))):TyOf K H (.ref a) (.type "list")
 | tup {a:Addr} {xs:List V} (e:H a=some (.tup xs)):TyOf K H (.ref a) (.type "tuple")
 | dK {a:Addr} {kvs:List (Key × V)} (e:H a=some (.dK kvs)):TyOf K H (.ref a) (.type "dict")
 | dT {a:Addr} {kvs:List (List Key × V)} (e:H a=some (.dT kvs)):TyOf K H (.ref a) (.type "dict")
 | ins {a C dx:Addr} {fs:List (Str × V)} (e:H a=some (.ins C dx fs)) (cl:Cls K C) (ha:PySem.W.findIn K (.ref C) "__class__" = some (some (.builtin "object.__class__")))
   (hn:PySem.W.specialIn K (.builtin "object.__class__") "__get__" = some (some (.builtin "getset_descriptor.__get__"))) (htk:PySem.W.takesIn K (.builtin "object.__class__")=some true)
   (hm:PySem.W.mroIn K C (.type "object")=some true):TyOf K H (.ref a) (.ref C)
theorem isinst_ok {x:V} {u t:Value} (I:Inv X pins σ H s) (rx:RelV x u) (ty:TyOf X.K H x t) (e:PySem.W.kitOne X.K t c=some b) (h:∀ tk,Q (.bool b) { s with toks:=tk }) :
  wpAny (model X.prog X.w) A (call (.builtin "isinstance") [u,c]) Q E s:=by
 cases ty with
 | non=>cases (show u=Value.none from rx); exact PySem.W.kia_one PySem.W.kitx_none I.kIn True.intro e (fun z=>nomatch z) h
 | bl y=>cases (show u=Value.bool y from rx); exact PySem.W.kia_one PySem.W.kitx_bool I.kIn True.intro e (fun z=>nomatch z) h
 | int i=>obtain ⟨t,q⟩:=(show ∃ t,u=Value.int i t from rx); cases q; exact PySem.W.kia_one PySem.W.kitx_int I.kIn True.intro e (fun z=>nomatch z) h
 | str y=>obtain ⟨t,q⟩:=(show ∃ t,u=Value.str y t from rx); cases q; exact PySem.W.kia_one PySem.W.kitx_str I.kIn True.intro e (fun z=>nomatch z) h
 | flt y=>obtain ⟨t,q⟩:=(show ∃ t,u=Value.float y t from rx); cases q; exact PySem.W.kia_one PySem.W.kitx_float I.kIn True.intro e (fun z=>nomatch z) h
 | @lst a xs ea =>
  cases (show u=Value.ref a from rx)
  obtain ⟨_,_,n,_,h1⟩:=(show ObjOk X.prog X.w H s.heap a (.lst xs) from I.hok a _ ea)
  exact PySem.W.kia_one PySem.W.kitx_list I.kIn ⟨_,h1,rfl⟩ e (fun z=>nomatch z) h
 | @frz a ob xs ea =>
  cases (show u=Value.ref a from rx)
  obtain ⟨_,_,_,n,_,h1⟩:=(show ObjOk X.prog X.w H s.heap a (.frz ob (.lst xs)) from I.hok a _ ea)
  exact PySem.W.kia_one PySem.W.kitx_list I.kIn ⟨_,h1,rfl⟩ e (fun z=>nomatch z) h
 | @tup a xs ea =>
  cases (show u=Value.ref a from rx)
  obtain ⟨_,_,_,p⟩:=(show ObjOk X.prog X.w H s.heap a (.tup xs) from I.hok a _ ea)
  obtain ⟨o,h1,h2,_⟩:=p
  exact PySem.W.kia_one PySem.W.kitx_tuple I.kIn ⟨o,h1,h2⟩ e (fun z=>nomatch z) h
 | @dK a kvs ea =>
  cases (show u=Value.ref a from rx)
  obtain ⟨_,_,vs,_,p⟩:=(show ObjOk X.prog X.w H s.heap a (.dK kvs) from I.hok a _ ea)
  obtain ⟨o,es,ep,h1,h2,_⟩:=p
  exact PySem.W.kia_one PySem.W.kitx_dict I.kIn ⟨o,h1,h2.1⟩ e (fun z=>nomatch z) h
 | @dT a kvs ea =>
  cases (show u=Value.ref a from rx)
  obtain ⟨_,_,xs,_,o,es,ep,h1,h2,_⟩:=(show ObjOk X.prog X.w H s.heap a (.dT kvs) from I.hok a _ ea)
  exact PySem.W.kia_one PySem.W.kitx_dict I.kIn ⟨o,h1,h2.1⟩ e (fun z=>nomatch z) h
 | @ins a C dx fs ea cl ha hn htk hm =>
  cases (show u=Value.ref a from rx)
  obtain ⟨mA,O,_⟩:=ins_get I.hok ea
  obtain ⟨od,J,_⟩:=O.look
  exact PySem.W.kia_one (PySem.W.kitx_own (cl.get _) cl.hd ha hn htk hm) I.kIn J e (fun z=>nomatch z) h
end
end L2
namespace L2
open PySem PySem.Spec PyProof.Rows
structure Room (k:Nat) (A:Around):Prop where
 hd:A.handled=none
 dp:A.depth+3 * k+5 < recursionLimit
 un:A.units+16 * k+200 < cLine
theorem Room.mono {j k:Nat} {A:Around} (r:Room k A) (h:j≤k):Room j A:=⟨r.hd,by have:=r.dp; lia,by have:=r.un; lia⟩
theorem Room.deeper {k:Nat} {A:Around} (r:Room (k+1) A) (env:Env):Room k (A.deeper env) :=
 ⟨r.hd,by have:=r.dp; show A.depth+1+3 * k+5 < _; lia,by have:=r.un; show A.units+3+16 * k+200 < _; lia⟩
theorem Room.depth {k:Nat} {A:Around} (r:Room k A):A.depth < recursionLimit:=by have:=r.dp; lia
theorem Room.units {k:Nat} {A:Around} (r:Room k A):A.units+64 < cLine:=by have:=r.un; lia
def tNil:TA:=fun _ H Q=>Q [] H
def tCons (ta:TE) (tr:TA):TA:=fun σ H Q=>ta σ H fun x H1=>tr σ H1 fun xs H2=>Q (x :: xs) H2
section
variable {X:Cx} {e:Expr} {es:List Expr} {te:TE} {t:TA} {pos:Pos}
theorem pa_nil:PA X [] tNil:=fun _ _ _ _ H Q I h=>Calls.spliced_nil ⟨[],H,I,.nil,h⟩
theorem pa_cons (ha:PE X e te) (hr:PA X es t) (hs:starEach (e :: es) X.env=(false,eval e X.env) :: starEach es X.env:=by rfl):PA X (e :: es) (tCons te t):=by
 intro pos pins s σ H Q I h
 rw [hs]
 show wpAny _ _ (spliced ((false,eval e X.env) :: backTo pos (starEach es X.env))) _ _ s
 refine Calls.spliced_cons (thn (ha pins s σ H _ I h) fun u s1 ⟨x,H1,I1,r1,q1⟩=>?_)
 exact thn (hr pos pins s1 σ H1 _ I1 q1) fun us s2 ⟨xs,H2,I2,r2,q2⟩=>⟨x :: xs,H2,I2,.cons r1 r2,q2⟩
def tTup (t:TA):TE:=fun σ H Q=>t σ H fun xs H1=>xs.length≤sizeLine∧∀ p,H1 p=none→Q (.ref p) (upd H1 p (.tup xs))
def tLst (t:TA):TE:=fun σ H Q=>t σ H fun xs H1=>xs.length≤sizeLine∧∀ p,H1 p=none→Q (.ref p) (upd H1 p (.lst xs))
theorem pe_tup {x1} (h:PA X es t):PE X (.Tuple es x1 pos) (tTup t):=by
 intro pins s σ H Q I hq
 refine wpAny_Tuple_spliced (thn (h pos pins s σ H _ I hq) fun us s1 ⟨xs,H1,I1,r,z,q⟩=>⟨by rw [← r.length]; exact z,?_⟩)
 have hf:H1 s1.heap.objs.size=none:=I1.hok.fresh (Nat.le_refl _)
 refine ⟨.ref s1.heap.objs.size,upd H1 s1.heap.objs.size (.tup xs),I1.laid (t':=s1.toks) (fun b u e=>Heap.get?_push_of_some _ e) (Nat.le_refl _) ?_,rfl,q _ hf⟩
 exact ⟨z,us,r,⟨_,Heap.get?_push_size _ rfl,rfl,_,rfl⟩⟩
theorem pe_lst (h:PA X es t):PE X (.List es pos) (tLst t):=by
 intro pins s σ H Q I hq
 refine wpAny_List_spliced (thn (h pos pins s σ H _ I hq) fun us s1 ⟨xs,H1,I1,r,z,q⟩=>⟨by rw [← r.length]; exact z,?_⟩)
 have hf:H1 s1.heap.objs.size=none:=I1.hok.fresh (Nat.le_refl _)
 refine ⟨.ref s1.heap.objs.size,upd H1 s1.heap.objs.size (.lst xs),I1.laid (t':=s1.toks) (fun b u e=>Heap.get?_push_of_some _ e) (Nat.le_refl _) ?_,rfl,q _ hf⟩
 exact ⟨z,us,0,r,Heap.get?_push_size _ rfl⟩
end
abbrev Sp:=List V→Hp→VK→XK→Prop
abbrev CXT:=List Env→Hp→Shared→XK→Value→Shared→Prop
structure Env0 (P:Program) (w:World) (K:PySem.W.Frag) (mg:Str→Option Value) (base:Heap) (A:Around) (outer:List Env) (s:Shared) (H:Hp):Prop where
 frames:A.frames=some outer
 mod:Mod K mg base
 bs:∀ b o,base.get? b=some o→s.heap.get? b=some o∧H b=none
 bsz:base.objs.size≤s.heap.objs.size
 funs:s.heap.FunFrames base outer
 frf:∀ b∈frs outer,H b=none
 hok:HOk P w H s.heap
 bare:AllBare s.gens
def CE (outer:List Env) (P:Program) (w:World) (H:Hp) (s:Shared) (Q:VK) (u:Value) (s':Shared):Prop :=
 ∃ v H',s'.os=s.os∧AllBare s'.gens∧Un (frs outer) [] H H' s.heap s'.heap∧HOk P w H' s'.heap∧RelV v u∧Q v H'
def CR (CX:CXT) (outer:List Env) (P:Program) (w:World) (H:Hp) (s:Shared) (Q:VK) (E:XK) (r:Result) (s':Shared):Prop :=
 match r with
 | .ok (.ret u)=>CE outer P w H s Q u s'
 | .ok _=>False
 | .error e=>CX outer H s E e s'
structure FnOk (P:Program) (w:World) (K:PySem.W.Frag) (mg:Str→Option Value) (base:Heap) (CX:CXT) (k:Nat) (f:Addr) (fd:FuncData) (ps:List Str) (sp:Sp):Prop where
 len:∀ vs H Q E,sp vs H Q E→vs.length=ps.length
 run:∀ (A:Around) (outer:List Env) (s:Shared) (H:Hp) (args:Args) (us:List Value) (vs:List V) (Q:VK) (E:XK),Room k A→Env0 P w K mg base A outer s H→BindsTo s fd args (ps.zip us)→Vals vs us→sp vs H Q E →
  codeAny (model P w) A (.call (.ref f) args) (CR CX outer P w H s Q E) s
section
variable {X:Cx} {pins:List (Addr × Obj)} {σ:St} {H:Hp} {s s':Shared}
theorem Inv.env0 (I:Inv X pins σ H s):Env0 X.prog X.w X.K X.mg X.base X.A X.stack s H :=
 ⟨I.ok.frames,I.ok.mod,I.bs,Nat.le_trans I.ok.bsz I.sz,I.stack,I.stkFree,I.hok,I.bare⟩
theorem Inv.after {Q:VK} {u:Value} (I:Inv X pins σ H s) (h:CE X.stack X.prog X.w H s Q u s'):EP X pins σ Q u s':=by
 obtain ⟨v,H',os,bare,un,hok,r,q⟩:=h
 obtain ⟨hh,g,d,t,os'⟩:=s'
 obtain rfl:os'=s.os:=os
 exact ⟨v,H',I.call (h':=hh) (g':=g) (d':=d) (t':=t) (ch:=[]) un hok bare (fun b z=>absurd z (by simp)),r,q⟩
end
def tCall (sp:Sp) (dvs:List V) (E:XK) (t:TA):TE:=fun σ H Q=>t σ H fun vs H1=>sp (vs++dvs) H1 Q E
def Binds (K:PySem.W.Frag) (fd:FuncData) (ps:List Str) (ds:List Value):Prop :=
 ∀ (s:Shared) (us:List Value),K.In s.heap→(us++ds).length=ps.length→BindsTo s fd ⟨us,[]⟩ (ps.zip (us++ds))
theorem Binds.all {K:PySem.W.Frag} {fd:FuncData} {ps:List Str} (h:∀ us:List Value,us.length=ps.length→bindArgs fd ⟨us,[]⟩=pure (ps.zip us)):Binds K fd ps []:=fun s us _ hl=>by
 rw [List.append_nil] at hl ⊢
 exact .of_eq (h us hl)
def Passes (CX:CXT) (X:Cx) (E:XK):Prop:=∀ (pins:List (Addr × Obj)) (σ:St) (H:Hp) (s:Shared) (e:Value) (s':Shared),Inv X pins σ H s→CX X.stack H s E e s'→X.xe e s'
section
variable {X:Cx} {CX:CXT} {k:Nat} {f C:Addr} {fd:FuncData} {ps:List Str} {sp:Sp} {dvs:List V} {ds:List Value} {E:XK} {x m:Str} {p pos apos:Pos} {e o:Expr} {es:List Expr} {ta:TE} {t:TA}
theorem run_fn {pins:List (Addr × Obj)} {σ:St} {H:Hp} {s:Shared} {Q:VK} {us:List Value} {vs:List V} (F:FnOk X.prog X.w X.K X.mg X.base CX k f fd ps sp) (hr:Room k X.A) (hb:Binds X.K fd ps ds) (hd:Vals dvs ds) (hx:Passes CX X E)
  (I:Inv X pins σ H s) (r:Vals vs us) (h:sp (vs++dvs) H Q E):wpAny (model X.prog X.w) X.A (call (.ref f) us) (EP X pins σ Q) X.xe s:=by
 have r2:Vals (vs++dvs) (us++ds):=r.append hd
 have hl:(us++ds).length=ps.length:=by rw [← r2.length]; exact F.len _ _ _ _ h
 refine wpAny_call (codeAny_mono (F.run X.A X.stack s H ⟨us,[]⟩ (us++ds) (vs++dvs) Q E hr I.env0 (hb s us I.kIn hl) r2 h) fun r s' hq=>?_)
 cases r with
 | error e=>exact hx pins σ H s e s' I hq
 | ok fl =>
  cases fl with
  | ret u=>exact I.after hq
  | next=>exact False.elim hq
  | brk=>exact False.elim hq
  | cont=>exact False.elim hq
theorem pe_call (F:FnOk X.prog X.w X.K X.mg X.base CX k f fd ps sp) (hr:Room k X.A) (hg:Gl X x) (hm:X.mg x=some (.ref f)) (hk:PySem.W.keepIn X.K (.ref f)=true) (hb:Binds X.K fd ps ds) (hd:Vals dvs ds) (hx:Passes CX X E)
  (ha:PA X (e :: es) t) (hdb:(x == ("__debug__" : Str))=false:=by decide) (he:starEach (e :: es) X.env=(false,eval e X.env) :: starEach es X.env:=by rfl) (hpl:(backTo pos (starEach es X.env)).any (·.1)=false:=by rfl) :
  PE X (.Call (.Name x p) (e :: es) [] pos) (tCall sp dvs E t):=by
 intro pins s σ H Q I h
 refine wpAny_Call_Name_kw (ld_glob I hg hm ?_ hdb)
 refine PySem.W.callWith_K (h₀:=X.base) I.ok.mod.kin hk (thn (ha pos pins s σ H _ I h) fun us s1 ⟨vs,H1,I1,r,q⟩=>⟨I1.kIn,?_⟩) he hpl
 exact run_fn F hr hb hd hx I1 r q
structure Mk (K:PySem.W.Frag) (C f:Addr):Prop where
 makes:PySem.W.makesIn K C=true
 init:PySem.W.findIn K (.ref C) "__init__" = some (some (.ref f))
 fn:PySem.W.isFn K (.ref f)=true
 kp:PySem.W.keepIn K (.ref C)=true
end
section
variable {X:Cx} {CX:CXT} {k:Nat} {f C:Addr} {fd:FuncData} {ps ks:List Str} {sp:Sp} {E:XK} {x m:Str} {p pos apos kpos:Pos} {e o:Expr} {es:List Expr} {kws:List Keyword} {te ta:TE} {t tk:TA} {nm:Option Str}
structure KBinds (K:PySem.W.Frag) (fd:FuncData) (ps ks:List Str) (g:List Value→List Value→List Value) (gV:List V→List V→List V):Prop where
 to:∀ (s:Shared) (us ws:List Value),K.In s.heap→(g us ws).length=ps.length→BindsTo s fd ⟨us,ks.zip ws⟩ (ps.zip (g us ws))
 rel:∀ {vs:List V} {us:List Value} {zs:List V} {ws:List Value},Vals vs us→Vals zs ws→Vals (gV vs zs) (g us ws)
variable {g:List Value→List Value→List Value} {gV:List V→List V→List V}
end
structure FnScope (N P:List Str) (sc:Scope):Prop where
 kind:sc.kind=.function
 co:sc.isCoroutine=false
 gen:sc.isGenerator=false
 nd:N.Nodup
 pre:N.take P.length=P
 par:∀ x∈P,sc.names.lookup x=some .local∨sc.names.lookup x=some .cell
 nofree:∀ y∈sc.names,y.2≠.free
theorem bindL_out {kindOf:Str→Option NameKind} {x:Str}:∀ {binds:List (Str × Value)} {m:Str→Option Value},(∀ v,(x,v)∉binds)→bindL kindOf binds m x=m x
 | [],_,_=>rfl
 | (n,v) :: r,m,h=>by
  unfold bindL
  rw [bindL_out fun w hw=>h w (List.mem_cons_of_mem _ hw)]
  split
  ·have:x≠n:=by rintro rfl; exact h v List.mem_cons_self
   simp [this]
  ·rfl
theorem bindC_out {kindOf:Str→Option NameKind} {x:Str}:∀ {binds:List (Str × Value)} {m:Str→Option Value},(∀ v,(x,v)∉binds)→bindC kindOf binds m x=m x
 | [],_,_=>rfl
 | (n,v) :: r,m,h=>by
  unfold bindC
  rw [bindC_out fun w hw=>h w (List.mem_cons_of_mem _ hw)]
  split
  ·rfl
  ·have:x≠n:=by rintro rfl; exact h v List.mem_cons_self
   simp [this]
theorem bindL_get {kindOf:Str→Option NameKind} {x:Str} {v:Value}:∀ {P:List Str} {vs:List Value} {i:Nat} {m:Str→Option Value},P.Nodup→P[i]?=some x→vs[i]?=some v→kindOf x=some .local →
  bindL kindOf (P.zip vs) m x=some v
 | [],_,_,_,_,h,_,_=>by simp at h
 | _ :: _,[],_,_,_,_,h,_=>by simp at h
 | p :: P,w :: vs,0,m,nd,h1,h2,hk=>by
  simp at h1 h2; subst h1; subst h2
  show bindL kindOf ((p,w) :: P.zip vs) m p=_
  unfold bindL
  rw [bindL_out fun v hv=>(List.nodup_cons.mp nd).1 (List.of_mem_zip hv).1,if_pos hk]
  simp
 | p :: P,w :: vs,i+1,m,nd,h1,h2,hk=>by
  show bindL kindOf ((p,w) :: P.zip vs) m x=_
  unfold bindL
  exact bindL_get (i:=i) (List.nodup_cons.mp nd).2 (by simpa using h1) (by simpa using h2) hk
theorem bindC_get {kindOf:Str→Option NameKind} {x:Str} {v:Value}:∀ {P:List Str} {vs:List Value} {i:Nat} {m:Str→Option Value},P.Nodup→P[i]?=some x→vs[i]?=some v→kindOf x≠some .local →
  bindC kindOf (P.zip vs) m x=some v
 | [],_,_,_,_,h,_,_=>by simp at h
 | _ :: _,[],_,_,_,_,h,_=>by simp at h
 | p :: P,w :: vs,0,m,nd,h1,h2,hk=>by
  simp at h1 h2; subst h1; subst h2
  show bindC kindOf ((p,w) :: P.zip vs) m p=_
  unfold bindC
  rw [bindC_out fun v hv=>(List.nodup_cons.mp nd).1 (List.of_mem_zip hv).1,if_neg hk]
  simp
 | p :: P,w :: vs,i+1,m,nd,h1,h2,hk=>by
  show bindC kindOf ((p,w) :: P.zip vs) m x=_
  unfold bindC
  exact bindC_get (i:=i) (List.nodup_cons.mp nd).2 (by simpa using h1) (by simpa using h2) hk
def start (N:List Str) (vs:List V):St:=vs.map some++List.replicate (N.length - vs.length) none
def cxOf (CX:CXT) (P:Program) (w:World) (K:PySem.W.Frag) (mg:Str→Option Value) (base:Heap) (N:List Str) (qual:Str) (scope:Scope) (f:Addr) (cd:Value) (A:Around) (outer:List Env) (s:Shared) (H:Hp) (E:XK):Cx where
 prog:=P
 w:=w
 K:=K
 mg:=mg
 base:=base
 A:=A.deeper (envOfC qual scope s.heap.objs.size f cd)
 N:=N
 s₀:=s
 H₀:=H
 env:=envOfC qual scope s.heap.objs.size f cd
 outer:=outer
 stack:=envOfC qual scope s.heap.objs.size f cd :: outer
 ex:=[]
 calm:=true
 fn:=fun _=>true
 pn:=[]
 xe:=fun e s'=>wpAny (model P w) (A.deeper (envOfC qual scope s.heap.objs.size f cd)) (leaving (envOfC qual scope s.heap.objs.size f cd) e) (fun _ s''=>CX outer H s E e s'') (fun e' s''=>CX outer H s E e' s'') s'
theorem cell_has {sc:Scope} {n:Nat} {x:Str} (h:sc.names.lookup x=some .cell):∃ c,(cellsFrom n sc.names []).lookup x=some c:=by
 have q:=PySem.W.cellsFrom_some sc.names n [] (.inl h)
 exact Option.isSome_iff_exists.mp q
theorem inv_start {CX:CXT} {P:Program} {w:World} {K:PySem.W.Frag} {mg:Str→Option Value} {base:Heap} {N ps:List Str} {qual:Str} {scope:Scope} {f:Addr} {cd:Value} {A:Around} {outer:List Env} {s s1:Shared} {H:Hp} {E:XK} {us:List Value} {vs:List V}
  (S:FnScope N ps scope) (hd:A.handled=none) (e0:Env0 P w K mg base A outer s H) (hl:vs.length=ps.length) (r:Vals vs us)
  (x:InCallC s s.heap.objs.size (bindL (envOfC qual scope s.heap.objs.size f cd).kindOf (ps.zip us) fun _=>none) (cellsFrom (s.heap.objs.size+1) scope.names []) (bindC (envOfC qual scope s.heap.objs.size f cd).kindOf (ps.zip us) fun _=>none) s1) :
  Inv (cxOf CX P w K mg base N qual scope f cd A outer s H E) [] (start N vs) H s1:=by
 have hpl:ps.length≤N.length:=by have:=congrArg List.length S.pre; rw [List.length_take] at this; lia
 obtain ⟨h1,tk,rfl,hk⟩:=x.done
 have noA:∀ b:Addr,b∉(cxOf CX P w K mg base N qual scope f cd A outer s H E).ex:=fun b z=>absurd (show b∈([]:List Addr) from z) (by simp)
 refine ⟨⟨e0.mod,S.kind,rfl,rfl,Nat.le_refl _,fun y z c h1 h2=>?_,fun y hy=>?_,fun y c _ h=>?_,fun _=>hd,Around.frames_deeper e0.frames,.inr ⟨rfl,rfl⟩,fun b z=>absurd z (noA b),e0.bs,e0.bsz,fun b _ _=>noA b,fun b z=>absurd z (noA b),e0.funs,e0.frf⟩,
  rfl,e0.bare,Un.kept hk,⟨_,x.toInCall.ns,fun i y v h1 h2 h3=>?_⟩,fun y c h=>⟨_,x.cell y c h⟩,e0.hok.fresh (Nat.le_refl _),fun y c h=>?_,fun p hp=>absurd (show p∈([]:List (Addr × Obj)) from hp) (by simp),e0.hok.kept hk,?_⟩
 ·exact name_of_addr x.apart (PySem.mem_of_lookup h1) (PySem.mem_of_lookup h2)
 ·have hy:scope.names.lookup y=some .cell∨scope.names.lookup y=some .free:=hy
  rcases hy with hy | hy
  ·exact cell_has hy
  ·exact absurd rfl (S.nofree _ (PySem.mem_of_lookup hy))
 ·exact Nat.le_of_lt (x.above y c (PySem.mem_of_lookup h))
 ·have hi:i < vs.length:=by
   unfold start at h2
   by_cases hi:i < vs.length
   ·exact hi
   ·rw [List.getElem?_append_right (by simpa using hi)] at h2
    rw [List.getElem?_replicate] at h2
    split at h2 <;> cases h2
  have ha:vs[i]?=some v:=by
   unfold start at h2
   rw [List.getElem?_append_left (by simpa using hi),List.getElem?_map] at h2
   cases e:vs[i]? with
   | none=>rw [e] at h2; cases h2
   | some a=>rw [e] at h2; cases h2; rfl
  obtain ⟨u,hu,rv⟩:=r.get ha
  have hp:ps[i]?=some y:=by
   rw [← S.pre,List.getElem?_take_of_lt (by lia)]; exact h1
  have ndP:ps.Nodup:=by rw [← S.pre]; exact S.nd.sublist (List.take_sublist _ _)
  refine ⟨u,rv,?_⟩
  rcases S.par y (List.mem_of_getElem? hp) with k | k
  ·exact .inl ⟨k,bindL_get ndP hp hu k⟩
  ·obtain ⟨c,e⟩:=cell_has (n:=s.heap.objs.size+1) k
   refine .inr ⟨.inl k,c,e,?_⟩
   have q:=x.cell y c e
   rw [bindC_get ndP hp hu (by show scope.names.lookup y≠_; rw [k]; decide)] at q
   exact q
 ·exact e0.hok.fresh (Nat.le_of_lt (x.above y c (PySem.mem_of_lookup h)))
 ·unfold start
  show _=N.length
  rw [List.length_append,List.length_map,List.length_replicate]
  lia
theorem fn_of {CX:CXT} {P:Program} {w:World} {K:PySem.W.Frag} {mg:Str→Option Value} {base:Heap} {k:Nat} {f:Addr} {name qual:Str} {params:Arguments} {body:List Stmt} {scope:Scope} {dV kV doc pm cdv ct oc:Value} {an od:Option Addr}
  {osl:Array (Option Value)} {N ps:List Str} {sp:Sp} (lk:K.lookup f=some ⟨oc,od,.func (PySem.W.fnOf name qual params body scope dV kV doc pm an cdv ct),osl⟩) (hcd:PySem.W.codeIn K cdv qual=true) (S:FnScope N ps scope)
  (len:∀ vs H Q E,sp vs H Q E→vs.length=ps.length)
  (hbody:∀ (A:Around) (outer:List Env) (s:Shared) (H:Hp) (vs:List V) (Q:VK) (E:XK),Room k (A.deeper (envOfC qual scope s.heap.objs.size f cdv))→sp vs H Q E →
   ∃ t,PSs (cxOf CX P w K mg base N qual scope f cdv A outer s H E) body t∧t { nx:=fun _ H'=>Q .non H',rt:=Q } (start N vs) H) :
  FnOk P w K mg base CX (k+1) f (PySem.W.fnOf name qual params body scope dV kV doc pm an cdv ct) ps sp:=by
 refine ⟨len,fun A outer s H args us vs Q E hr e0 hb r hsp=>?_⟩
 have hl:=len _ _ _ _ hsp
 have KX:K.In s.heap:=e0.mod.kin.keeps fun b o e=>(e0.bs b o e).1
 have lim:s.heap.NoLimit:=e0.mod.nolimit.keeps fun b o e=>(e0.bs b o e).1
 have hkind:∀ y∈ps.zip us,scope.names.lookup y.1=some .local∨(scope.names.lookup y.1=some .cell∧((cellsFrom (s.heap.objs.size+1) scope.names []).lookup y.1).isSome=true):=fun ⟨n,v⟩ hy=>by
  rcases S.par n (List.of_mem_zip hy).1 with q | q
  ·exact .inl q
  ·exact .inr ⟨q,PySem.W.cellsFrom_some _ _ _ (.inl q)⟩
 refine codeAny_call_function hr.depth (KX _ _ lk) rfl S.co S.gen rfl (PySem.W.codeRec_of KX hcd) (hb _ _ _ _ ?_)
 refine wpAny_newFunctionEnv_cells S.kind hkind fun env he s1 x=>?_
 subst he
 refine ⟨lim.keeps x.toInCall.keep,codeAny_func ?_⟩
 obtain ⟨t,ht,hq⟩:=hbody A outer s H vs Q E (hr.deeper _) hsp
 have I:Inv (cxOf CX P w K mg base N qual scope f cdv A outer s H E) [] (start N vs) H s1:=inv_start S hr.hd e0 hl r x
 refine wpAny_mono (ht [] s1 (start N vs) H _ I hq) (fun fl s' hs=>?_) fun e s' hs=>hs
 have fin:∀ {σ':St} {H':Hp} {v:V} {u:Value},Inv (cxOf CX P w K mg base N qual scope f cdv A outer s H E) [] σ' H' s'→RelV v u→Q v H'→CE outer P w H s Q u s' :=
  fun {σ' H' v u} J rv q=>⟨v,H',J.os,J.bare,J.base,J.hok,rv,q⟩
 cases fl with
 | ret u =>
  obtain ⟨v,σ',H',J,rv,q⟩:=hs
  exact fin J rv q
 | next =>
  obtain ⟨σ',H',J,q⟩:=hs
  exact fin (v:=V.non) (u:=Value.none) J rfl q
 | brk =>
  obtain ⟨_,_,_,q⟩:=hs
  exact False.elim q
 | cont =>
  obtain ⟨_,_,_,q⟩:=hs
  exact False.elim q
end L2
namespace L2
open PySem PySem.Spec PyProof.Rows
section
variable {X:Cx} {x:Str} {p pos:Pos} {e:Expr} {es:List Expr} {t:TA} {id T:String} {r:List V→Hp→VK→Prop}
def tCB (r:List V→Hp→VK→Prop) (t:TA):TE:=fun σ H Q=>t σ H fun vs H1=>r vs H1 Q
theorem pe_callB (hc:CallR X (.builtin id) r) (hg:Gl X x) (hm:X.mg x=none) (hv:bootBuiltins x=some (.builtin id)) (ha:PA X (e :: es) t) (hn:x≠"__name__" := by decide) (hdb:(x == ("__debug__" : Str))=false:=by decide)
  (he:starEach (e :: es) X.env=(false,eval e X.env) :: starEach es X.env:=by rfl) (hpl:(backTo pos (starEach es X.env)).any (·.1)=false:=by rfl):PE X (.Call (.Name x p) (e :: es) [] pos) (tCB r t):=by
 intro pins s σ H Q I h
 refine wpAny_Call_Name_kw (ld_blt I hg hm hv ?_ hn hdb)
 exact PyProof.Rows.callWith_builtin1 (thn (ha pos pins s σ H _ I h) fun us s1 ⟨vs,H1,I1,r1,q1⟩=>hc pins s1 σ H1 vs us Q I1 r1 q1) he hpl
theorem pe_callTy (hc:CallR X (.type T) r) (hg:Gl X x) (hm:X.mg x=none) (hv:bootBuiltins x=some (.type T)) (ha:PA X (e :: es) t) (hn:x≠"__name__" := by decide) (hdb:(x == ("__debug__" : Str))=false:=by decide)
  (he:starEach (e :: es) X.env=(false,eval e X.env) :: starEach es X.env:=by rfl) (hpl:(backTo pos (starEach es X.env)).any (·.1)=false:=by rfl):PE X (.Call (.Name x p) (e :: es) [] pos) (tCB r t):=by
 intro pins s σ H Q I h
 refine wpAny_Call_Name_kw (ld_blt I hg hm hv ?_ hn hdb)
 exact PyProof.Rows.callWith_type1 (thn (ha pos pins s σ H _ I h) fun us s1 ⟨vs,H1,I1,r1,q1⟩=>hc pins s1 σ H1 vs us Q I1 r1 q1) he hpl
end
end L2
namespace HT
open PySem PyProof.Rows
section
open PySem.SeqAt
open PySem.AutoSeq1 (wpAny_loadPart')
open PySem.MeetsSeq PySem.MeetsSeq2 PySem.MeetsSeq3
end
section
variable {prog:Program} {w:World} {A:Around} {E:Value→Shared→Prop} {s:Shared}
theorem cat_tup {t b:Addr} {vs ws:List Value} {Q:Value→Shared→Prop} (ht:IsTup s.heap t vs.toArray) (hb:IsTup s.heap b ws.toArray) (hv:vs≠[])
  (h1:ws=[]→Q (.ref t) s) (h2:ws≠[]→Q (.ref s.heap.objs.size) { s with heap:=s.heap.push { cls:=.type "tuple",data:=.seq (vs++ws).toArray } })
  (hsz:vs.length+ws.length≤sizeLine):wpAny (model prog w) A (binaryOp .Add (.ref t) (.ref b)) Q E s:=by
 obtain ⟨⟨cls,dd,data,sl⟩,ho,hc,n,hd⟩:=id ht
 obtain ⟨⟨cls2,dd2,data2,sl2⟩,ho2,hc2,n2,hd2⟩:=id hb
 simp only at hc hd hc2 hd2
 subst hc hd hc2 hd2
 have e:vs.toArray++ws.toArray=(vs++ws).toArray:=by simp
 by_cases hw:ws=[]
 ·exact concat_meets ⟨_,ho,rfl⟩ ⟨_,ho2,rfl⟩ noFill_tuple_add seq_tuple_add PySem.F.slot_tuple_add PySem.F.entry_tuple_add (PySem.F.args_tuple_add_2 _ _)
   (tuple_addW1 t b vs.toArray ws.toArray n n2 dd dd2 sl sl2 (by simpa using hv) (by simp [hw])) ⟨ho,ho2,h1 hw⟩
 ·refine concat_meets ⟨_,ho,rfl⟩ ⟨_,ho2,rfl⟩ noFill_tuple_add seq_tuple_add PySem.F.slot_tuple_add PySem.F.entry_tuple_add (PySem.F.args_tuple_add_2 _ _)
   (tuple_addW2 t b vs.toArray ws.toArray n n2 dd dd2 sl sl2 (by simpa using hv) (by simpa using hw) (by rw [List.size_toArray,List.size_toArray]; exact hsz)) ⟨ho,ho2,?_⟩
  rw [e]
  exact h2 hw
def sIx (n d:Nat):Option Int→Nat
 | none=>d
 | some v=>if v < 0 then (v+(n:Int)).toNat else min v.toNat n
theorem sIx_none (n d:Nat):sIx n d none=d:=rfl
theorem sIx_nat (n d k:Nat):sIx n d (some (k:Int))=min k n:=by
 show (if (k:Int) < 0 then ((k:Int)+(n:Int)).toNat else min (k:Int).toNat n)=min k n
 rw [if_neg (by lia),Int.toNat_natCast]
theorem sIx_le (n d:Nat) (hd:d≤n) (o:Option Int):sIx n d o≤n:=by
 cases o with
 | none=>exact hd
 | some v =>
  show (if v < 0 then (v+(n:Int)).toNat else min v.toNat n)≤n
  by_cases hv:v < 0
  ·rw [if_pos hv]; lia
  ·rw [if_neg hv]; exact Nat.min_le_right _ _
theorem clip_eq (v:Int) (n d:Nat):(if v < 0 then max (v+(n:Int)) 0 else min v (n:Int))=((sIx n d (some v):Nat):Int):=by
 show (if v < 0 then max (v+(n:Int)) 0 else min v (n:Int))=(((if v < 0 then (v+(n:Int)).toNat else min v.toNat n):Nat):Int)
 by_cases hv:v < 0
 ·simp only [if_pos hv]; lia
 ·simp only [if_neg hv]; lia
theorem adjust_gen (lo hi:Option Int) (n:Nat):Builtin.Slice.sliceAdjust lo hi 1 (n:Int)=(((sIx n 0 lo:Nat):Int),((sIx n n hi:Nat):Int)):=by
 have h1:¬ ((1:Int) < 0):=by lia
 unfold Builtin.Slice.sliceAdjust
 simp only [h1,if_false]
 refine Prod.ext ?_ ?_
 ·cases lo with
  | none=>rfl
  | some v=>exact clip_eq v n 0
 ·cases hi with
  | none=>rfl
  | some v=>exact clip_eq v n n
theorem places_gen (i j:Nat):Builtin.Slice.slicePlaces (i:Int) (j:Int) 1=j - i:=by
 unfold Builtin.Slice.slicePlaces
 have h1:(1:Int) > 0:=by lia
 simp only [h1,if_true,Int.ediv_one]
 split <;> lia
theorem slicePart_ {v:Value} {o:Option Int} {Q:Option Int→Shared→Prop} (p:IsPart v o) (h:Q o s):wpAny (model prog w) A (Builtin.Slice.slicePartIndex v) Q E s:=by
 cases p with
 | none=>exact slicePart_none h
 | int i t=>exact slicePart_int h
theorem sliceApplied_gen {sl:Addr} {vl vu:Value} {lo hi:Option Int} {n:Nat} {Q:Int × Int × Nat→Shared→Prop} (hs:s.heap.IsSliceOf sl vl vu .none) (pl:IsPart vl lo) (pu:IsPart vu hi)
  (h:Q (((sIx n 0 lo:Nat):Int),1,sIx n n hi - sIx n 0 lo) s):wpAny (model prog w) A (Builtin.Slice.sliceApplied (.ref sl) (pure (n:Int))) Q E s:=by
 obtain ⟨os,hos,hcs,hds⟩:=id hs
 unfold Builtin.Slice.sliceApplied Builtin.Slice.sliceFields
 refine wpAny_bind (wpAny_bind (wpAny_field hos hds (x:=vl) rfl (wpAny_bind (wpAny_field hos hds (x:=vu) rfl (wpAny_bind (wpAny_field hos hds (x:=.none) rfl (wpAny_pure ?_)))))))
 refine wpAny_bind (slicePart_none ?_)
 show wpAny _ _ (if ((1:Int) == 0)=true then _ else _) _ _ s
 rw [if_neg (by decide)]
 refine wpAny_bind (slicePart_ pl (wpAny_bind (slicePart_ pu (wpAny_bind (wpAny_pure ?_)))))
 show wpAny _ _ (match Builtin.Slice.sliceAdjust lo hi 1 (n:Int) with | (lo,hi)=>pure (lo,(1:Int),Builtin.Slice.slicePlaces lo hi 1)) _ _ s
 rw [adjust_gen lo hi n]
 show wpAny _ _ (pure (((sIx n 0 lo:Nat):Int),(1:Int),Builtin.Slice.slicePlaces ((sIx n 0 lo:Nat):Int) ((sIx n n hi:Nat):Int) 1)) _ _ s
 rw [places_gen]
 exact wpAny_pure h
theorem pick_gen (xs:Array Value) (i k:Nat):((List.range k).filterMap fun (m:Nat)=>xs[((i:Int)+(m:Int) * 1).toNat]?).toArray=((xs.toList.drop i).take k).toArray:=by
 have e:(fun (m:Nat)=>xs[((i:Int)+(m:Int) * 1).toNat]?)=fun m=>xs[i+m]?:=by
  funext m
  have:((i:Int)+(m:Int) * 1).toNat=i+m:=by lia
  rw [this]
 rw [e]
 have:=pick_run xs i k
 rw [List.filterMap_map] at this
 have e2:((fun x=>xs[x]?) ∘ fun x=>i+x)=fun m=>xs[i+m]?:=rfl
 rw [e2] at this
 rw [this]
theorem getItem_tuple_cut {t sl:Addr} {items:Array Value} {vl vu:Value} {lo hi:Option Int} {Q:Value→Shared→Prop} (ht:IsTup s.heap t items) (hs:s.heap.IsSliceOf sl vl vu .none) (pl:IsPart vl lo) (pu:IsPart vu hi)
  (hw:¬ (sIx items.size 0 lo=0∧sIx items.size items.size hi=items.size))
  (h:Q (.ref s.heap.objs.size) { s with heap:=s.heap.push { cls:=.type "tuple",data:=.seq ((items.toList.drop (sIx items.size 0 lo)).take (sIx items.size items.size hi - sIx items.size 0 lo)).toArray } })
  (hsz:items.size≤sizeLine):wpAny (model prog w) A (getItem (.ref t) (.ref sl)) Q E s:=by
 have htake:sizeOk (.seq ((items.toList.drop (sIx items.size 0 lo)).take (sIx items.size items.size hi - sIx items.size 0 lo)).toArray):=by
  show ((items.toList.drop (sIx items.size 0 lo)).take (sIx items.size items.size hi - sIx items.size 0 lo)).toArray.size≤sizeLine
  rw [List.size_toArray,List.length_take,List.length_drop,Array.length_toList]
  lia
 have hj:sIx items.size items.size hi≤items.size:=sIx_le _ _ (Nat.le_refl _) hi
 obtain ⟨os,hos,hcs,hds⟩:=id hs
 have hTs:s.TypeIs (.ref sl) "slice" := ⟨os,hos,hcs⟩
 unfold getItem
 try with_reducible refine wpAny_holding ?_
 first | refine wpAny_bind (wpAny_pure ?_) | skip
 refine wpAny_bind (wpAny_sequenceKey ht.typeIs (by decide) ?_)
 refine wpAny_bind (wpAny_callSpecial?_slot (name:=Str.ofString "__getitem__") ht.typeIs PyProof.Rows.slot_tuple_getitem
  (wpAny_call_entry PyProof.Rows.slot_tuple_getitem ht.typeIs entry_tuple_getitem ?_ (args_tuple_getitem _ _)))
 show wpAny _ _ (Builtin.Tuple.tupleItemsOf (.ref t) >>= _) _ _ s
 refine wpAny_bind (tupleItemsOf_ ht ?_)
 refine wpAny_bind (wpAny_typeOf hTs ?_)
 rw [if_pos (by decide)]
 refine wpAny_bind (sliceApplied_gen hs pl pu ?_)
 have hno:¬ ((((sIx items.size 0 lo:Nat):Int) == 0 && (1:Int) == 1 && (sIx items.size items.size hi - sIx items.size 0 lo) == items.size)=true):=by
  intro q
  rw [Bool.and_eq_true,Bool.and_eq_true] at q
  have q1:((sIx items.size 0 lo:Nat):Int)=0:=eq_of_beq q.1.1
  have q2:sIx items.size items.size hi - sIx items.size 0 lo=items.size:=eq_of_beq q.2
  exact hw ⟨by lia,by lia⟩
 show wpAny _ _ (if (((sIx items.size 0 lo:Nat):Int) == 0 && (1:Int) == 1 && (sIx items.size items.size hi - sIx items.size 0 lo) == items.size)=true then _ else _) _ _ s
 rw [if_neg hno,pick_gen]
 first
  | exact wpAny_bind (m:=Builtin.Tuple.tupleExact _) (wpAny_newObj_type (wpAny_pure ⟨_,rfl,wpAny_pure h⟩) htake)
  | exact wpAny_bind (m:=Builtin.Tuple.tupleExact _) (wpAny_newObj_type (wpAny_bind (wpAny_pure (wpAny_pure ⟨_,rfl,wpAny_pure h⟩))) htake)
  | exact wpAny_bind (wpAny_bind (m:=Builtin.Tuple.tupleExact _) (wpAny_newObj_type (wpAny_pure (wpAny_pure ⟨_,rfl,wpAny_pure h⟩)) htake))
  | exact wpAny_bind (wpAny_bind (m:=Builtin.Tuple.tupleExact _) (wpAny_newObj_type (wpAny_pure ⟨_,rfl,wpAny_pure h⟩) htake))
end
end HT
namespace L2
open PySem PySem.Spec PyProof.Rows
abbrev TO:=St→Hp→(Option Int→Hp→Prop)→Prop
def PO (X:Cx) (e:Option Expr) (t:TO):Prop :=
 ∀ (pins:List (Addr × Obj)) (s:Shared) (σ:St) (H:Hp) (Q:Option Int→Hp→Prop),Inv X pins σ H s→t σ H Q →
  wpAny (model X.prog X.w) X.A (evalPart e X.env) (fun u s'=>∃ o H',Inv X pins σ H' s'∧IsPart u o∧Q o H') X.xe s
def tNoPart:TO:=fun _ H Q=>Q none H
def tPart (t:TE):TO:=fun σ H Q=>t σ H fun x H1=>∃ i,x=.int i∧Q (some i) H1
section
variable {X:Cx} {e:Expr} {te:TE} {lo hi:Option Expr} {tl th:TO} {pos p2:Pos}
theorem po_none:PO X none tNoPart:=by
 intro pins s σ H Q I h
 rw [evalPart_none]
 exact wpAny_pure ⟨none,H,I,.none,h⟩
theorem po_some (h:PE X e te):PO X (some e) (tPart te):=by
 intro pins s σ H Q I hw
 rw [evalPart_some]
 refine thn (h pins s σ H _ I hw) fun u s1 ⟨x,H1,I1,r1,q1⟩=>?_
 obtain ⟨i,rfl,q⟩:=q1
 obtain ⟨t,rfl⟩:=r1
 exact ⟨some i,H1,I1,.int i t,q⟩
def SlR (X:Cx) (r:V→Option Int→Option Int→Hp→VK→Prop):Prop :=
 ∀ (pins:List (Addr × Obj)) (s:Shared) (σ:St) (H:Hp) (x:V) (v vl vu:Value) (lo hi:Option Int) (sl:Addr) (Q:VK),Inv X pins σ H s→RelV x v→s.heap.IsSliceOf sl vl vu .none→IsPart vl lo→IsPart vu hi→r x lo hi H Q →
  ∃ T id,typeLookup (.type T) "__getitem__" = pure (some (.builtin id))∧s.TypeIs v T∧wpAny (model X.prog X.w) X.A (getItem v (.ref sl)) (EP X pins σ Q) X.xe s
theorem SlR.or {r r':V→Option Int→Option Int→Hp→VK→Prop} (h:SlR X r) (h':SlR X r'):SlR X (fun x lo hi H Q=>r x lo hi H Q∨r' x lo hi H Q):=by
 intro pins s σ H x v vl vu lo hi sl Q I rx hs pl pu q
 rcases q with q | q
 ·exact h pins s σ H x v vl vu lo hi sl Q I rx hs pl pu q
 ·exact h' pins s σ H x v vl vu lo hi sl Q I rx hs pl pu q
def tSl (r:V→Option Int→Option Int→Hp→VK→Prop) (te:TE) (tl th:TO):TE:=fun σ H Q=>te σ H fun x H1=>tl σ H1 fun l H2=>th σ H2 fun u H3=>r x l u H3 Q
theorem pe_slice {r:V→Option Int→Option Int→Hp→VK→Prop} (hr:SlR X r) (he:PE X e te) (hl:PO X lo tl) (hu:PO X hi th):PE X (.Subscript e (.Slice lo hi none p2) pos) (tSl r te tl th):=by
 intro pins s σ H Q I h
 refine Subscript_ (thn (he pins s σ H _ I h) fun v s1 ⟨x,H1,I1,r1,q1⟩=>?_)
 refine wpAny_Slice (thn (hl pins s1 σ H1 _ I1 q1) fun vl s2 ⟨l,H2,I2,pl,q2⟩=>thn (hu pins s2 σ H2 _ I2 q2) fun vu s3 ⟨u,H3,I3,pu,q3⟩=>?_)
 rw [evalPart_none]
 refine wpAny_pure ?_
 have I4:Inv X pins σ H3 { s3 with heap:=s3.heap.push { cls:=.type "slice",data:=.fields #[vl,vu,.none] } }:=I3.kept (t':=s3.toks) fun b ob q=>Heap.get?_push_of_some _ q
 obtain ⟨T,id,hT,ht,hg⟩:=hr pins { s3 with heap:=s3.heap.push { cls:=.type "slice",data:=.fields #[vl,vu,.none] } } σ H3 x v vl vu l u s3.heap.objs.size Q I4 r1 (Heap.IsSliceOf.new ..) pl pu q3
 show wpAny (model X.prog X.w) X.A (subscriptTail e (.Slice lo hi none p2) v (.ref s3.heap.objs.size)) (EP X pins σ Q) X.xe { s3 with heap:=s3.heap.push { cls:=.type "slice",data:=.fields #[vl,vu,.none] } }
 exact tail_any (ops:=[.ref s3.heap.objs.size,v]) ht hT hg (by with_unfolding_all rfl)
def cutV (xs:List V) (lo hi:Option Int):List V:=(xs.drop (HT.sIx xs.length 0 lo)).take (HT.sIx xs.length xs.length hi - HT.sIx xs.length 0 lo)
theorem cutV_length (xs:List V) (lo hi:Option Int):(cutV xs lo hi).length≤xs.length:=by
 unfold cutV
 rw [List.length_take,List.length_drop]
 lia
def rSlT (K:PySem.W.Frag):V→Option Int→Option Int→Hp→VK→Prop:=fun x lo hi H Q=>∃ a xs,x=.ref a∧SqT K H a xs ∧
 ¬ (HT.sIx xs.length 0 lo=0∧HT.sIx xs.length xs.length hi=xs.length)∧∀ p,H p=none→Q (.ref p) (upd H p (.tup (cutV xs lo hi)))
theorem sl_tup:SlR X (rSlT X.K):=by
 intro pins s σ H x v vl vu lo hi sl Q I rx hs pl pu h
 obtain ⟨a,xs,rfl,hx,hw,q⟩:=h
 cases rx
 obtain ⟨its,r,ht,hz⟩:=I.tuple hx
 have hlen:its.toArray.size=xs.length:=by rw [List.size_toArray]; exact r.length.symm
 refine ⟨"tuple",_,PyProof.Rows.slot_tuple_getitem.lookup,ht.typeIs,?_⟩
 refine HT.getItem_tuple_cut ht hs pl pu (by rw [hlen]; exact hw) ?_ (by rw [hlen]; exact hz)
 rw [hlen]
 refine ⟨.ref s.heap.objs.size,_,I.laid (t':=s.toks) (o:=.tup (cutV xs lo hi)) (fun b ob q=>Heap.get?_push_of_some _ q) (Nat.le_refl _) ?_,rfl,q _ (I.hok.fresh (Nat.le_refl _))⟩
 exact ⟨Nat.le_trans (cutV_length xs lo hi) hz,_,(r.drop (HT.sIx xs.length 0 lo)).take (HT.sIx xs.length xs.length hi - HT.sIx xs.length 0 lo),IsTup.new _ _⟩
def rCatT (K:PySem.W.Frag):R2:=fun x y H Q=>∃ a b xs ys,x=.ref a∧y=.ref b∧SqT K H a xs∧SqT K H b ys∧xs≠[]∧xs.length+ys.length≤sizeLine ∧
 (ys=[]→Q (.ref a) H)∧(ys≠[]→∀ p,H p=none→Q (.ref p) (upd H p (.tup (xs++ys))))
theorem Vals.nil_iff {xs:List V} {us:List Value} (r:Vals xs us):us=[]↔xs=[]:=by
 cases r with
 | nil=>simp
 | cons _ _=>simp
theorem op_catT:OpR X (binaryOp .Add) (rCatT X.K):=by
 intro pins s σ H x y v u Q I rx ry h
 obtain ⟨a,b,xs,ys,rfl,rfl,ha,hb,hx,hz,q1,q2⟩:=h
 cases rx
 cases ry
 obtain ⟨its,r1,p1,_⟩:=I.tuple ha
 obtain ⟨its2,r2,p2,_⟩:=I.tuple hb
 refine HT.cat_tup p1 p2 (fun z=>hx (r1.nil_iff.mp z)) (fun z=>⟨.ref a,H,I,rfl,q1 (r2.nil_iff.mp z)⟩) (fun z=>?_) (by rw [← r1.length,← r2.length]; exact hz)
 refine ⟨.ref s.heap.objs.size,_,I.laid (t':=s.toks) (o:=.tup (xs++ys)) (fun b ob q=>Heap.get?_push_of_some _ q) (Nat.le_refl _) ?_,rfl,q2 (fun w=>z (r2.nil_iff.mpr w)) _ (I.hok.fresh (Nat.le_refl _))⟩
 exact ⟨by rw [List.length_append]; exact hz,_,r1.append r2,IsTup.new _ _⟩
end
end L2
namespace L2
open PySem PySem.Spec PyProof.Rows
def ixN (n:Nat) (i:Int):Option Nat:=if 0≤i then (if i < n then some i.toNat else none) else if -(n:Int)≤i then some (i+n).toNat else none
def atI {α:Type} (xs:List α) (i:Int):Option α:=(ixN xs.length i).bind fun j=>xs[j]?
theorem ixN_seq {n:Nat} {i:Int} {j:Nat} (h:ixN n i=some j):seqIndex? i n=some j∧j < n∧-(n:Int)≤i∧i < n:=by
 unfold ixN at h
 by_cases h0:0≤i
 ·rw [if_pos h0] at h
  by_cases h1:i < n
  ·rw [if_pos h1] at h
   have e:i.toNat=j:=Option.some.inj h
   exact ⟨by rw [seqIndex_of h0 h1,e],by lia,by lia,h1⟩
  ·rw [if_neg h1] at h; cases h
 ·rw [if_neg h0] at h
  by_cases h1:-(n:Int)≤i
  ·rw [if_pos h1] at h
   have e:(i+n).toNat=j:=Option.some.inj h
   exact ⟨by rw [seqIndex_neg (by lia) h1,e],by lia,h1,by lia⟩
  ·rw [if_neg h1] at h; cases h
theorem atI_get {α:Type} {xs:List α} {i:Int} {v:α} (h:atI xs i=some v):∃ j,seqIndex? i xs.length=some j∧xs[j]?=some v∧j < xs.length∧-(xs.length:Int)≤i∧i < xs.length:=by
 unfold atI at h
 cases e:ixN xs.length i with
 | none=>rw [e] at h; cases h
 | some j =>
  rw [e] at h
  obtain ⟨h1,h2,h3,h4⟩:=ixN_seq e
  exact ⟨j,h1,h,h2,h3,h4⟩
theorem atI_nat {α:Type} {xs:List α} {j:Nat} {v:α} (h:xs[j]?=some v):atI xs (j:Int)=some v:=by
 have hj:j < xs.length:=(List.getElem?_eq_some_iff.mp h).1
 have e:ixN xs.length (j:Int)=some j:=by
  unfold ixN
  rw [if_pos (by lia),if_pos (by lia)]; simp
 unfold atI; rw [e]; exact h
def PlainIx (b:Expr):Prop:=∀ o i,subscripted b false o i=operate [o,i] (getItem o i)
def IxR (X:Cx) (r:R2):Prop :=
 ∀ (value slice:Expr) (pins:List (Addr × Obj)) (s:Shared) (σ:St) (H:Hp) (x y:V) (v u:Value) (Q:VK),Inv X pins σ H s→RelV x v→RelV y u→r x y H Q →
  subscripted slice false v u=operate [v,u] (getItem v u)→wpAny (model X.prog X.w) X.A (subscriptTail value slice v u) (EP X pins σ Q) X.xe s
def MtR (X:Cx) (id:String) (r:V→List V→Hp→VK→Prop):Prop :=
 ∀ (pins:List (Addr × Obj)) (s:Shared) (σ:St) (H:Hp) (x:V) (xs:List V) (v:Value) (us:List Value) (Q:VK),Inv X pins σ H s→RelV x v→Vals xs us→r x xs H Q →
  wpAny (model X.prog X.w) X.A (call (.builtin id) (v :: us)) (EP X pins σ Q) X.xe s
section
variable {X:Cx} {a b:Expr} {ta tb:TE} {pos:Pos}
theorem IxR.or {r r':R2} (h:IxR X r) (h':IxR X r'):IxR X (fun x y H Q=>r x y H Q∨r' x y H Q):=by
 intro value slice pins s σ H x y v u Q I rx ry q hs
 rcases q with q | q
 ·exact h value slice pins s σ H x y v u Q I rx ry q hs
 ·exact h' value slice pins s σ H x y v u Q I rx ry q hs
theorem MtR.or {id:String} {r r':V→List V→Hp→VK→Prop} (h:MtR X id r) (h':MtR X id r'):MtR X id (fun x xs H Q=>r x xs H Q∨r' x xs H Q):=by
 intro pins s σ H x xs v us Q I rx rs q
 rcases q with q | q
 ·exact h pins s σ H x xs v us Q I rx rs q
 ·exact h' pins s σ H x xs v us Q I rx rs q
theorem pe_ix {r:R2} (hr:IxR X r) (ha:PE X a ta) (hb:PE X b tb) (hs:PlainIx b):PE X (.Subscript a b pos) (tOp r ta tb):=by
 intro pins s σ H Q I h
 exact Subscript_ (binT ha hb I h fun v u s2 x y H2 I2 rx ry q=>hr a b pins s2 σ H2 x y v u Q I2 rx ry q (hs _ _))
def rIxL (K:PySem.W.Frag):R2:=fun x y H Q=>∃ p xs i v,x=.ref p∧y=.int i∧SqL K H p xs∧atI xs i=some v∧Q v H
def rIxT (K:PySem.W.Frag):R2:=fun x y H Q=>∃ p xs i v,x=.ref p∧y=.int i∧SqT K H p xs∧atI xs i=some v∧Q v H
def rIxS:R2:=fun x y H Q=>∃ z i c,x=.str z∧y=.int i∧z.length≤sizeLine∧atI z.cps.toList i=some c∧Q (.str ⟨#[c]⟩) H
theorem ix_list:IxR X (rIxL X.K):=by
 intro value slice pins s σ H x y v u Q I rx ry h hs
 obtain ⟨p,xs,i,z,rfl,rfl,hq,he,q⟩:=h
 cases rx
 obtain ⟨t,rfl⟩:=ry
 obtain ⟨its,r,pl,hz⟩:=I.list hq
 obtain ⟨j,h1,h2,h3,h4,h5⟩:=atI_get he
 obtain ⟨w,ew,rw'⟩:=r.get h2
 have hl:=r.length
 have hn:=line63
 have fin:EP X pins σ Q w s:=⟨z,H,I,rw',q⟩
 by_cases h0:0≤i
 ·have hj:i.toNat=j:=by
   rw [seqIndex_of h0 h5] at h1
   exact Option.some.inj h1
  exact item_listR pl.isList h0 (by lia) (by rw [hj]; simpa using ew) fin hs
 ·have hj:(i+(its.toArray.size:Int)).toNat=j:=by
   rw [seqIndex_neg (by lia) h4] at h1
   rw [List.size_toArray,← hl]
   exact Option.some.inj h1
  exact subscriptTail_builtinR (x:=w) pl.isList.typeIs slot_list_getitem.lookup
   (wpAny_getItem_list_neg (Q:=fun r s'=>r=w∧EP X pins σ Q r s') pl.isList (by lia) (by rw [List.size_toArray] <;> lia) (by lia) (by rw [hj]; simpa using ew) ⟨rfl,fin⟩) hs
theorem ix_tup:IxR X (rIxT X.K):=by
 intro value slice pins s σ H x y v u Q I rx ry h hs
 obtain ⟨p,xs,i,z,rfl,rfl,hq,he,q⟩:=h
 cases rx
 obtain ⟨t,rfl⟩:=ry
 obtain ⟨its,r,pl,hz⟩:=I.tuple hq
 obtain ⟨j,h1,h2,h3,h4,h5⟩:=atI_get he
 obtain ⟨w,ew,rw'⟩:=r.get h2
 have hl:=r.length
 have hn:=line63
 have fin:EP X pins σ Q w s:=⟨z,H,I,rw',q⟩
 exact subscriptTail_builtinR (x:=w) pl.typeIs slot_tuple_getitem.lookup
  (getItem_tuple (j:=j) (Q:=fun r s'=>r=w∧EP X pins σ Q r s') pl (by lia) (by lia) (by rw [List.size_toArray,← hl]; exact h1) (by simpa using ew) ⟨rfl,fin⟩) hs
theorem ix_str:IxR X rIxS:=by
 intro value slice pins s σ H x y v u Q I rx ry h hs
 obtain ⟨z,i,c,rfl,rfl,hz,he,q⟩:=h
 obtain ⟨t,rfl⟩:=rx
 obtain ⟨t',rfl⟩:=ry
 obtain ⟨j,h1,h2,h3,h4,h5⟩:=atI_get he
 have hl:z.cps.toList.length=z.length:=by simp [Str.length]
 rw [hl] at h1 h4 h5
 have hn:=line63
 exact tail_any (typeIs_str s z t) slot_str_getitem.lookup (getItem_str (c:=c) (by
  have e1:decide (i < -(2 ^ 63:Int))=false:=decide_eq_false (by lia)
  have e2:decide (i ≥ 2 ^ 63)=false:=decide_eq_false (by lia)
  rw [e1,e2,Bool.or_false]) (by rw [h1]; simpa using h2) ⟨.str ⟨#[c]⟩,H,I.tok _,⟨_,rfl⟩,q⟩) hs
theorem slice_bounds (lo hi:Option Int) (n:Nat):(sliceBounds lo hi none n).1=((HT.sIx n 0 lo:Nat):Int)∧(sliceBounds lo hi none n).2.1=((HT.sIx n n hi:Nat):Int)∧(sliceBounds lo hi none n).2.2=1:=by
 refine ⟨?_,?_,rfl⟩
 ·cases lo with
  | none=>simp [sliceBounds,HT.sIx]
  | some i =>
   simp only [sliceBounds,HT.sIx,Option.getD_none,show (1:Int) > 0 by decide,if_true]
   by_cases h:i < 0
   ·simp only [h,if_true] <;> lia
   ·simp only [h,if_false] <;> lia
 ·cases hi with
  | none=>simp [sliceBounds,HT.sIx]
  | some i =>
   simp only [sliceBounds,HT.sIx,Option.getD_none,show (1:Int) > 0 by decide,if_true]
   by_cases h:i < 0
   ·simp only [h,if_true] <;> lia
   ·simp only [h,if_false] <;> lia
theorem slicePick_cut (its:List Value) (lo hi:Option Int):slicePick its.toArray lo hi none=((its.drop (HT.sIx its.length 0 lo)).take (HT.sIx its.length its.length hi - HT.sIx its.length 0 lo)).toArray:=by
 obtain ⟨h1,h2,h3⟩:=slice_bounds lo hi its.toArray.size
 unfold slicePick
 rw [h1,h2,h3]
 simp only [sliceRange_one,pick_run,List.size_toArray] <;> rfl
def rSlL (K:PySem.W.Frag):V→Option Int→Option Int→Hp→VK→Prop:=fun x lo hi H Q=>∃ a xs,x=.ref a∧SqL K H a xs∧∀ p,H p=none→Q (.ref p) (upd H p (.lst (cutV xs lo hi)))
theorem sl_list:SlR X (rSlL X.K):=by
 intro pins s σ H x v vl vu lo hi sl Q I rx hs pl pu h
 obtain ⟨a,xs,rfl,hx,q⟩:=h
 cases rx
 obtain ⟨its,r,ht,hz⟩:=I.list hx
 have hlen:=r.length
 refine ⟨"list",_,slot_list_getitem.lookup,ht.isList.typeIs,?_⟩
 refine wpAny_getItem_list_slice ht.isList hs pl pu .none (by simp) ?_ (by rw [List.size_toArray] <;> lia)
 rw [slicePick_cut,← hlen]
 refine ⟨.ref s.heap.objs.size,_,I.laid (t':=s.toks) (o:=.lst (cutV xs lo hi)) (fun b ob q=>Heap.get?_push_of_some _ q) (Nat.le_refl _) ?_,rfl,q _ (I.hok.fresh (Nat.le_refl _))⟩
 exact ⟨Nat.le_trans (cutV_length xs lo hi) hz,_,0,(r.drop (HT.sIx xs.length 0 lo)).take (HT.sIx xs.length xs.length hi - HT.sIx xs.length 0 lo),Heap.get?_push_size _ rfl⟩
def flatV:V→Bool
 | .non=>true
 | .bl _=>true
 | .int _=>true
 | .str _=>true
 | _=>false
def eqV:V→V→Bool
 | .non,.non=>true
 | .bl a,.bl b=>a == b
 | .bl a,.int b=>(if a then 1 else 0) == b
 | .int a,.bl b=>a == (if b then 1 else 0)
 | .int a,.int b=>a == b
 | .str a,.str b=>a == b
 | _,_=>false
theorem eqAt_V {A:Around} {s:Shared} {y x:V} {u v:Value} (ry:RelV y u) (rx:RelV x v) (fy:flatV y=true) (fx:flatV x=true):SeqAt.EqAt A s u v (eqV y x):=by
 cases y with
 | non =>
  cases ry
  cases x with
  | non=>cases rx; exact SeqAt.EqAt.same _
  | bl b=>cases rx; exact SeqAt.EqAt.none_bool b
  | int b=>obtain ⟨t,rfl⟩:=rx; exact SeqAt.EqAt.none_int b t
  | str b=>obtain ⟨t,rfl⟩:=rx; exact SeqAt.EqAt.none_str b t
  | _=>exact absurd (show false=true from fx) Bool.false_ne_true
 | bl a =>
  cases ry
  cases x with
  | non=>cases rx; exact SeqAt.EqAt.bool_none a
  | bl b=>cases rx; exact SeqAt.EqAt.bool_bool a b
  | int b=>obtain ⟨t,rfl⟩:=rx; exact SeqAt.EqAt.bool_int a b t
  | str b=>obtain ⟨t,rfl⟩:=rx; exact SeqAt.EqAt.bool_str a b t
  | _=>exact absurd (show false=true from fx) Bool.false_ne_true
 | int a =>
  obtain ⟨t',rfl⟩:=ry
  cases x with
  | non=>cases rx; exact SeqAt.EqAt.int_none a t'
  | bl b=>cases rx; exact SeqAt.EqAt.int_bool a t' b
  | int b=>obtain ⟨t,rfl⟩:=rx; exact SeqAt.EqAt.int_int a t' b t
  | str b=>obtain ⟨t,rfl⟩:=rx; exact SeqAt.EqAt.int_str a t' b t
  | _=>exact absurd (show false=true from fx) Bool.false_ne_true
 | str a =>
  obtain ⟨t',rfl⟩:=ry
  cases x with
  | non=>cases rx; exact SeqAt.EqAt.str_none a t'
  | bl b=>cases rx; exact SeqAt.EqAt.str_bool a t' b
  | int b=>obtain ⟨t,rfl⟩:=rx; exact SeqAt.EqAt.str_int a t' b t
  | str b=>obtain ⟨t,rfl⟩:=rx; exact SeqAt.EqAt.str_str a t' b t
  | _=>exact absurd (show false=true from fx) Bool.false_ne_true
 | _=>exact absurd (show false=true from fy) Bool.false_ne_true
def eqU (x:V) (u:Value):Bool:=match u with
 | .none=>eqV .non x
 | .bool b=>eqV (.bl b) x
 | .int i _=>eqV (.int i) x
 | .str z _=>eqV (.str z) x
 | _=>false
theorem eqU_of {x y:V} {u:Value} (r:RelV y u) (f:flatV y=true):eqU x u=eqV y x:=by
 cases y with
 | non=>cases r; rfl
 | bl b=>cases r; rfl
 | int i=>obtain ⟨t,rfl⟩:=r; rfl
 | str z=>obtain ⟨t,rfl⟩:=r; rfl
 | _=>exact absurd (show false=true from f) Bool.false_ne_true
theorem any_eqU {x:V}:∀ {xs:List V} {us:List Value},Vals xs us→xs.all flatV=true→us.any (eqU x)=xs.any fun y=>eqV y x
 | _,_,.nil,_=>rfl
 | y :: xs,u :: us,.cons r t,f=>by
  rw [List.all_cons,Bool.and_eq_true] at f
  rw [List.any_cons,List.any_cons,eqU_of r f.1,any_eqU t f.2]
theorem mem_eqAt {A:Around} {s:Shared} {x:V} {v:Value} (rx:RelV x v) (fx:flatV x=true):∀ {xs:List V} {us:List Value},Vals xs us→xs.all flatV=true→∀ u∈us,SeqAt.EqAt A s u v (eqU x u)
 | _,_,.nil,_=>fun u hu=>by cases hu
 | y :: xs,u :: us,.cons r t,f=>fun u' hu=>by
  rw [List.all_cons,Bool.and_eq_true] at f
  rcases List.mem_cons.mp hu with rfl | hu
  ·rw [eqU_of r f.1]; exact eqAt_V r rx f.1 fx
  ·exact mem_eqAt rx fx t f.2 u' hu
def inV (x:V) (xs:List V):Bool:=xs.any fun y=>eqV y x
def rIn (K:PySem.W.Frag) (neg:Bool):R2:=fun x y H Q=>∃ p xs,y=.ref p∧(SqL K H p xs∨SqT K H p xs)∧flatV x=true∧xs.all flatV=true∧Q (.bl (if neg then !inV x xs else inV x xs)) H
theorem op_in_seq:OpR X (compareOp .In) (rIn X.K false):=by
 intro pins s σ H x y v u Q I rx ry h
 obtain ⟨p,xs,rfl,hq,fx,fs,q⟩:=h
 cases ry
 rcases hq with hq | hq
 ·obtain ⟨its,r,pl,hz⟩:=I.list hq
  refine SeqAt.in_listAt (eqU x) pl.isList (fun w hw=>mem_eqAt rx fx r fs w (by simpa using hw)) ⟨.bl _,H,I,rfl,?_⟩
  rw [show its.toArray.any (eqU x)=its.any (eqU x) by simp,any_eqU r fs]
  exact q
 ·obtain ⟨its,r,pl,hz⟩:=I.tuple hq
  refine SeqAt.in_tupleAt (eqU x) pl (fun w hw=>mem_eqAt rx fx r fs w (by simpa using hw)) ⟨.bl _,H,I,rfl,?_⟩
  rw [show its.toArray.any (eqU x)=its.any (eqU x) by simp,any_eqU r fs]
  exact q
theorem call_len_seq:CallR X (.builtin "len") (fun xs H Q=>∃ p ys,xs=[.ref p]∧(SqL X.K H p ys∨SqT X.K H p ys)∧Q (.int ys.length) H):=by
 intro pins s σ H xs us Q I r h
 obtain ⟨p,ys,rfl,hq,q⟩:=h
 obtain ⟨u,rfl,rx⟩:=vals1 r
 cases rx
 have hn:=line63
 rcases hq with hq | hq
 ·obtain ⟨its,r',pl,hz⟩:=I.list hq
  have hlen:=r'.length
  exact Calls.call_len_list pl.isList (by simp only [List.size_toArray] <;> lia) ⟨.int ys.length,H,I.tok _,⟨s.toks+1,by rw [List.size_toArray,hlen]⟩,q⟩
 ·obtain ⟨its,r',pl,hz⟩:=I.tuple hq
  have hlen:=r'.length
  exact len_tuple pl (by simp only [List.size_toArray] <;> lia) ⟨.int ys.length,H,I.tok _,⟨s.toks+1,by rw [List.size_toArray,hlen]⟩,q⟩
theorem call_len_str:CallR X (.builtin "len") (fun xs H Q=>∃ z,xs=[.str z]∧z.length≤sizeLine∧Q (.int z.length) H):=by
 intro pins s σ H xs us Q I r h
 obtain ⟨z,rfl,hz,q⟩:=h
 obtain ⟨u,rfl,t,rfl⟩:=vals1 r
 have hn:=line63
 exact len_str (by lia) ⟨.int z.length,H,I.tok _,⟨_,rfl⟩,q⟩
theorem CallR.or {f:Value} {r r':List V→Hp→VK→Prop} (h:CallR X f r) (h':CallR X f r'):CallR X f (fun xs H Q=>r xs H Q∨r' xs H Q):=by
 intro pins s σ H xs us Q I rs q
 rcases q with q | q
 ·exact h pins s σ H xs us Q I rs q
 ·exact h' pins s σ H xs us Q I rs q
theorem call_list_of:CallR X (.type "list") (fun xs H Q=>∃ p ys,xs=[.ref p]∧(SqL X.K H p ys∨SqT X.K H p ys)∧∀ l,H l=none→Q (.ref l) (upd H l (.lst ys))):=by
 intro pins s σ H xs us Q I r h
 obtain ⟨p,ys,rfl,hq,q⟩:=h
 obtain ⟨u,rfl,rx⟩:=vals1 r
 cases rx
 have fin:∀ (its:List Value),Vals ys its→ys.length≤sizeLine→∀ (h':Heap) (c':Nat),(∀ b o',s.heap.get? b=some o'→h'.get? b=some o') →
   h'.get? s.heap.objs.size=some { cls:=.type "list",dict:=none,data:=.seq its.toArray c',slots:=#[] }→EP X pins σ Q (.ref s.heap.objs.size) { s with heap:=h' }:=fun its r' hz h' c' kp e =>
  ⟨.ref s.heap.objs.size,_,I.laid (t':=s.toks) kp (Nat.le_refl _) (show ObjOk X.prog X.w _ h' _ (.lst ys) from ⟨hz,its,c',r',e⟩),rfl,q _ (I.hok.fresh (Nat.le_refl _))⟩
 rcases hq with hq | hq
 ·obtain ⟨its,r',pl,hz⟩:=I.list hq
  have hlen:=r'.length
  obtain ⟨o,ho,hc,n,hd⟩:=pl.isList
  exact call_list_seq p (.inl rfl) ho hc hd (fun h' c' kp e=>fin its r' hz h' c' kp e) (by simp only [List.size_toArray] <;> lia)
 ·obtain ⟨its,r',pl,hz⟩:=I.tuple hq
  have hlen:=r'.length
  obtain ⟨o,ho,hc,n,hd⟩:=pl
  exact call_list_seq p (.inr rfl) ho hc hd (fun h' c' kp e=>fin its r' hz h' c' kp e) (by simp only [List.size_toArray] <;> lia)
def tyV (K:PySem.W.Frag) (T:String) (x:V) (H:Hp):Prop:=match x with
 | .str _=>T="str"
 | .int _=>T="int"
 | .ref p=>(T="list" ∧ ∃ xs,SqL K H p xs)∨(T="tuple" ∧ ∃ o,K.lookup p=some o∧o.cls=.type "tuple" ∧ o.dict=none) ∨
   (T="dict" ∧ ((∃ kvs,H p=some (.dK kvs))∨∃ kvs,H p=some (.dT kvs)))∨(T="set" ∧ ∃ S n,H p=some (.set S n))
 | _=>False
theorem tyV_is {pins:List (Addr × Obj)} {σ:St} {H:Hp} {s:Shared} {T:String} {x:V} {v:Value} (I:Inv X pins σ H s) (r:RelV x v) (ty:tyV X.K T x H) :
  s.TypeIs v T∧∀ a,v=.ref a→∃ ob,s.heap.get? a=some ob∧ob.dict=none:=by
 cases x with
 | str z =>
  obtain ⟨t,rfl⟩:=r
  cases (show T="str" from ty)
  exact ⟨typeIs_str s z t,fun _ e=>nomatch e⟩
 | int i =>
  obtain ⟨t,rfl⟩:=r
  cases (show T="int" from ty)
  exact ⟨typeIs_int s i t,fun _ e=>nomatch e⟩
 | ref p =>
  cases r
  rcases ty with ⟨rfl,xs,hq⟩ | ⟨rfl,o,hk,hc,hd⟩ | ⟨rfl,hk⟩ | ⟨rfl,S,n,hk⟩
  ·obtain ⟨its,_,pl,_⟩:=I.list hq
   refine ⟨pl.isList.typeIs,fun a e=>?_⟩
   cases e
   obtain ⟨o,n,e,c,hd,_⟩:=pl
   exact ⟨o,e,hd⟩
  ·refine ⟨⟨o,I.kIn p o hk,hc⟩,fun a e=>?_⟩
   cases e
   exact ⟨o,I.kIn _ o hk,hd⟩
  ·have z:∃ o,s.heap.get? p=some o∧o.ExactDict:=by
    rcases hk with ⟨kvs,hk⟩ | ⟨kvs,hk⟩
    ·obtain ⟨_,_,_,_,o,_,_,e,ex,_⟩:=I.hok p _ hk
     exact ⟨o,e,ex⟩
    ·obtain ⟨_,_,_,_,o,_,_,e,ex,_⟩:=I.hok p _ hk
     exact ⟨o,e,ex⟩
   obtain ⟨o,e,ex⟩:=z
   refine ⟨⟨o,e,ex.1⟩,fun a e2=>?_⟩
   cases e2
   exact ⟨o,e,ex.2.1⟩
  ·obtain ⟨o,_,_,_,e,ex,_⟩:=I.hok p _ hk
   refine ⟨⟨o,e,ex.1⟩,fun a e2=>?_⟩
   cases e2
   exact ⟨o,e,ex.2.1⟩
 | _=>exact False.elim ty
def tBM (K:PySem.W.Frag) (T:String) (r:V→List V→Hp→VK→Prop) (to:TE) (t:TA):TE:=fun σ H Q=>to σ H fun x H1=>tyV K T x H1∧t σ H1 fun xs H2=>r x xs H2 Q
variable {o e:Expr} {es:List Expr} {to:TE} {t:TA} {name:Str} {apos cpos:Pos} {T id:String} {r:V→List V→Hp→VK→Prop}
theorem pe_bm (pa:PlainAttrs T) (slot:Slot T name id) (hty:typeOf (.builtin id)=pure (.type "method_descriptor")) (hm:MtR X id r) (ho:PE X o to) (ha:PA X (e :: es) t)
  (hbase:attributeBase o name X.env (eval o X.env)=eval o X.env:=by rfl)
  (hfew:((backTo cpos (starEach (e :: es) X.env)).all (fun x=>!x.1) && (backToKw cpos (keywordEach [] X.env)).all (fun x=>x.1.isSome)
   && decide ((e :: es).length+([]:List Keyword).length+(if ([]:List Keyword).isEmpty then 0 else 1) < 30))=true:=by rfl)
  (hline:(apos.endLine == cpos.line)=true:=by rfl) (hs:starEach (e :: es) X.env=(false,eval e X.env) :: starEach es X.env:=by rfl) (hplain:(backTo cpos (starEach es X.env)).any (·.1)=false:=by rfl) :
  PE X (.Call (.Attribute o name apos) (e :: es) [] cpos) (tBM X.K T r to t):=by
 intro pins s σ H Q I h
 refine wpAny_Call_method_late hbase hfew hline rfl (thn (ho pins s σ H _ I h) fun v s1 ⟨x,H1,I1,r1,ty,q1⟩=>?_)
 obtain ⟨h1,h2⟩:=tyV_is I1 r1 ty
 refine ⟨T,id,pa,slot,hty,h1,h2,?_⟩
 have hA:=ha cpos pins s1 σ H1 _ I1 q1
 rw [hs] at hA ⊢
 refine Calls.callWith_builtin (by show (false || (backTo cpos (starEach es X.env)).any (·.1))=false; rw [hplain] <;> rfl) (Calls.evalArgs_plain ?_)
 exact thn hA fun us s2 ⟨vs,H2,I2,r2,q2⟩=>hm pins s2 σ H2 x vs v us Q I2 r1 r2 q2
end
end L2
namespace L2
open PySem PySem.Spec PyProof.Rows
def MtM (X:Cx) (id:String) (r:V→List V→Hp→VK→Prop):Prop :=
 ∀ (pins:List (Addr × Obj)) (s:Shared) (σ:St) (H:Hp) (x:V) (xs:List V) (v:Value) (us:List Value) (Q:VK),Inv X pins σ H s→RelV x v→Vals xs us→r x xs H Q →
  wpAny (model X.prog X.w) X.A (call (.builtin id) (v :: us)) (EP X pins σ Q) X.xe s
theorem Vals.one:∀ {x:V} {us:List Value},Vals [x] us→∃ u,us=[u]∧RelV x u
 | _,_,.cons r .nil=>⟨_,rfl,r⟩
theorem Vals.eraseIdx:∀ {xs:List V} {us:List Value} (i:Nat),Vals xs us→Vals (xs.eraseIdx i) (us.eraseIdx i)
 | _,_,_,.nil=>.nil
 | _,_,0,.cons _ t=>t
 | _,_,i+1,.cons r t=>.cons r (Vals.eraseIdx i t)
theorem Vals.rep {xs:List V} {us:List Value} (h:Vals xs us):∀ k:Nat,Vals (List.replicate k xs).flatten (List.replicate k us).flatten
 | 0=>.nil
 | k+1=>by
  rw [List.replicate_succ,List.replicate_succ,List.flatten_cons,List.flatten_cons]
  exact Vals.append h (Vals.rep h k)
theorem len_erase {α:Type}:∀ (l:List α) (i:Nat),(l.eraseIdx i).length≤l.length
 | [],_=>Nat.le_refl _
 | _ :: _,0=>Nat.le_succ _
 | _ :: r,i+1=>Nat.succ_le_succ (len_erase r i)
theorem foldl_rep (its:List Value):∀ (k:Nat) (acc:List Value),
  List.foldl (fun x1 x2=>x1++x2) acc.toArray (List.replicate k its.toArray)=(acc++(List.replicate k its).flatten).toArray
 | 0,acc=>by simp
 | k+1,acc=>by
  have e:acc.toArray++its.toArray=(acc++its).toArray:=by simp
  have e2:(acc++its)++(List.replicate k its).flatten=acc++(List.replicate (k+1) its).flatten:=by
   rw [List.replicate_succ,List.flatten_cons,List.append_assoc]
  rw [← e2,← foldl_rep its k (acc++its),← e,List.replicate_succ,List.foldl_cons]
section
variable {X:Cx} {pins:List (Addr × Obj)} {σ:St} {H:Hp} {s:Shared} {l b:Addr} {xs ys zs:List V}
theorem Inv.lset {its its':List Value} {n:Nat} {f:Array Value→Array Value} {t':Nat} (I:Inv X pins σ H s) (hH:H l=some (.lst xs))
  (e:s.heap.get? l=some { cls:=.type "list",data:=.seq its.toArray n }) (hf:f its.toArray=its'.toArray) (hv:Vals ys its') (hz:ys.length≤sizeLine) :
  Inv X pins σ (upd H l (.lst ys)) { s with heap:=s.heap.update l (Obj.mapSeq f),toks:=t' }:=by
 have q:=PySem.IsL.update e f
 rw [hf] at q
 refine I.write (x:=l) (e:=l) (by rw [hH]; exact trivial) (.inl rfl) (fun b' u hb hu=>(Heap.get?_update_other s.heap (Obj.mapSeq f) (Ne.symm hb)).trans hu) ⟨_,q⟩ ?_
 exact ⟨hz,its',_,hv,q⟩
theorem Inv.lnew {its:List Value} {t':Nat} (I:Inv X pins σ H s) (hv:Vals ys its) (hz:ys.length≤sizeLine) :
  Inv X pins σ (upd H s.heap.objs.size (.lst ys)) { s with heap:=s.heap.push { cls:=.type "list",data:=.seq its.toArray },toks:=t' } :=
 I.laid (fun _ _ q=>Heap.get?_push_of_some _ q) (Nat.le_refl _) ⟨hz,its,0,hv,Heap.get?_push_size _ rfl⟩
theorem Inv.fresh (I:Inv X pins σ H s):H s.heap.objs.size=none:=I.hok.fresh (Nat.le_refl _)
theorem Inv.lstM (I:Inv X pins σ H s) (hH:H l=some (.lst xs)):xs.length≤sizeLine∧∃ (its:List Value) (n:Nat),Vals xs its∧xs.length=its.length∧s.heap.get? l=some { cls:=.type "list",data:=.seq its.toArray n }:=by
 obtain ⟨z,its,n,r,e⟩:=I.hok l _ hH
 exact ⟨z,its,n,r,r.length,e⟩
theorem notLongL {n:Nat} (h:n≤sizeLine):Builtin.List.listTooLong n=false:=by
 unfold Builtin.List.listTooLong
 exact decide_eq_false (by lia)
end
section
variable {X:Cx}
def rAppend:V→List V→Hp→VK→Prop:=fun x vs H Q=>∃ l xs y,x=.ref l∧vs=[y]∧H l=some (.lst xs)∧xs.length < sizeLine∧Q .non (upd H l (.lst (xs++[y])))
theorem mt_append:MtM X "list.append" rAppend:=by
 intro pins s σ H x vs v us Q I rx rv h
 obtain ⟨l,xs,y,rfl,rfl,hH,hz,q⟩:=h
 cases rx
 obtain ⟨u,rfl,ru⟩:=rv.one
 obtain ⟨z,its,n,r,hl,e⟩:=I.lstM hH
 refine call_meets F.slot_list_append ⟨_,e,rfl⟩ F.entry_list_append (F.args_list_append_2 _ _) (PySem.list_append l its.toArray n u (by rw [List.size_toArray]; lia)) ⟨e,?_⟩
 refine ⟨.non,_,I.lset (its':=its++[u]) hH e (by simp) (r.append (.cons ru .nil)) ?_,rfl,q⟩
 rw [List.length_append,List.length_singleton]
 lia
def rPopAt:V→List V→Hp→VK→Prop:=fun x vs H Q=>∃ l xs i k y,x=.ref l∧vs=[.int i]∧H l=some (.lst xs)∧-(2 ^ 63)≤i∧i < 2 ^ 63∧seqIndex? i xs.length=some k∧xs[k]?=some y∧Q y (upd H l (.lst (xs.eraseIdx k)))
theorem mt_popAt:MtM X "list.pop" rPopAt:=by
 intro pins s σ H x vs v us Q I rx rv h
 obtain ⟨l,xs,i,k,y,rfl,rfl,hH,h1,h2,hk,hy,q⟩:=h
 cases rx
 obtain ⟨u,rfl,ru⟩:=rv.one
 obtain ⟨t,rfl⟩:=ru
 obtain ⟨z,its,n,r,hl,e⟩:=I.lstM hH
 obtain ⟨w,hw,rw'⟩:=r.get hy
 refine call_meets F.slot_list_pop ⟨_,e,rfl⟩ F.entry_list_pop (F.args_list_pop_2 _ _)
  (MeetsSeq.list_pop_at l its.toArray n i t k w (fitsIndex_both h1 h2) (by rw [List.size_toArray,← hl]; exact hk) (by rw [← Array.getElem?_toList]; exact hw) (by rw [List.size_toArray]; lia)) ⟨e,?_⟩
 refine ⟨y,_,I.lset (its':=its.eraseIdx k) hH e ?_ (r.eraseIdx k) ?_,rw',q⟩
 ·show its.toArray.eraseIdxIfInBounds k=(its.eraseIdx k).toArray
  rw [List.eraseIdxIfInBounds_toArray]
 ·have:=len_erase xs k
  lia
def rCat:R2:=fun x y H Q=>∃ l b xs zs,x=.ref l∧y=.ref b∧H l=some (.lst xs)∧H b=some (.lst zs)∧xs.length+zs.length≤sizeLine∧∀ p,H p=none→Q (.ref p) (upd H p (.lst (xs++zs)))
theorem op_cat:OpR X (binaryOp .Add) rCat:=by
 intro pins s σ H x y v u Q I rx ry h
 obtain ⟨l,b,xs,zs,rfl,rfl,hH,hB,hz,q⟩:=h
 cases rx
 cases ry
 obtain ⟨z,its,n,r,hl,e⟩:=I.lstM hH
 obtain ⟨z2,its2,n2,r2,hl2,e2⟩:=I.lstM hB
 refine PySem.P.add_list e e2 ?_ (by rw [List.size_toArray,List.size_toArray]; lia)
 have ea:its.toArray++its2.toArray=(its++its2).toArray:=by simp
 rw [ea]
 exact ⟨.ref _,_,I.lnew (t':=s.toks) (r.append r2) (by rw [List.length_append]; lia),rfl,q _ I.fresh⟩
def rRep:R2:=fun x y H Q=>∃ l k xs,x=.ref l∧y=.int k∧H l=some (.lst xs)∧-(2 ^ 63)≤k∧k < 2 ^ 63∧xs.length * k.toNat≤sizeLine ∧
 ∀ p,H p=none→Q (.ref p) (upd H p (.lst (List.replicate k.toNat xs).flatten))
theorem len_rep {α:Type} (xs:List α) (k:Nat):(List.replicate k xs).flatten.length=k * xs.length:=by
 induction k with
 | zero=>simp
 | succ k ih=>rw [List.replicate_succ,List.flatten_cons,List.length_append,ih,Nat.succ_mul,Nat.add_comm]
theorem op_rep:OpR X (binaryOp .Mult) rRep:=by
 intro pins s σ H x y v u Q I rx ry h
 obtain ⟨l,k,xs,rfl,rfl,hH,h1,h2,hz,q⟩:=h
 cases rx
 obtain ⟨t,rfl⟩:=ry
 obtain ⟨z,its,n,r,hl,e⟩:=I.lstM hH
 have hlen:its.toArray.size * k.toNat≤sizeLine:=by rw [List.size_toArray,← hl]; exact hz
 have hcap:¬ its.toArray.size * k.toNat > (2 ^ 63 - 1) / 8:=by
  have:(sizeLine:Nat)≤(2 ^ 63 - 1) / 8:=by decide
  lia
 have hfit:¬ (!Builtin.List.listFitsIndex k)=true:=by
  rw [fitsIndex_both h1 h2]
  exact Bool.false_ne_true
 have hlong:¬ Builtin.List.listTooLong (its.toArray.size * k.toNat)=true:=by
  rw [notLongL hlen]
  exact Bool.false_ne_true
 have hnew:List.foldl (fun x1 x2=>x1++x2) #[] (List.replicate (if its.toArray.isEmpty=true then 0 else k.toNat) its.toArray)=(List.replicate k.toNat its).flatten.toArray:=by
  have f0:∀ m:Nat,List.foldl (fun x1 x2=>x1++x2) #[] (List.replicate m its.toArray)=(List.replicate m its).flatten.toArray:=fun m=>by
   have:=foldl_rep its m []
   rw [List.nil_append] at this
   exact this
  rw [f0]
  cases its with
  | nil=>simp
  | cons a r'=>rw [if_neg (by simp)]
 refine wpAny_binaryOp_repeat_ref (T:="list") (U:="int") (by decide) ⟨_,e,rfl⟩ (fun s'=>typeIs_int s' k t) noFill_list_mul F.fills_int_mul F.slot_int_rmul repeat_list F.slot_int_index.lookup
  (call_meets F.slot_int_rmul (typeIs_int s k t) F.entry_int_rmul (F.args_int_rmul_2 _ _) (int___rmul___int_list k t l its.toArray n)
   ⟨e,rfl,⟨_,e,rfl⟩,call_meets F.slot_list_mul ⟨_,e,rfl⟩ F.entry_list_mul (F.args_list_mul_2 _ _) (AutoListH.list___mul___list_int_3 l its.toArray n k t hfit hcap hlong) ⟨e,?_⟩⟩)
 rw [hnew]
 exact ⟨.ref _,_,I.lnew (t':=s.toks) (r.rep k.toNat) (by rw [len_rep,Nat.mul_comm]; exact hz),rfl,q _ I.fresh⟩
end
section
variable {prog:Program} {w:World} {A:Around} {E:Value→Shared→Prop} {s:Shared}
end
section
variable {X:Cx}
end
end L2
namespace L2
open PySem PySem.Spec PyProof.Rows
section
variable {κ:Type} [DecidableEq κ]
def valV (kvs:List (κ × V)) (k:κ):Option V:=(kvs.find? fun kv=>decide (kv.1=k)).map (·.2)
def putK (kvs:List (κ × V)) (k:κ) (v:V):List (κ × V) :=
 if (kvs.any fun kv=>decide (kv.1=k))=true then kvs.map (fun kv=>if kv.1=k then (kv.1,v) else kv) else kvs++[(k,v)]
theorem valV_pos {p:κ × V} {r:List (κ × V)} {k:κ} (e:p.1=k):valV (p :: r) k=some p.2:=by simp [valV,List.find?_cons,e]
theorem valV_neg {p:κ × V} {r:List (κ × V)} {k:κ} (e:¬ p.1=k):valV (p :: r) k=valV r k:=by simp [valV,List.find?_cons,e]
theorem valV_any (k:κ):∀ kvs:List (κ × V),(kvs.any fun kv=>decide (kv.1=k))=(valV kvs k).isSome
 | []=>rfl
 | p :: r=>by
  rw [List.any_cons]
  by_cases e:p.1=k
  ·simp only [valV_pos e,decide_eq_true e,Bool.true_or,Option.isSome_some]
  ·rw [valV_neg e,decide_eq_false e,Bool.false_or]; exact valV_any k r
theorem length_putK (kvs:List (κ × V)) (k:κ) (v:V):(putK kvs k v).length≤kvs.length+1:=by
 unfold putK
 split
 ·rw [List.length_map]; lia
 ·rw [List.length_append,List.length_cons,List.length_nil]; lia
theorem RelO.isSome_eq {o:Option V} {u:Option Value} (r:RelO o u):o.isSome=u.isSome:=by
 cases o with
 | none=>cases u with
  | none=>rfl
  | some _=>exact (show False from r).elim
 | some _=>cases u with
  | none=>exact (show False from r).elim
  | some _=>rfl
theorem RelO.getD {o:Option V} {u:Option Value} {d:V} {d':Value} (r:RelO o u) (rd:RelV d d'):RelV (o.getD d) (u.getD d'):=by
 cases o with
 | none=>cases u with
  | none=>exact rd
  | some _=>exact (show False from r).elim
 | some _=>cases u with
  | none=>exact (show False from r).elim
  | some _=>exact r
theorem KV.val {kvs:List (κ × V)} {vs:List (κ × Value)} (r:KV kvs vs) (k:κ):RelO (valV kvs k) (valueAt vs k):=by
 unfold KV at r
 induction r with
 | nil=>exact True.intro
 | @cons p q ps qs h t ih =>
  obtain ⟨h1,h2⟩:=h
  by_cases e:p.1=k
  ·have e':q.1=k:=h1.symm.trans e
   have b:valueAt (q :: qs) k=some q.2:=by simp [valueAt,List.find?_cons,e']
   rw [valV_pos e,b]; exact h2
  ·have e':¬ q.1=k:=fun z=>e (h1.trans z)
   have b:valueAt (q :: qs) k=valueAt qs k:=by simp [valueAt,List.find?_cons,e']
   rw [valV_neg e,b]; exact ih
theorem KV.any {kvs:List (κ × V)} {vs:List (κ × Value)} (r:KV kvs vs) (k:κ):(kvs.any fun kv=>decide (kv.1=k))=vs.any fun kv=>decide (kv.1=k):=by
 unfold KV at r
 induction r with
 | nil=>rfl
 | cons h t ih=>rw [List.any_cons,List.any_cons,ih,h.1]
theorem KV.repl {kvs:List (κ × V)} {vs:List (κ × Value)} (r:KV kvs vs) (k:κ) {y:V} {u:Value} (ry:RelV y u) :
  KV (kvs.map fun kv=>if kv.1=k then (kv.1,y) else kv) (vs.map fun kv=>if kv.1=k then (kv.1,u) else kv):=by
 unfold KV at r ⊢
 induction r with
 | nil=>exact .nil
 | @cons p q ps qs h t ih =>
  rw [List.map_cons,List.map_cons]
  refine .cons ?_ ih
  obtain ⟨h1,h2⟩:=h
  by_cases e:p.1=k
  ·rw [if_pos e,if_pos (h1.symm.trans e)]; exact ⟨h1,ry⟩
  ·rw [if_neg e,if_neg (fun z=>e (h1.trans z))]; exact ⟨h1,h2⟩
theorem KV.put {kvs:List (κ × V)} {vs:List (κ × Value)} (r:KV kvs vs) (k:κ) {y:V} {u:Value} (ry:RelV y u):KV (putK kvs k y) (stored vs k u):=by
 unfold putK stored
 rw [r.any k]
 by_cases e:(vs.any fun kv=>decide (kv.1=k))=true
 ·rw [if_pos e,if_pos e]; exact r.repl k ry
 ·rw [if_neg e,if_neg e]; exact Paired.snoc r ⟨rfl,ry⟩
theorem KV.length {kvs:List (κ × V)} {vs:List (κ × Value)} (r:KV kvs vs):kvs.length=vs.length:=Paired.length r
end
theorem kV_is {P:Program} {w:World} {k:Key} {u:Value} (r:RelV (kV k) u):(mixKind P w).is k u=true:=by
 cases k with
 | inl i=>obtain ⟨t,e⟩:=(show ∃ t,u=Value.int i t from r); subst e; exact mixKind_int P w i t
 | inr x=>obtain ⟨t,e⟩:=(show ∃ t,u=Value.str x t from r); subst e; exact mixKind_str P w x t
theorem items_are {P:Program} {w:World}:∀ {ks:List Key} {us:List Value},Vals (ks.map kV) us→ItemsAre (mixKind P w) ks us
 | [],_,r=>by rw [List.map_nil] at r; cases r; exact .nil
 | k :: ks,_,r=>by
  rw [List.map_cons] at r
  cases r with
  | cons h t=>exact .cons (kV_is h) (items_are t)
abbrev KT (H:Hp):List (List Key × V)→List (List Key × Addr × Value)→Prop:=Paired fun p q=>p.1=q.1∧H q.2.1=some (.tup (p.1.map kV))∧RelV p.2 q.2.2
theorem KT.val {H:Hp} {kvs:List (List Key × V)} {xs:List (List Key × Addr × Value)} (r:KT H kvs xs) (k:List Key):RelO (valV kvs k) ((atKey xs k).map (·.2)):=by
 induction r with
 | nil=>exact True.intro
 | @cons p q ps qs h t ih =>
  obtain ⟨h1,_,h2⟩:=h
  by_cases e:p.1=k
  ·have e':q.1=k:=h1.symm.trans e
   have b:atKey (q :: qs) k=some q.2:=by simp [atKey,List.find?_cons,e']
   rw [valV_pos e,b]; exact h2
  ·have e':¬ q.1=k:=fun z=>e (h1.trans z)
   have b:atKey (q :: qs) k=atKey qs k:=by simp [atKey,List.find?_cons,e']
   rw [valV_neg e,b]; exact ih
theorem KT.repl {H:Hp} {kvs:List (List Key × V)} {xs:List (List Key × Addr × Value)} (r:KT H kvs xs) (k:List Key) {y:V} {u:Value} (ry:RelV y u) :
  KT H (kvs.map fun kv=>if kv.1=k then (kv.1,y) else kv) (xs.map (putAt k u)):=by
 induction r with
 | nil=>exact .nil
 | @cons p q ps qs h t ih =>
  rw [List.map_cons,List.map_cons]
  refine .cons ?_ ih
  obtain ⟨h1,h2,h3⟩:=h
  unfold putAt
  by_cases e:p.1=k
  ·rw [if_pos e,if_pos (h1.symm.trans e)]; exact ⟨h1,h2,ry⟩
  ·rw [if_neg e,if_neg (fun z=>e (h1.trans z))]; exact ⟨h1,h2,h3⟩
theorem KT.put {H:Hp} {kvs:List (List Key × V)} {xs:List (List Key × Addr × Value)} (r:KT H kvs xs) (k:List Key) {b:Addr} {y:V} {u:Value} (hb:H b=some (.tup (k.map kV))) (ry:RelV y u) :
  KT H (putK kvs k y) (storedH xs k b u):=by
 have e:(kvs.any fun kv=>decide (kv.1=k))=(atKey xs k).isSome:=by
  rw [valV_any,(r.val k).isSome_eq,Option.isSome_map]
 unfold putK storedH
 rw [e]
 by_cases q:(atKey xs k).isSome=true
 ·rw [if_pos q,if_pos q]; exact r.repl k ry
 ·rw [if_neg q,if_neg q]; exact Paired.snoc r ⟨rfl,hb,ry⟩
theorem KT.keeps {H H':Hp} {kvs:List (List Key × V)} {xs:List (List Key × Addr × Value)} (r:KT H kvs xs) (ht:∀ b ys,H b=some (.tup ys)→H' b=some (.tup ys)):KT H' kvs xs :=
 Paired.mapP r fun _ _ z=>⟨z.1,ht _ _ z.2.1,z.2.2⟩
section
variable {P:Program} {w:World} {H:Hp} {h:Heap} {a:Addr}
theorem rd_of {u:HO} (ok:HOk P w H h) (e:Rd H a u):ObjOk P w H h a u:=e.ok ok
theorem dk_rd {kvs:List (Key × V)} (ok:HOk P w H h) (e:Rd H a (.dK kvs)):kvs.length≤sizeLine∧(a == sysModules)=false∧∃ vs,KV kvs vs∧h.DictOf (mixKind P w) a vs :=
 show ObjOk P w H h a (.dK kvs) from rd_of ok e
theorem dk_of {kvs:List (Key × V)} (ok:HOk P w H h) (e:H a=some (.dK kvs)):kvs.length≤sizeLine∧(a == sysModules)=false∧∃ vs,KV kvs vs∧h.DictOf (mixKind P w) a vs:=dk_rd ok (.inl e)
theorem key_of {ks:List Key} (ok:HOk P w H h) (e:H a=some (.tup (ks.map kV))):(tupleKind (mixKind P w)).is h ks a:=by
 obtain ⟨_,its,r,o,h1,h2,n,h3⟩:=(show ObjOk P w H h a (.tup (ks.map kV)) from ok a _ e)
 exact ⟨o,its.toArray,n,h1,h2,h3,by simpa using items_are r⟩
theorem dt_rd {kvs:List (List Key × V)} (ok:HOk P w H h) (e:Rd H a (.dT kvs)):kvs.length≤sizeLine∧(a == sysModules)=false ∧
  ∃ xs,KT H kvs xs∧h.DictOfH (tupleKind (mixKind P w)) a xs:=by
 obtain ⟨z,y,xs,r,o,es,ep,h1,h2,h3,h4,h5⟩:=(show ObjOk P w H h a (.dT kvs) from rd_of ok e)
 refine ⟨z,y,xs,r,o,es,ep,h1,h2,h3,h4,fun x hx=>?_,h5⟩
 have all:∀ {l:List (List Key × V)} {m:List (List Key × Addr × Value)},KT H l m→∀ x∈m,(tupleKind (mixKind P w)).is h x.1 x.2.1:=by
  intro l m q
  induction q with
  | nil=>intro x hx; exact nomatch hx
  | @cons p q ps qs hq t ih =>
   intro x hx
   rcases List.mem_cons.mp hx with e | hx
   ·subst e
    exact key_of ok (by rw [← hq.1]; exact hq.2.1)
   ·exact ih x hx
 exact all r x hx
theorem dt_of {kvs:List (List Key × V)} (ok:HOk P w H h) (e:H a=some (.dT kvs)):kvs.length≤sizeLine∧(a == sysModules)=false ∧
  ∃ xs,KT H kvs xs∧h.DictOfH (tupleKind (mixKind P w)) a xs:=dt_rd ok (.inl e)
end
def DGet (H:Hp) (a:Addr) (y:V) (r:Option V):Prop :=
 (∃ kvs k,Rd H a (.dK kvs)∧y=kV k∧r=valV kvs k)∨∃ kvs k b,Rd H a (.dT kvs)∧y=.ref b∧H b=some (.tup (k.map kV))∧r=valV kvs k
def DPut (H:Hp) (a:Addr) (y v:V) (H':Hp):Prop :=
 (∃ kvs k,H a=some (.dK kvs)∧y=kV k∧kvs.length < sizeLine∧H'=upd H a (.dK (putK kvs k v))) ∨
 ∃ kvs k b,H a=some (.dT kvs)∧y=.ref b∧H b=some (.tup (k.map kV))∧kvs.length < sizeLine∧H'=upd H a (.dT (putK kvs k v))
theorem DGet.k {H:Hp} {a:Addr} {kvs:List (Key × V)} {k:Key} (e:H a=some (.dK kvs)):DGet H a (kV k) (valV kvs k):=.inl ⟨kvs,k,.inl e,rfl,rfl⟩
theorem DPut.t {H:Hp} {a b:Addr} {kvs:List (List Key × V)} {k:List Key} {v:V} (e:H a=some (.dT kvs)) (eb:H b=some (.tup (k.map kV))) (hl:kvs.length < sizeLine) :
  DPut H a (.ref b) v (upd H a (.dT (putK kvs k v))):=.inr ⟨kvs,k,b,e,rfl,eb,hl,rfl⟩
section
variable {X:Cx} {pins:List (Addr × Obj)} {σ:St} {H:Hp} {s:Shared} {a:Addr} {y v:V} {u r:Value} {o:Option V} {A:Around} {E:Value→Shared→Prop}
theorem Inv.big (I:Inv X pins σ H s):sysModules < s.heap.objs.size:=by
 have h:mainGlobals < s.heap.objs.size:=(I.mod.glob.keeps I.bk).lt
 exact Nat.lt_trans (by decide) h
theorem d_getItem {Q:Value→Shared→Prop} (hu:A.units+1 < cLine) (I:Inv X pins σ H s) (g:DGet H a y (some v)) (ry:RelV y u) (h:∀ w' s',Inv X pins σ H s'→RelV v w'→Q w' s') :
  wpAny (model X.prog X.w) A (getItem (.ref a) u) Q E s:=by
 rcases g with ⟨kvs,k,e,ey,l⟩ | ⟨kvs,k,b,e,ey,eb,l⟩
 ·subst ey
  obtain ⟨z,hd,vs,rel,dd⟩:=dk_rd I.hok e
  obtain ⟨w',hw,rw'⟩:=RelO.some_of (v:=v) (o:=valueAt vs k) (by rw [l]; exact rel.val k)
  exact wpAny_getItem_of (kV_is ry) dd.mapOf hw (h w' _ (I.tok _) rw')
 ·subst ey
  cases (show u=Value.ref b from ry)
  obtain ⟨z,hd,xs,rel,dd⟩:=dt_rd I.hok e
  obtain ⟨w',hw,rw'⟩:=RelO.some_of (v:=v) (o:=(atKey xs k).map (·.2)) (by rw [l]; exact rel.val k)
  obtain ⟨p,hp,hp2⟩:=Option.map_eq_some_iff.mp hw
  refine wpAny_getItem_heap (tupleKind_room_in1 hu) (key_of I.hok eb) dd hp ?_
  rw [hp2]
  exact h w' _ (I.tok _) rw'
theorem d_in {Q:Value→Shared→Prop} (hu:A.units+1 < cLine) (I:Inv X pins σ H s) (g:DGet H a y o) (ry:RelV y u) (h:∀ s',Inv X pins σ H s'→Q (.bool o.isSome) s') :
  wpAny (model X.prog X.w) A (compareOp .In u (.ref a)) Q E s:=by
 rcases g with ⟨kvs,k,e,ey,l⟩ | ⟨kvs,k,b,e,ey,eb,l⟩
 ·subst ey
  obtain ⟨z,hd,vs,rel,dd⟩:=dk_rd I.hok e
  refine wpAny_in_of (kV_is ry) hd dd.mapOf ?_
  rw [← (rel.val k).isSome_eq,← l]
  exact h _ (I.tok _)
 ·subst ey
  cases (show u=Value.ref b from ry)
  obtain ⟨z,hd,xs,rel,dd⟩:=dt_rd I.hok e
  refine wpAny_in_heap (tupleKind_room_in1 hu) (key_of I.hok eb) hd dd ?_
  have q:=(rel.val k).isSome_eq
  rw [Option.isSome_map] at q
  rw [← q,← l]
  exact h _ (I.tok _)
theorem d_notIn {Q:Value→Shared→Prop} (hu:A.units+1 < cLine) (I:Inv X pins σ H s) (g:DGet H a y o) (ry:RelV y u) (h:∀ s',Inv X pins σ H s'→Q (.bool (!o.isSome)) s') :
  wpAny (model X.prog X.w) A (compareOp .NotIn u (.ref a)) Q E s:=by
 rcases g with ⟨kvs,k,e,ey,l⟩ | ⟨kvs,k,b,e,ey,eb,l⟩
 ·subst ey
  obtain ⟨z,hd,vs,rel,dd⟩:=dk_rd I.hok e
  refine wpAny_notIn_of (kV_is ry) hd dd.mapOf ?_
  rw [← (rel.val k).isSome_eq,← l]
  exact h _ (I.tok _)
 ·subst ey
  cases (show u=Value.ref b from ry)
  obtain ⟨z,hd,xs,rel,dd⟩:=dt_rd I.hok e
  refine wpAny_notIn_heap (tupleKind_room_in1 hu) (key_of I.hok eb) hd dd ?_
  have q:=(rel.val k).isSome_eq
  rw [Option.isSome_map] at q
  rw [← q,← l]
  exact h _ (I.tok _)
theorem d_write {h':Heap} {t':Nat} {ob:HO} (I:Inv X pins σ H s) (mu:Mut (H a)) (hs:Heap.SameBut a s.heap h') (he:∃ q,h'.get? a=some q) (new:ObjOk X.prog X.w (upd H a ob) h' a ob) :
  Inv X pins σ (upd H a ob) { s with heap:=h',toks:=t' } :=
 I.write (x:=a) (e:=a) mu (.inl rfl) (fun b q hb z=>(hs.2 b hb).trans z) he new
theorem dk_new {P:Program} {w:World} {H':Hp} {h':Heap} {kvs:List (Key × V)} {vs:List (Key × Value)} (z:kvs.length≤sizeLine) (hd:(a == sysModules)=false) (rel:KV kvs vs) (dd:h'.DictOf (mixKind P w) a vs) :
  ObjOk P w H' h' a (.dK kvs):=⟨z,hd,vs,rel,dd⟩
theorem d_setItem {H':Hp} {Q:Unit→Shared→Prop} (hu:A.units+1 < cLine) (I:Inv X pins σ H s) (g:DPut H a y v H') (ry:RelV y u) (rv:RelV v r) (h:∀ s',Inv X pins σ H' s'→Q () s') :
  wpAny (model X.prog X.w) A (setItem (.ref a) u r) Q E s:=by
 rcases g with ⟨kvs,k,e,ey,l,eH⟩ | ⟨kvs,k,b,e,ey,eb,l,eH⟩
 ·subst ey eH
  obtain ⟨z,hd,vs,rel,dd⟩:=dk_of I.hok e
  have hz:vs.length≤sizeLine:=by rw [← rel.length]; exact z
  have hl:(putK kvs k v).length≤sizeLine:=by have:=length_putK kvs k v; lia
  refine wpAny_setItem_pairs (hsz:=hz) (kV_is ry) dd fun h' dd' hs=>h _ ?_
  have he:∃ q,h'.get? a=some q:=let ⟨q,_,_,hq,_⟩:=dd'; ⟨q,hq⟩
  exact d_write I (by rw [e]; exact True.intro) hs he (dk_new hl hd (rel.put k rv) dd')
 ·subst ey eH
  cases (show u=Value.ref b from ry)
  obtain ⟨z,hd,xs,rel,dd⟩:=dt_of I.hok e
  have hz:xs.length≤sizeLine:=by rw [← Paired.length rel]; exact z
  have hl:(putK kvs k v).length≤sizeLine:=by have:=length_putK kvs k v; lia
  refine wpAny_setItem_heap (hsz:=hz) (tupleKind_room_in1 hu) (key_of I.hok eb) dd fun h' dd' hs=>h _ ?_
  obtain ⟨q,es,ep,hq,h2,h3,h4,_,h5⟩:=dd'
  refine d_write I (by rw [e]; exact True.intro) hs ⟨q,hq⟩ ⟨hl,hd,_,(rel.put k eb rv).keeps fun c ys ec=>?_,q,es,ep,hq,h2,h3,h4,h5⟩
  rw [upd_ne (ne_of ec e (fun z=>nomatch z))]
  exact ec
end
section
variable {X:Cx} {pins:List (Addr × Obj)} {σ:St} {H:Hp} {s:Shared} {a:Addr} {kvs:List (Key × V)} {k:Key} {u:Value} {A:Around} {E:Value→Shared→Prop}
end
def NoSl (i:Expr):Prop:=∀ ov iv,subscripted i false ov iv=operate [ov,iv] (getItem ov iv)
theorem subD_of {prog:Program} {w:World} {A:Around} {E:Value→Shared→Prop} {s:Shared} {env:Env} {value slice:Expr} {pos:Pos} {T id:String} {Q:Value→Shared→Prop}
  (hl:typeLookup (.type T) "__getitem__" = pure (some (.builtin id))) (hs:NoSl slice)
  (h:wpAny (model prog w) A (eval value env) (fun o s₁=>wpAny (model prog w) A (eval slice env) (fun i s₂=>s₂.TypeIs o T∧wpAny (model prog w) A (getItem o i) Q E s₂) E s₁) E s) :
  wpAny (model prog w) A (eval (.Subscript value slice pos) env) Q E s:=by
 refine Subscript_ (wpAny_mono h (fun o s₁ h₁=>wpAny_mono h₁ (fun i s₂ h₂=>?_) fun _ _ x=>x) fun _ _ x=>x)
 obtain ⟨hT,h₂⟩:=h₂
 unfold subscriptTail
 refine wpAny_bind ?_
 rw [getitemInPython_of_ne hT.not_modules]
 refine wpAny_bind (wpAny_specialOf hT hl ?_)
 have fin:wpAny (model prog w) A (subscripted slice false o i) (fun r s₃=>wpAny (model prog w) A (letTemporaryGo value o r >>= fun _=>pure r) Q E s₃) E s₂:=by
  rw [hs o i]
  exact wpAny_operating (wpAny_mono h₂ (fun r s₃ h₃=>wpAny_bind (wpAny_letTemporaryGo (wpAny_pure h₃))) fun _ _ x=>x)
 first
  | exact wpAny_pure (wpAny_bind fin)
  | exact wpAny_bind (wpAny_pure (wpAny_bind fin))
  | exact wpAny_bind fin
theorem dict_typeIs {X:Cx} {pins:List (Addr × Obj)} {σ:St} {H:Hp} {s:Shared} {a:Addr} {y:V} {o:Option V} (I:Inv X pins σ H s) (g:DGet H a y o):s.TypeIs (.ref a) "dict" := by
 rcases g with ⟨kvs,k,e,_,_⟩ | ⟨kvs,k,b,e,_,_,_⟩
 ·obtain ⟨_,_,vs,_,dd⟩:=dk_rd I.hok e
  exact dd.typeIs
 ·obtain ⟨_,_,xs,_,dd⟩:=dt_rd I.hok e
  exact dd.typeIs
def tDGet (td ty:TE):TE:=fun σ H Q=>td σ H fun x H1=>ty σ H1 fun y H2=>∃ a v,x=.ref a∧DGet H2 a y (some v)∧Q v H2
def tDIn (ty td:TE):TE:=fun σ H Q=>ty σ H fun y H1=>td σ H1 fun x H2=>∃ a o,x=.ref a∧DGet H2 a y o∧Q (.bl o.isSome) H2
def tDNotIn (ty td:TE):TE:=fun σ H Q=>ty σ H fun y H1=>td σ H1 fun x H2=>∃ a o,x=.ref a∧DGet H2 a y o∧Q (.bl (!o.isSome)) H2
def sDPut (td ty tv:TE):TS:=fun D σ H=>tv σ H fun v H1=>td σ H1 fun x H2=>ty σ H2 fun y H3=>∃ a H4,x=.ref a∧DPut H3 a y v H4∧D.nx σ H4
section
variable {X:Cx} {o i e value:Expr} {pos pos' tpos:Pos} {td ty tv:TE}
theorem pe_dget (hu:X.A.units+1 < cLine) (ho:PE X o td) (hi:PE X i ty) (hs:NoSl i):PE X (.Subscript o i pos) (tDGet td ty):=by
 intro pins s σ H Q I h
 refine subD_of PySem.F.slot_dict_getitem.lookup hs (thn (ho pins s σ H _ I h) fun u s1 ⟨x,H1,I1,rx,q1⟩=>thn (hi pins s1 σ H1 _ I1 q1) fun iv s2 ⟨y,H2,I2,ry,a,v,ex,g,q2⟩=>?_)
 subst ex
 obtain rfl:u=Value.ref a:=rx
 exact ⟨dict_typeIs I2 g,d_getItem hu I2 g ry fun w' s3 I3 rw'=>⟨v,H2,I3,rw',q2⟩⟩
theorem pc_din (hu:X.A.units+1 < cLine) (hi:PE X i ty) (ho:PE X o td):PC X .In i o (tDIn ty td):=by
 intro pins s σ H Q I h
 refine thn (hi pins s σ H _ I h) fun iv s1 ⟨y,H1,I1,ry,q1⟩=>thn (ho pins s1 σ H1 _ I1 q1) fun u s2 ⟨x,H2,I2,rx,a,ov,ex,g,q2⟩=>?_
 subst ex
 obtain rfl:u=Value.ref a:=rx
 exact d_in hu I2 g ry fun s3 I3=>⟨.bl ov.isSome,H2,I3,rfl,q2⟩
theorem pc_dnotin (hu:X.A.units+1 < cLine) (hi:PE X i ty) (ho:PE X o td):PC X .NotIn i o (tDNotIn ty td):=by
 intro pins s σ H Q I h
 refine thn (hi pins s σ H _ I h) fun iv s1 ⟨y,H1,I1,ry,q1⟩=>thn (ho pins s1 σ H1 _ I1 q1) fun u s2 ⟨x,H2,I2,rx,a,ov,ex,g,q2⟩=>?_
 subst ex
 obtain rfl:u=Value.ref a:=rx
 exact d_notIn hu I2 g ry fun s3 I3=>⟨.bl (!ov.isSome),H2,I3,rfl,q2⟩
theorem ps_dput (hu:X.A.units+1 < cLine) (ho:PE X o td) (hi:PE X i ty) (hv:PE X value tv) (hs:swapsWith value (some (.Subscript o i pos')) pos.line X.env=pure false) :
  PS X (.Assign [.Subscript o i pos'] value pos) (sDPut td ty tv):=by
 intro pins s σ H D I h
 refine wpAny_Assign_Subscript (thn (hv pins s σ H _ I h) fun r s1 ⟨v,H1,I1,rv,q1⟩=>thn (ho pins s1 σ H1 _ I1 q1) fun u s2 ⟨x,H2,I2,rx,q2⟩=>thn (hi pins s2 σ H2 _ I2 q2) fun iv s3 ⟨y,H3,I3,ry,a,H4,ex,g,q3⟩=>?_) hs
 subst ex
 obtain rfl:u=Value.ref a:=rx
 exact d_setItem hu I3 g ry rv fun s4 I4=>⟨σ,H4,I4,q3⟩
end
theorem dt_empty {P:Program} {w:World} {H:Hp} (h:Heap) (hb:sysModules < h.objs.size):ObjOk P w H (h.push { cls:=.type "dict",data:=.dict #[] }) h.objs.size (.dT []) :=
 ⟨Nat.zero_le _,beq_eq_false_iff_ne.mpr (Ne.symm (Nat.ne_of_lt hb)),[],.nil,_,#[],0,Heap.get?_push_size _ rfl,⟨rfl,rfl,rfl⟩,rfl,rfl,List.nodup_nil⟩
def tDNewT:TE:=fun _ H Q=>∀ p,H p=none→Q (.ref p) (upd H p (.dT []))
section
variable {X:Cx} {pos:Pos}
theorem pe_dnewT:PE X (.Dict [] [] pos) tDNewT:=fun pins s σ H Q I h =>
 wpAny_Dict_empty ⟨.ref s.heap.objs.size,_,I.laid (a:=s.heap.objs.size) (o:=.dT []) (t':=s.toks) (fun _ _ q=>Heap.get?_push_of_some _ q) (Nat.le_refl _) (dt_empty s.heap I.big),rfl,h _ (I.hok.fresh (Nat.le_refl _))⟩
end
def tPairs:List (TE × TE)→St→Hp→(List (V × V)→Hp→Prop)→Prop
 | [],_,H,Q=>Q [] H
 | (tk,tv) :: r,σ,H,Q=>tk σ H fun x H1=>tv σ H1 fun y H2=>tPairs r σ H2 fun ps H3=>Q ((x,y) :: ps) H3
abbrev VV:List (V × V)→List (Value × Value)→Prop:=Paired fun p q=>RelV p.1 q.1∧RelV p.2 q.2
def PPs (X:Cx) (pos:Pos) (keys:List (Option Expr)) (values:List Expr) (trs:List (TE × TE)):Prop :=
 ∀ (pins:List (Addr × Obj)) (s:Shared) (σ:St) (H:Hp) (Q:List (V × V)→Hp→Prop),Inv X pins σ H s→tPairs trs σ H Q →
  wpAny (model X.prog X.w) X.A (evalPairs (pairTrees keys values X.env pos)) (fun vs s'=>∃ ps H',Inv X pins σ H' s'∧VV ps vs∧Q ps H') X.xe s
theorem pps_nil {X:Cx} {pos:Pos}:PPs X pos [] [] []:=fun pins s σ H Q I h=>pairTrees_nil_walk ⟨[],H,I,.nil,h⟩
theorem pps_cons {X:Cx} {pos:Pos} {k v:Expr} {ks:List (Option Expr)} {vs:List Expr} {tk tv:TE} {trs:List (TE × TE)} (hk:PE X k tk) (hv:PE X v tv) (hr:PPs X pos ks vs trs) :
  PPs X pos (some k :: ks) (v :: vs) ((tk,tv) :: trs):=fun pins s σ H Q I h =>
 pairTrees_cons_walk (thn (hk pins s σ H _ I h) fun u s1 ⟨x,H1,I1,rx,q1⟩=>thn (hv pins s1 σ H1 _ I1 q1) fun w2 s2 ⟨y,H2,I2,ry,q2⟩ =>
  thn (hr pins s2 σ H2 _ I2 q2) fun ws s3 ⟨ps,H3,I3,rel,q3⟩=>⟨(x,y) :: ps,H3,I3,.cons ⟨rx,ry⟩ rel,q3⟩)
structure M1 (X:Cx) (o:Expr) (m:Str) (apos:Pos) (e:Expr) (cpos:Pos):Prop where
 base:attributeBase o m X.env (eval o X.env)=eval o X.env
 few:((backTo cpos (starEach [e] X.env)).all (fun x=>!x.1) && (backToKw cpos (keywordEach [] X.env)).all (fun x=>x.1.isSome)
  && decide (([e]:List Expr).length+([]:List Keyword).length+(if ([]:List Keyword).isEmpty then 0 else 1) < 30))=true
 line:(apos.endLine == cpos.line)=true
 trees:backTo cpos (starEach [e] X.env)=[(false,eval e X.env)]
structure M2 (X:Cx) (o:Expr) (m:Str) (apos:Pos) (e f:Expr) (cpos:Pos):Prop where
 base:attributeBase o m X.env (eval o X.env)=eval o X.env
 few:((backTo cpos (starEach [e,f] X.env)).all (fun x=>!x.1) && (backToKw cpos (keywordEach [] X.env)).all (fun x=>x.1.isSome)
  && decide (([e,f]:List Expr).length+([]:List Keyword).length+(if ([]:List Keyword).isEmpty then 0 else 1) < 30))=true
 line:(apos.endLine == cpos.line)=true
 trees:backTo cpos (starEach [e,f] X.env)=[(false,eval e X.env),(false,eval f X.env)]
def IsD (H:Hp) (a:Addr):Prop:=(∃ kvs,Rd H a (.dK kvs))∨∃ kvs,Rd H a (.dT kvs)
theorem isD_at {X:Cx} {pins:List (Addr × Obj)} {σ:St} {H:Hp} {s:Shared} {a:Addr} (I:Inv X pins σ H s) (d:IsD H a) :
  s.TypeIs (.ref a) "dict" ∧ (∀ b,Value.ref a=.ref b→∃ ob,s.heap.get? b=some ob∧ob.dict=none)∧(a == sysModules)=false:=by
 rcases d with ⟨kvs,e⟩ | ⟨kvs,e⟩
 ·obtain ⟨_,hd,vs,_,dd⟩:=dk_rd I.hok e
  refine ⟨dd.typeIs,fun b q=>?_,hd⟩
  cases q
  obtain ⟨ob,_,_,h1,h2,_⟩:=dd
  exact ⟨ob,h1,h2.2.1⟩
 ·obtain ⟨_,hd,xs,_,dd⟩:=dt_rd I.hok e
  refine ⟨dd.typeIs,fun b q=>?_,hd⟩
  cases q
  obtain ⟨ob,_,_,h1,h2,_⟩:=dd
  exact ⟨ob,h1,h2.2.1⟩
section
variable {X:Cx} {pins:List (Addr × Obj)} {σ:St} {H:Hp} {s:Shared} {a:Addr} {y d:V} {u r:Value} {o:Option V} {A:Around} {E:Value→Shared→Prop}
theorem d_get1 {Q:Value→Shared→Prop} (hu:A.units+1 < cLine) (I:Inv X pins σ H s) (g:DGet H a y o) (ry:RelV y u) (h:∀ w' s',Inv X pins σ H s'→RelV (o.getD .non) w'→Q w' s') :
  wpAny (model X.prog X.w) A (call (.builtin "dict.get") [.ref a,u]) Q E s:=by
 rcases g with ⟨kvs,k,e,ey,l⟩ | ⟨kvs,k,b,e,ey,eb,l⟩
 ·subst ey
  obtain ⟨z,hd,vs,rel,dd⟩:=dk_rd I.hok e
  refine call_meetsIn PySem.F.slot_dict_get dd.typeIs PySem.F.entry_dict_get (PySem.F.args_dict_get_2 _ _) (meets_dict_get (mixKind X.prog X.w) a (kV_is ry) hd) ⟨_,dd.mapOf,h _ _ (I.tok _) ?_⟩
  rw [l]
  exact (rel.val k).getD rfl
 ·subst ey
  cases (show u=Value.ref b from ry)
  obtain ⟨z,hd,xs,rel,dd⟩:=dt_rd I.hok e
  refine call_meetsIn PySem.F.slot_dict_get dd.typeIs PySem.F.entry_dict_get (PySem.F.args_dict_get_2 _ _) (meetsH_dict_get (tupleKind (mixKind X.prog X.w)) a b hd) ⟨tupleKind_room_in1 hu,k,xs,key_of I.hok eb,dd,h _ _ (I.tok _) ?_⟩
  rw [l]
  exact (rel.val k).getD rfl
end
def tDGet1 (td ty:TE):TE:=fun σ H Q=>td σ H fun x H1=>∃ a,x=.ref a∧IsD H1 a∧ty σ H1 fun y H2=>∃ o,DGet H2 a y o∧Q (o.getD .non) H2
section
variable {X:Cx} {o e f:Expr} {apos cpos:Pos} {td ty tx:TE}
theorem pe_dget1 (hu:X.A.units+1 < cLine) (ho:PE X o td) (he:PE X e ty) (m:M1 X o "get" apos e cpos):PE X (.Call (.Attribute o "get" apos) [e] [] cpos) (tDGet1 td ty):=by
 intro pins s σ H Q I h
 refine wpAny_Call_method m.base m.few m.line PySem.F.plainAttrs_dict PySem.F.slot_dict_get PySem.F.type_dict_get (thn (ho pins s σ H _ I h) fun u s1 ⟨x,H1,I1,rx,a,ex,d,q1⟩=>?_)
 subst ex
 obtain rfl:u=Value.ref a:=rx
 obtain ⟨t1,t2,_⟩:=isD_at I1 d
 refine ⟨t1,t2,?_⟩
 rw [m.trees]
 refine Calls.callWith_builtin rfl (Calls.evalArgs_plain (Calls.spliced_cons (thn (he pins s1 σ H1 _ I1 q1) fun iv s2 ⟨y,H2,I2,ry,ov,g,q2⟩=>Calls.spliced_nil ?_)))
 exact d_get1 hu I2 g ry fun w' s3 I3 rw'=>⟨_,H2,I3,rw',q2⟩
end
section
variable {X:Cx} {pins:List (Addr × Obj)} {σ:St} {H:Hp} {s:Shared} {a:Addr} {kvs:List (Key × V)} {A:Around} {E:Value→Shared→Prop}
end
section
variable {X:Cx} {pins:List (Addr × Obj)} {σ:St} {H:Hp} {s:Shared} {a:Addr} {y:V} {u:Value} {A:Around} {E:Value→Shared→Prop}
end
end L2
namespace Att
open PySem PySem.W PySem.Calls PyProof.Rows
theorem ints_of_wellAll {P:Params} {h:Heap}:∀ (ns:List Int) (vs:List Value),WellAll P h vs (ns.map WData.int)→IntsAre vs ns:=by
 intro ns
 induction ns with
 | nil =>
  intro vs w
  rw [List.map_nil] at w
  cases w
  exact .nil
 | cons n ns ih =>
  intro vs w
  rw [List.map_cons] at w
  cases w with
  | cons a b =>
   cases a
   exact .cons _ _ (ih _ b)
theorem script_of {l:OpenLaw} {n:Nat} (hn:l.most=some n) {P:Params} {h:Heap} {args:List WData} {vals:List Value}
  (hpre:l.row.toRowW.claim.pre args=true) (hwl:WellAll P h vals args) :
  ∃ a vs ns,vals=[Value.ref a]∧args=[WData.list (ns.map WData.int)]∧h.get? a=some { cls:=.type "list",data:=.seq vs.toArray }∧IntsAre vs ns∧ns.length≤n:=by
 have hsh:WShape.hasAll [] args [.list .int]=true:=(pre_splitW hpre).1
 have hc:l.pre.holds [] { args:=args }=true:=(pre_splitW hpre).2
 obtain ⟨d,r,rfl,h1,h2⟩:=hasAllW_cons hsh
 obtain rfl:=hasAllW_nil h2
 obtain ⟨xs,rfl,h3⟩:=hasW_list h1
 obtain ⟨ns,rfl⟩:=items_int h3
 have hlen:ns.length≤n:=by
  unfold OpenLaw.pre at hc
  have h4:(WTm.not (.lt (.lit (.int (n:Int))) (.len (.arg 0)))).holds [] { args:=[.list (ns.map .int)] }=true:=by
   have h4:=(holds_andW hc).1
   rw [hn] at h4
   exact h4
  have h5:=condW_of h4 (w_not (w_lt w_lit (w_len_list (w_arg rfl))))
  rw [List.length_map] at h5
  refine Nat.le_of_not_lt fun q=>?_
  have q':(n:Int) < ((ns.length:Nat):Int):=by lia
  first
   | (rw [decide_eq_true q'] at h5; exact absurd h5 (by decide))
   | (simp at h5; lia)
 cases hwl with
 | cons w1 w2 =>
  cases w2
  cases w1 with
  | list ho hall=>exact ⟨_,_,ns,rfl,rfl,ho,ints_of_wellAll ns _ hall,hlen⟩
theorem post_true (l:OpenLaw) (args:List WData):l.row.toRowW.claim.post args (.bool true) args=true :=
 postW_of (r:=l.row.toRowW) (X:=(true == true))
  (show WShape.has [] (.bool true) .bool=true by first | rfl | decide | simp [WShape.has,WShape.arms,WShape.armsAll])
  (show (WTm.eq .res (.lit (.bool true))).value [] { args:=args,res:=some (.bool true),after:=args }=some (.bool (true == true)) from w_eq_bool (w_res rfl) w_lit) rfl
theorem attach_call {l:OpenLaw} {n:Nat} {q:Program} {loose:List Str} {XP:(Str→Option Value)→Heap→Prop} {YP:World→Heap→Prop} {d:DefRec}
  (hn:l.most=some n) (hdf:d.params.defaults=[])
  (call:∀ (w:World) (s₀ s₁:Shared) (mg mb:Str→Option Value) (fa:Addr) (o:Obj) (pm cd doc:Value) (a:Addr) (vs:List Value) (ns:List Int),
   Ground q loose [] XP w s₀ mg mb s₁.heap→YP w s₁.heap →
   s₁.heap.get? fa=some o→o.data=.func (docDef d.name d.params d.body d.scope pm cd doc)→s₁.heap.CodeRec cd d.name→mg d.name=some (.ref fa) →
   s₁.heap.get? a=some { cls:=.type "list",data:=.seq vs.toArray }→IntsAre vs ns→ns.length≤n→s₁.gens=#[] →
   codeAny (model l.prog w) callerA (.call (.ref fa) ⟨[.ref a],[]⟩) (fun r s'=>r=.ok (.ret (.bool true))∧OldK s₁.heap s'.heap∧s'.os=s₁.os∧AllBare s'.gens) s₁) :
  WalkO q loose XP YP l.row.toRowW d [] (fun f vs=>PySem.call f vs):=by
 intro w s₀ s₁ mg mb G Y fa o pm cd doc dV kV ho hd hcd hD hmg hg args vals as hpre hlay hrd hwl hlo
 obtain rfl:dV=.none:=Dflts.none hD hdf
 obtain rfl:kV=.none:=Dflts.noKw hD
 obtain ⟨a,vs,ns,rfl,rfl,hobj,hints,hlen⟩:=script_of hn hpre hwl
 refine enter_call (codeAny_mono (call w s₀ s₁ mg mb fa o pm cd doc a vs ns G Y ho (fd_plain hd) hcd hmg hobj hints hlen hg) fun r s' hq=>?_)
 obtain ⟨rfl,h2,h3,h4⟩:=hq
 exact ⟨.inl ⟨.bool true,.bool true,[],rfl,fun _=>rfl,.bool true,post_true l _,fun _=>⟨List.Pairwise.nil,fun _ hm=>(nomatch hm)⟩⟩,h2,h3,h4⟩
section
variable {prog:Program} {w:World} {A:Around} {E:Value→Shared→Prop} {s:Shared} {K:Frag}
end
end Att
namespace L2
open PySem PySem.Spec PyProof.Rows
theorem vals_ints:∀ {vs:List Value} {ns:List Int},IntsAre vs ns→Vals (ns.map V.int) vs
 | _,_,.nil=>.nil
 | _,_,.cons n t h=>.cons ⟨t,rfl⟩ (vals_ints h)
def Only (H:Hp):Prop:=∀ b,H b=none∨∃ o xs,H b=some (.frz o (.lst xs))
theorem law_call {P:Program} {w:World} {K:PySem.W.Frag} {mg mb:Str→Option Value} {CX:CXT} {k:Nat} {fa a:Addr} {fd:FuncData} {x:Str} {sp:Sp} {s₁:Shared} {vs:List Value} {ns:List Int}
  (KX:K.In s₁.heap) (hns:s₁.heap.Ns mainGlobals mg) (hb:s₁.heap.Ns builtinsNs mb) (hbb:∀ x:Str,x≠"__name__" → mb x=bootBuiltins x) (hlim:s₁.heap.NoLimit) (hg:s₁.gens=#[])
  (ha:s₁.heap.get? a=some { cls:=.type "list",data:=.seq vs.toArray }) (hi:IntsAre vs ns) (hl:ns.length≤sizeLine) (hr:Room k callerA)
  (F:∀ base:Heap,K.In base→base.Ns mainGlobals mg→FnOk P w K mg base CX k fa fd [x] sp) (hbind:∀ (s:Shared) (u:Value),BindsTo s fd ⟨[u],[]⟩ [(x,u)])
  (hsp:∀ H:Hp,Only H→SqL K H a (ns.map V.int)→sp [.ref a] H (fun v _=>v=.bl true) fun _ _ _=>False)
  (hCX:∀ H e s',CX [] H s₁ (fun _ _ _=>False) e s'→False) :
  codeAny (model P w) callerA (.call (.ref fa) ⟨[.ref a],[]⟩) (fun r s'=>r=.ok (.ret (.bool true))∧OldK s₁.heap s'.heap∧s'.os=s₁.os∧AllBare s'.gens) s₁:=by
 have rv:=vals_ints hi
 have lenV:=hi.length
 have core:∀ H:Hp,Only H→SqL K H a (ns.map V.int)→HOk P w H s₁.heap→(∀ b,H b≠none→b=a)→(H a≠none→K.lookup a=none) →
   codeAny (model P w) callerA (.call (.ref fa) ⟨[.ref a],[]⟩) (fun r s'=>r=.ok (.ret (.bool true))∧OldK s₁.heap s'.heap∧s'.os=s₁.os∧AllBare s'.gens) s₁:=by
  intro H hO hS hok hA hK
  have base_of:∀ {b:Addr} {o:Obj},s₁.heap.get? b=some o→H b=none→(hidT s₁.heap H).get? b=some o:=fun e n=>hidT_get e n
  have noA:∀ {b:Addr} {o:Obj} {es:Array DictEntry} {ep:Nat},s₁.heap.get? b=some o→o.data=.dict es ep→H b=none:=fun {b o es ep} e d=>by
   cases q:H b with
   | none=>rfl
   | some u =>
    have e':b=a:=hA b (by rw [q]; simp)
    subst e'
    rw [ha] at e; cases e
    have d':Data.seq vs.toArray _=Data.dict es ep:=d
    cases d'
  have nsK:∀ {b:Addr} {m:Str→Option Value},s₁.heap.Ns b m→(hidT s₁.heap H).Ns b m:=fun {b m} ⟨o,es,ep,e,d,r⟩=>⟨o,es,ep,base_of e (noA e d),d,r⟩
  have hKb:K.In (hidT s₁.heap H):=fun b o e=>base_of (KX b o e) (by
   cases q:H b with
   | none=>rfl
   | some u =>
    have e':b=a:=hA b (by rw [q]; simp)
    subst e'
    rw [hK (by rw [q]; simp)] at e; cases e)
  have hM:Mod K mg (hidT s₁.heap H):=⟨hKb,nsK hns,⟨mb,nsK hb,hbb⟩,let ⟨mc,h1,h2⟩:=hlim; ⟨mc,nsK h1,h2⟩⟩
  have e0:Env0 P w K mg (hidT s₁.heap H) callerA [] s₁ H:=⟨rfl,hM,fun b o e=>of_hidT e,Nat.le_of_eq (hidT_size _ _),trivial,fun b hb=>absurd (show b∈([]:List Addr) from hb) (by simp),hok,.of_eq hg⟩
  refine codeAny_mono ((F _ hKb (nsK hns)).run callerA [] s₁ H ⟨[.ref a],[]⟩ [.ref a] [.ref a] _ _ hr e0 (hbind s₁ (.ref a)) (.cons rfl .nil) (hsp H hO hS)) fun r s' h=>?_
  cases r with
  | error e=>exact (hCX H e s' h).elim
  | ok fl =>
   cases fl with
   | next=>exact False.elim h
   | brk=>exact False.elim h
   | cont=>exact False.elim h
   | ret u =>
    obtain ⟨v,H',os,bare,un,hok',r',q⟩:=h
    have q':v=.bl true:=q
    subst q'
    obtain rfl:u=Value.bool true:=r'
    refine ⟨rfl,OldK.of_keep fun b o e=>?_,os,bare⟩
    cases q:H b with
    | none=>exact un.keep b o e q (by intro z; exact absurd (show b∈([]:List Addr) from z) (by simp)) (by simp)
    | some u =>
     rcases hO b with z | ⟨ob,xs,z⟩
     ·rw [q] at z; cases z
     ·have z2:=un.frzs b ob _ z
      obtain ⟨e1,_⟩:=hok b _ z
      obtain ⟨e2,_⟩:=hok' b _ z2
      rw [e] at e1; cases e1
      exact e2
 cases hk:K.lookup a with
 | some o =>
  have e:=KX a o hk
  rw [ha] at e
  cases e
  refine core (fun _=>none) (fun _=>.inl rfl) (.inr ⟨_,vs.toArray,_,hk,rfl,rfl,rfl,by rw [List.size_toArray,lenV]; exact hl,by simpa using rv⟩) (fun b u z=>by have z':(none:Option HO)=some u:=z; cases z') (fun b z=>absurd rfl z) fun z=>absurd rfl z
 | none =>
  refine core (fun b=>if b=a then some (.frz { cls:=.type "list",data:=.seq vs.toArray } (.lst (ns.map V.int))) else none) (fun b=>?_) (.inl (.inr ⟨{ cls:=.type "list",data:=.seq vs.toArray },if_pos rfl⟩)) (fun b u z=>?_) (fun b z=>?_) fun _=>hk
  ·by_cases hb:b=a
   ·exact .inr ⟨_,_,if_pos hb⟩
   ·exact .inl (if_neg hb)
  ·by_cases hb:b=a
   ·have z':=(if_pos hb).symm.trans z
    cases z'
    subst hb
    exact ⟨ha,by rw [List.length_map]; exact hl,vs,_,rv,ha⟩
   ·have z':=(if_neg hb).symm.trans z
    cases z'
  ·by_cases hb:b=a
   ·exact hb
   ·exact absurd (if_neg hb) z
end L2
namespace L2
open PySem PySem.Spec PyProof.Rows
theorem walk_of {l:PySem.W.OpenLaw} {n k:Nat} {q:Program} {loose:List Str} {XP:(Str→Option Value)→Heap→Prop} {YP:World→Heap→Prop} {d:DefRec} {K:Params→PySem.W.Frag} {CX:World→CXT} {sp:World→Sp} {x:Str}
  (hn:l.most=some n) (hn2:n≤sizeLine) (hdf:d.params.defaults=[]) (hr:Room k callerA)
  (hY:∀ (w:World) (h:Heap),YP w h→(K w.params).In h)
  (F:∀ (w:World) (mg:Str→Option Value) (fa:Addr) (h:Heap),(K w.params).In h→h.Ns mainGlobals mg→mg d.name=some (.ref fa) →
   ∃ fd:FuncData,(∀ (s:Shared) (u:Value),BindsTo s fd ⟨[u],[]⟩ [(x,u)]) ∧
    ∀ base:Heap,(K w.params).In base→base.Ns mainGlobals mg→FnOk l.prog w (K w.params) mg base (CX w) k fa fd [x] (sp w))
  (hsp:∀ (w:World) (H:Hp) (a:Addr) (ns:List Int),ns.length≤n→Only H→SqL (K w.params) H a (ns.map V.int)→sp w [.ref a] H (fun v _=>v=.bl true) fun _ _ _=>False)
  (hCX:∀ (w:World) (H:Hp) (s:Shared) (e:Value) (s':Shared),CX w [] H s (fun _ _ _=>False) e s'→False) :
  PySem.W.WalkO q loose XP YP l.row.toRowW d [] (fun f vs=>PySem.call f vs):=by
 refine Att.attach_call hn hdf fun w s₀ s₁ mg mb fa o pm cd doc a vs ns G Y ho hd hcd hmg hobj hints hlen hg=>?_
 have KX:=hY w _ Y
 obtain ⟨fd,hb,hF⟩:=F w mg fa _ KX G.T.g hmg
 exact law_call KX G.T.g G.T.b G.T.builtins G.T.nolimit hg hobj hints (Nat.le_trans hlen hn2) hr hF hb (fun H hO hS=>hsp w H a ns hlen hO hS) fun H e s'=>hCX w H s₁ e s'
end L2
namespace L2
open PySem PySem.Spec PyProof.Rows
def defArgs (s:Stmt):Arguments:=match s with
 | .FunctionDef _ a _ _ _ _ _ _ _ _=>a
 | _=>{ posonlyargs:=[],args:=[],vararg:=none,kwonlyargs:=[],kw_defaults:=[],kwarg:=none,defaults:=[] }
def defBody (s:Stmt):List Stmt:=match s with
 | .FunctionDef _ _ b _ _ _ _ _ _ _=>b
 | _=>[]
def defScope (s:Stmt):Scope:=match s with
 | .FunctionDef _ _ _ _ _ _ sc _ _ _=>sc
 | _=>{ kind:=.function,names:=[],isGenerator:=false,isCoroutine:=false }
abbrev CX0:CXT:=fun _ _ _ _ _ _=>False
abbrev E0:XK:=fun _ _ _=>False
theorem pass0 {X:Cx}:Passes CX0 X E0:=fun _ _ _ _ _ _ _ h=>h.elim
structure Fun (K:PySem.W.Frag) (x qual:Str) (st:Stmt) (f:Addr) (fd:FuncData):Prop where
 ex:∃ (oc:Value) (od:Option Addr) (kV doc pm:Value) (an:Option Addr) (cdv ct:Value) (osl:Array (Option Value)),
  fd=PySem.W.fnOf x qual (defArgs st) (defBody st) (defScope st) .none kV doc pm an cdv ct∧K.lookup f=some ⟨oc,od,.func fd,osl⟩∧PySem.W.codeIn K cdv qual=true
 kp:PySem.W.keepIn K (.ref f)=true
section
variable {P:Program} {w:World} {K:PySem.W.Frag} {mg:Str→Option Value} {base:Heap}
theorem Fun.ok {x qual:Str} {st:Stmt} {f:Addr} {fd:FuncData} {N ps:List Str} {k:Nat} {sp:Sp} (F:Fun K x qual st f fd) (S:FnScope N ps (defScope st)) (len:∀ vs H Q E,sp vs H Q E→vs.length=ps.length)
  (hbody:∀ (cdv:Value) (A:Around) (outer:List Env) (s:Shared) (H:Hp) (vs:List V) (Q:VK) (E:XK),Room k (A.deeper (envOfC qual (defScope st) s.heap.objs.size f cdv))→sp vs H Q E →
   ∃ t,PSs (cxOf CX0 P w K mg base N qual (defScope st) f cdv A outer s H E).nox (defBody st) t∧t { nx:=fun _ H'=>Q .non H',rt:=Q } (start N vs) H):FnOk P w K mg base CX0 (k+1) f fd ps sp:=by
 obtain ⟨oc,od,kV,doc,pm,an,cdv,ct,osl,rfl,lk,hcd⟩:=F.ex
 refine fn_of lk hcd S len fun A outer s H vs Q E hr hsp=>?_
 obtain ⟨t,h,q⟩:=hbody cdv A outer s H vs Q E hr hsp
 exact ⟨t,h.nox,q⟩
theorem Fun.binds {x qual:Str} {st:Stmt} {f:Addr} {fd:FuncData} {ps:List Str} (F:Fun K x qual st f fd)
  (h:∀ (kV doc pm:Value) (an:Option Addr) (cdv ct:Value) (us:List Value),us.length=ps.length→bindArgs (PySem.W.fnOf x qual (defArgs st) (defBody st) (defScope st) .none kV doc pm an cdv ct) ⟨us,[]⟩=pure (ps.zip us)):Binds K fd ps []:=by
 obtain ⟨oc,od,kV,doc,pm,an,cdv,ct,osl,rfl,lk,hcd⟩:=F.ex
 exact .all (h kV doc pm an cdv ct)
theorem fun_mk {x qual:Str} {st:Stmt} {f:Addr} {oc:Value} {od an:Option Addr} {osl:Array (Option Value)} {kV doc pm cdv ct:Value} (l:K.lookup f=some ⟨oc,od,.func (PySem.W.fnOf x qual (defArgs st) (defBody st) (defScope st) .none kV doc pm an cdv ct),osl⟩)
  (c:PySem.W.codeIn K cdv qual=true) (k:PySem.W.keepIn K (.ref f)=true):Fun K x qual st f (PySem.W.fnOf x qual (defArgs st) (defBody st) (defScope st) .none kV doc pm an cdv ct):=⟨⟨oc,od,kV,doc,pm,an,cdv,ct,osl,rfl,l,c⟩,k⟩
end
section
variable {X:Cx}
end
theorem iteF {A B:Prop} (h:B):if false=true then A else B:=by
 rw [if_neg Bool.false_ne_true]
 exact h
theorem iteT {A B:Prop} (h:A):if true=true then A else B:=by
 rw [if_pos rfl]
 exact h
def Same (H H':Hp):Prop:=∀ b o,H b=some o→H' b=some o
theorem Same.refl (H:Hp):Same H H:=fun _ _ h=>h
theorem Same.trans {H H1 H2:Hp} (a:Same H H1) (b:Same H1 H2):Same H H2:=fun c o h=>b c o (a c o h)
theorem Same.free {H H':Hp} (e:Same H H') {l:Addr} (h:H' l=Option.none):H l=Option.none:=by
 cases q:H l with
 | none=>rfl
 | some o =>
  rw [e l o q] at h
  cases h
theorem Same.seq {K:PySem.W.Frag} {H H':Hp} {a:Addr} {xs:List V} (e:Same H H') (h:SqL K H a xs):SqL K H' a xs:=by
 rcases h with (h | ⟨o,h⟩) | h
 ·exact .inl (.inl (e _ _ h))
 ·exact .inl (.inr ⟨o,e _ _ h⟩)
 ·exact .inr h
end L2
namespace L2
open PySem PySem.Spec PyProof.Rows
theorem line1000:1000≤sizeLine:=by decide
theorem same_upd {H:Hp} {l:Addr} (h:H l=none) (o:HO):Same H (upd H l o):=fun b u e=>by
 rw [upd_ne (ne_of_none e h)]
 exact e
theorem Same.put {H H':Hp} {p:Addr} {o:HO} (e:Same H H') (h:H p=none):Same H (upd H' p o):=fun b u q=>by
 rw [upd_ne (ne_of_none q h)]
 exact e b u q
theorem at_nat {α:Type} {xs:List α} {k:Int} (h0:0≤k) (h1:k < (xs.length:Int)):∃ v,atI xs k=some v∧xs[k.toNat]?=some v:=by
 have hk:k.toNat < xs.length:=by lia
 have e:xs[k.toNat]?=some xs[k.toNat]:=List.getElem?_eq_getElem hk
 refine ⟨xs[k.toNat],?_,e⟩
 have:=atI_nat e
 rw [Int.toNat_of_nonneg h0] at this
 exact this
theorem at_map {α β:Type} {f:α→β} {xs:List α} {k:Int} {v:α} (h:atI xs k=some v):atI (xs.map f) k=some (f v):=by
 unfold atI at h ⊢
 rw [List.length_map]
 cases e:ixN xs.length k with
 | none =>
  rw [e] at h
  cases h
 | some j =>
  rw [e] at h
  have h':xs[j]?=some v:=h
  show (xs.map f)[j]?=some (f v)
  rw [List.getElem?_map,h']
  rfl
def cutL {α:Type} (xs:List α) (lo hi:Option Int):List α:=(xs.drop (HT.sIx xs.length 0 lo)).take (HT.sIx xs.length xs.length hi - HT.sIx xs.length 0 lo)
theorem cutV_map {α:Type} (f:α→V) (xs:List α) (lo hi:Option Int):cutV (xs.map f) lo hi=(cutL xs lo hi).map f:=by
 unfold cutV cutL
 rw [List.length_map,List.map_take,List.map_drop]
theorem cutL_last {α:Type} (xs:List α):cutL xs none (some (-1))=xs.dropLast:=by
 unfold cutL
 rw [HT.sIx_none]
 show (xs.drop 0).take ((if (-1:Int) < 0 then ((-1:Int)+(xs.length:Int)).toNat else min (-1:Int).toNat xs.length) - 0)=xs.dropLast
 rw [if_pos (by decide),List.drop_zero,List.dropLast_eq_take]
 congr 1
 lia
theorem cutL_take {α:Type} (xs:List α) (k:Nat):cutL xs none (some (k:Int))=xs.take k:=by
 unfold cutL
 rw [HT.sIx_none,HT.sIx_nat,List.drop_zero,Nat.sub_zero]
 by_cases h:k≤xs.length
 ·rw [Nat.min_eq_left h]
 ·rw [Nat.min_eq_right (by lia),List.take_length,List.take_of_length_le (by lia)]
theorem cutL_drop {α:Type} (xs:List α) (k:Nat):cutL xs (some (k:Int)) none=xs.drop k:=by
 unfold cutL
 rw [HT.sIx_none,HT.sIx_nat]
 by_cases h:k≤xs.length
 ·rw [Nat.min_eq_left h,List.take_of_length_le (by rw [List.length_drop]; lia)]
 ·rw [Nat.min_eq_right (by lia),List.drop_length,List.drop_of_length_le (by lia),List.take_nil]
theorem cutL_mem {α:Type} {xs:List α} {lo hi:Option Int} {x:α} (h:x∈cutL xs lo hi):x∈xs:=List.mem_of_mem_drop (List.mem_of_mem_take h)
theorem toString_length_le {v:Int} {k:Nat} (h0:0≤v) (hk:0 < k) (h:v < 10 ^ k):(Str.ofString (toString v)).length≤k:=by
 obtain ⟨m,rfl⟩:=Int.eq_ofNat_of_zero_le h0
 have e:toString (m:Int)=Nat.repr m:=rfl
 rw [PySem.ofString_length,e]
 exact (Nat.length_repr_le_iff hk).mpr (by exact_mod_cast h)
def Its (z:Str):It:=⟨fun i _=>i < z.cps.size,fun i H x H'=>H'=H∧∃ c,z.cps[i]?=some c∧x=.str ⟨#[c]⟩,fun i _=>z.cps.size≤i⟩
theorem turn_ascii {P:Program} {w:World} {K:PySem.W.Frag} {tg:Expr} (it:Addr) (z:Str) (t:Tok):Turn P w K tg (Its z) [it] it (fun i h=>h.IsStrIter it "str_ascii_iterator" z t i) where
 mem:=by simp
 obj:=fun i h st b hb=>by
  have e:b=it:=by simpa using hb
  subst e
  obtain ⟨o,e,c,d⟩:=st
  exact ⟨o,e,fun v z=>by rw [d] at z; cases z⟩
 keep:=fun i h h' st k=>by
  obtain ⟨o,e,r⟩:=st
  exact ⟨o,k it (by simp) o e,r⟩
 item:=by
  intro X hP hw hK hc i pins s σ H E I hf st hg
  subst hP hw hK
  obtain ⟨f0,f1,f2,f3,f4,f5⟩:=hf it (by simp)
  have hx:z.cps[i]?=some z.cps[i]:=Array.getElem?_eq_getElem hg
  refine wpAny_pyNext_ascii_item st hx fun h' st' sb=>?_
  have I1:Inv X pins σ H { s with heap:=h',toks:=s.toks+1 }:=I.turned (fun b o hb e=>(sb.2 b hb).trans e) f0 f1 f3 f4 f5
  obtain ⟨o,e,c,d⟩:=id st'
  exact ⟨_,rfl,go_of (s:={ s with heap:=h',toks:=s.toks+1 }) e c d (by decide) ⟨.str ⟨#[z.cps[i]]⟩,H,I1,⟨_,rfl⟩,⟨rfl,_,hx,rfl⟩,st',fun b hb=>(hf b hb).1⟩⟩
 done:=by
  intro X hP hw hK hc i pins s σ H E I hf st hg
  subst hP hw hK
  obtain ⟨f0,f1,f2,f3,f4,f5⟩:=hf it (by simp)
  exact wpAny_pyNext_ascii_end (I.ok.hd hc) st (Array.getElem?_eq_none hg) fun h' eb=>⟨rfl,I.turned (t':=s.toks) (fun b o hb e=>eb b o hb e) f0 f1 f3 f4 f5⟩
 self:=fun _ _ _ _ _ st h=>wpAny_pyIter_striter_ascii st h
theorem turn_wide {P:Program} {w:World} {K:PySem.W.Frag} {tg:Expr} (it:Addr) (z:Str) (t:Tok):Turn P w K tg (Its z) [it] it (fun i h=>h.IsStrIter it "str_iterator" z t i) where
 mem:=by simp
 obj:=fun i h st b hb=>by
  have e:b=it:=by simpa using hb
  subst e
  obtain ⟨o,e,c,d⟩:=st
  exact ⟨o,e,fun v z=>by rw [d] at z; cases z⟩
 keep:=fun i h h' st k=>by
  obtain ⟨o,e,r⟩:=st
  exact ⟨o,k it (by simp) o e,r⟩
 item:=by
  intro X hP hw hK hc i pins s σ H E I hf st hg
  subst hP hw hK
  obtain ⟨f0,f1,f2,f3,f4,f5⟩:=hf it (by simp)
  have hx:z.cps[i]?=some z.cps[i]:=Array.getElem?_eq_getElem hg
  refine wpAny_pyNext_wide_item st hx fun h' st' sb=>?_
  have I1:Inv X pins σ H { s with heap:=h',toks:=s.toks+1 }:=I.turned (fun b o hb e=>(sb.2 b hb).trans e) f0 f1 f3 f4 f5
  obtain ⟨o,e,c,d⟩:=id st'
  exact ⟨_,rfl,go_of (s:={ s with heap:=h',toks:=s.toks+1 }) e c d (by decide) ⟨.str ⟨#[z.cps[i]]⟩,H,I1,⟨_,rfl⟩,⟨rfl,_,hx,rfl⟩,st',fun b hb=>(hf b hb).1⟩⟩
 done:=by
  intro X hP hw hK hc i pins s σ H E I hf st hg
  subst hP hw hK
  obtain ⟨f0,f1,f2,f3,f4,f5⟩:=hf it (by simp)
  exact wpAny_pyNext_wide_end (I.ok.hd hc) st (Array.getElem?_eq_none hg) fun h' eb=>⟨rfl,I.turned (t':=s.toks) (fun b o hb e=>eb b o hb e) f0 f1 f3 f4 f5⟩
 self:=fun _ _ _ _ _ st h=>wpAny_pyIter_striter_wide st h
section
variable {X:Cx} {tg:Expr}
end
def plainE:Expr→Bool
 | .Starred ..=>false
 | _=>true
theorem star_cons {e:Expr} {es:List Expr} {env:Env} (h:plainE e=true):starEach (e :: es) env=(false,eval e env) :: starEach es env:=by
 cases e <;> first | rfl | (exact absurd h Bool.false_ne_true)
theorem star_firsts {env:Env}:∀ {es:List Expr},es.all plainE=true→starEach es env=es.map fun e=>(false,eval e env)
 | [],_=>rfl
 | e :: es,h=>by
  rw [List.all_cons,Bool.and_eq_true] at h
  rw [star_cons h.1,star_firsts h.2,List.map_cons]
theorem star_none {es:List Expr} {env:Env} {pos:Pos} (h:es.all plainE=true):(backTo pos (starEach es env)).any (·.1)=false:=by
 rw [star_firsts h]
 unfold backTo
 rw [List.map_map,List.any_eq_false]
 intro p hp
 obtain ⟨e,_,rfl⟩:=List.mem_map.mp hp
 exact Bool.false_ne_true
theorem star_all {es:List Expr} {env:Env} {pos:Pos} (h:es.all plainE=true):(backTo pos (starEach es env)).all (fun x=>!x.1)=true:=by
 rw [star_firsts h]
 unfold backTo
 rw [List.map_map,List.all_eq_true]
 intro p hp
 obtain ⟨e,_,rfl⟩:=List.mem_map.mp hp
 rfl
section
variable {X:Cx} {x:Str} {p pos:Pos} {e:Expr} {es:List Expr} {te:TE} {t:TA} {id T:String} {r:List V→Hp→VK→Prop}
theorem pac (ha:PE X e te) (hr:PA X es t) (hs:plainE e=true:=by rfl):PA X (e :: es) (tCons te t):=pa_cons ha hr (star_cons hs)
theorem all2 {e:Expr} {es:List Expr} (h:(e :: es).all plainE=true):plainE e=true∧es.all plainE=true:=by
 rw [List.all_cons,Bool.and_eq_true] at h
 exact h
theorem pcb (hc:CallR X (.builtin id) r) (hg:Gl X x) (hm:X.mg x=none) (hv:bootBuiltins x=some (.builtin id)) (ha:PA X (e :: es) t) (hp:(e :: es).all plainE=true:=by rfl) (hn:x≠"__name__" := by decide) (hdb:(x == ("__debug__" : Str))=false:=by decide) :
  PE X (.Call (.Name x p) (e :: es) [] pos) (tCB r t):=pe_callB hc hg hm hv ha hn hdb (star_cons (all2 hp).1) (star_none (all2 hp).2)
theorem pct (hc:CallR X (.type T) r) (hg:Gl X x) (hm:X.mg x=none) (hv:bootBuiltins x=some (.type T)) (ha:PA X (e :: es) t) (hp:(e :: es).all plainE=true:=by rfl) (hn:x≠"__name__" := by decide) (hdb:(x == ("__debug__" : Str))=false:=by decide) :
  PE X (.Call (.Name x p) (e :: es) [] pos) (tCB r t):=pe_callTy hc hg hm hv ha hn hdb (star_cons (all2 hp).1) (star_none (all2 hp).2)
theorem pbm {o:Expr} {to:TE} {name:Str} {apos cpos:Pos} {r:V→List V→Hp→VK→Prop} (pa:PlainAttrs T) (slot:Slot T name id) (hty:typeOf (.builtin id)=pure (.type "method_descriptor")) (hm:MtR X id r) (ho:PE X o to) (ha:PA X (e :: es) t)
  (hp:(e :: es).all plainE=true:=by rfl) (hfew:decide ((e :: es).length < 30)=true:=by rfl) (hbase:attributeBase o name X.env (eval o X.env)=eval o X.env:=by rfl) (hline:(apos.endLine == cpos.line)=true:=by rfl) :
  PE X (.Call (.Attribute o name apos) (e :: es) [] cpos) (tBM X.K T r to t):=by
 refine pe_bm pa slot hty hm ho ha hbase ?_ hline (star_cons (all2 hp).1) (star_none (all2 hp).2)
 rw [star_all hp]
 exact hfew
theorem prng1 {tg a:Expr} {ta:TA} (hg:Gl X "range") (hm:X.mg "range" = none) (ha:PA X [a] ta) (hp:plainE a=true:=by rfl):PI X tg (.Call (.Name "range" p) [a] [] pos) (iRng1 ta):=pi_range1 hg hm ha (star_cons hp)
theorem prng2 {tg a b:Expr} {ta:TA} (hg:Gl X "range") (hm:X.mg "range" = none) (ha:PA X [a,b] ta) (hp:plainE a=true:=by rfl) (hp2:plainE b=true:=by rfl):PI X tg (.Call (.Name "range" p) [a,b] [] pos) (iRng2 ta) :=
 pi_range2 hg hm ha (by rw [star_cons hp,star_cons hp2]; rfl) (star_cons hp2)
end
inductive Cal (P:Program) (w:World) (K:PySem.W.Frag) (mg:Str→Option Value) (base:Heap) (k:Nat) (x:Str) (ps:List Str) (sp:Sp):Prop where
 | mk {f:Addr} {fd:FuncData} (F:FnOk P w K mg base CX0 k f fd ps sp) (hm:mg x=some (.ref f)) (hk:PySem.W.keepIn K (.ref f)=true) (hb:Binds K fd ps [])
section
variable {X:Cx} {k:Nat} {ps:List Str} {sp:Sp} {x:Str} {p pos:Pos} {e:Expr} {es:List Expr} {t:TA}
theorem pe_cal (C:Cal X.prog X.w X.K X.mg X.base k x ps sp) (hr:Room k X.A) (hg:Gl X x) (ha:PA X (e :: es) t) (hp:(e :: es).all plainE=true:=by rfl) (hdb:(x == ("__debug__" : Str))=false:=by decide):PE X (.Call (.Name x p) (e :: es) [] pos) (tCall sp [] E0 t):=by
 cases C with
 | mk F hm hk hb=>exact pe_call F hr hg hm hk hb .nil pass0 ha hdb (star_cons (all2 hp).1) (star_none (all2 hp).2)
end
section
variable {X:Cx}
end
theorem kit_same {K:PySem.W.Frag} {T:String}:PySem.W.kitOne K (.type T) (.type T)=some true:=by
 unfold PySem.W.kitOne
 rw [if_pos (by simp)]
theorem range_all (bs:List Bool):(List.range bs.length).all (fun i=>bs.getD i true)=bs.all id:=by
 have e:(List.range bs.length).map (fun i=>bs.getD i true)=bs:=by
  apply List.ext_getElem
  ·simp
  ·intro i h1 h2
   simp [List.getD_eq_getElem?_getD,h2]
 calc (List.range bs.length).all (fun i=>bs.getD i true)=((List.range bs.length).map (fun i=>bs.getD i true)).all id:=by rw [List.all_map]; rfl
  _=bs.all id:=by rw [e]
section
variable {X:Cx}
theorem bools_truth {A:Around} {bs:List Bool} {its:List Value} (r:Vals (bs.map V.bl) its):TruthOf X.prog X.w A (fun i v=>its.toArray[i]?=some v) (fun i=>bs.getD i true):=by
 intro i v s Q E hv q
 have hv':its[i]?=some v:=by simpa using hv
 have hl:=r.length
 rw [List.length_map] at hl
 have hi:i < bs.length:=by
  rw [hl]
  exact (List.getElem?_eq_some_iff.mp hv').1
 have e:(bs.map V.bl)[i]?=some (.bl bs[i]):=by rw [List.getElem?_map,List.getElem?_eq_getElem hi]; rfl
 obtain ⟨u,hu,ru⟩:=r.get e
 rw [hv'] at hu
 cases hu
 cases (show v=Value.bool bs[i] from ru)
 refine wpAny_truthy_bool ?_
 have e2:bs.getD i true=bs[i]:=by simp [List.getD_eq_getElem?_getD,hi]
 have q':Q (bs.getD i true) s:=q
 rw [e2] at q'
 exact q'
theorem call_allB (hc:X.calm=true):CallR X (.builtin "all") (fun xs H Q=>∃ (p:Addr) (bs:List Bool),xs=[.ref p]∧SqL X.K H p (bs.map V.bl)∧Q (.bl (bs.all id)) H):=by
 intro pins s σ H xs us Q I r h
 obtain ⟨p,bs,rfl,hq,q⟩:=h
 obtain ⟨u,rfl,rx⟩:=vals1 r
 cases rx
 obtain ⟨its,rv,pl,hz⟩:=I.list hq
 have hlt:p < s.heap.objs.size:=by
  obtain ⟨_,_,e,_⟩:=pl
  exact Heap.lt_size e
 have hl:=rv.length
 rw [List.length_map] at hl
 have hA:X.A.in1.handled=none:=I.ok.hd hc
 refine call_all_walk (wpAny_pyIter_list pl.isList ?_)
 refine ⟨s.heap.objs.size,_,_,its.toArray.size,_,_,fun i=>bs.getD i true,rfl,Walks.list hA s.heap.objs.size p (Nat.ne_of_lt hlt) its.toArray,⟨⟨_,Heap.get?_push_size _ rfl,rfl,rfl⟩,pl.isList.push _⟩,bools_truth rv,fun h' tk kp=>?_⟩
 refine ⟨.bl (bs.all id),H,I.kept (t':=tk) (fun b o e=>kp b o (fun z=>?_) (Heap.get?_push_of_some _ e)),?_,q⟩
 ·have e1:b=s.heap.objs.size:=by simpa using z
  exact absurd (e1 ▸ Heap.lt_size e) (Nat.lt_irrefl _)
 ·rw [List.size_toArray,← hl,range_all]
  rfl
theorem strs_of:∀ {ys:List Str} {us:List Value},Vals (ys.map V.str) us→∃ l:List (Str × Tok),us=strValues l∧l.map (·.1)=ys
 | [],_,r=>by
  cases r
  exact ⟨[],rfl,rfl⟩
 | y :: ys,_,r=>by
  rw [List.map_cons] at r
  cases r with
  | cons r1 r2 =>
   obtain ⟨t,e⟩:=r1
   subst e
   obtain ⟨l,e1,e2⟩:=strs_of r2
   subst e1
   exact ⟨(y,t) :: l,rfl,by rw [List.map_cons,e2]⟩
abbrev glue (sep:Str) (ys:List Str):Str:=Txt.join sep ys
theorem glue_len (sep:Str) (ys:List Str):(glue sep ys).length≤(ys.map (·.length)).sum+ys.length * sep.length:=by
 show (Builtin.Str.glued sep ys).length≤_
 rw [StrLaws.glued_eq_join]
 exact StrLaws.join_length_le sep ys
theorem mt_join:MtM X "str.join" (fun x vs H Q=>∃ (sep:Str) (l:Addr) (ys:List Str),x=.str sep∧vs=[.ref l]∧SqL X.K H l (ys.map V.str)∧(ys.map (·.length)).sum+ys.length * sep.length≤16777216∧Q (.str (glue sep ys)) H):=by
 intro pins s σ H x vs v us Q I rx rv h
 obtain ⟨sep,l,ys,rfl,rfl,hq,hz,q⟩:=h
 obtain ⟨t,rfl⟩:=rx
 obtain ⟨u,rfl,ru⟩:=rv.one
 cases ru
 obtain ⟨its,r,pl,_⟩:=I.list hq
 obtain ⟨ts,e1,e2⟩:=strs_of r
 subst e1
 refine SC.join pl.isList e2 ?_ fun t' k=>⟨.str (glue sep ys),H,I.tok k,⟨t',rfl⟩,q⟩
 unfold JoinOk
 rw [StrLaws.joinTotal]
 have:Builtin.Str.tooLong ((ys.map (·.length)).sum+ys.length * sep.length)=false:=by
  unfold Builtin.Str.tooLong
  rw [sizeLine_eq]
  exact decide_eq_false (by lia)
 rw [this]
 rfl
theorem part_of {v:Value} {o:Option Int} (p:IsPart v o):∃ l:Option (Int × Tok),v=partValue l∧l.map (·.1)=o:=by
 cases p with
 | none=>exact ⟨none,rfl,rfl⟩
 | int i t=>exact ⟨some (i,t),rfl,rfl⟩
theorem sl_str:SlR X (fun x lo hi H Q=>∃ z,x=.str z∧z.length≤sizeLine∧Q (.str (Txt.slice z lo hi)) H):=by
 intro pins s σ H x v vl vu lo hi sl Q I rx hs pl pu h
 obtain ⟨z,rfl,hz,q⟩:=h
 obtain ⟨t,rfl⟩:=rx
 obtain ⟨l,e1,e2⟩:=part_of pl
 obtain ⟨u,e3,e4⟩:=part_of pu
 subst e1 e2 e3 e4
 refine ⟨"str",_,F.slot_str_getitem.lookup,typeIs_str _ _ _,?_⟩
 refine wpAny_getItem_str_slice (l:=l) (u:=u) (st:=none) hs rfl ?_
 exact post_val_or_str ⟨Nat.le_trans (Txt.slice_le z _ _) hz,fun t' k=>⟨.str (Txt.slice z (l.map (·.1)) (u.map (·.1))),H,I.tok k,⟨t',rfl⟩,q⟩⟩
end
end L2
namespace HT
open PySem PyProof.Rows
section
variable {prog:Program} {w:World} {A:Around} {E:Value→Shared→Prop} {s:Shared}
theorem getItem_tuple_whole {t sl:Addr} {items:Array Value} {vl vu:Value} {lo hi:Option Int} {Q:Value→Shared→Prop} (ht:IsTup s.heap t items) (hs:s.heap.IsSliceOf sl vl vu .none) (pl:IsPart vl lo) (pu:IsPart vu hi)
  (hw:sIx items.size 0 lo=0∧sIx items.size items.size hi=items.size) (h:Q (.ref t) s):wpAny (model prog w) A (getItem (.ref t) (.ref sl)) Q E s:=by
 obtain ⟨os,hos,hcs,hds⟩:=id hs
 have hTs:s.TypeIs (.ref sl) "slice" := ⟨os,hos,hcs⟩
 unfold getItem
 try with_reducible refine wpAny_holding ?_
 first | refine wpAny_bind (wpAny_pure ?_) | skip
 refine wpAny_bind (wpAny_sequenceKey ht.typeIs (by decide) ?_)
 refine wpAny_bind (wpAny_callSpecial?_slot (name:=Str.ofString "__getitem__") ht.typeIs PyProof.Rows.slot_tuple_getitem
  (wpAny_call_entry PyProof.Rows.slot_tuple_getitem ht.typeIs entry_tuple_getitem ?_ (args_tuple_getitem _ _)))
 show wpAny _ _ (Builtin.Tuple.tupleItemsOf (.ref t) >>= _) _ _ s
 refine wpAny_bind (tupleItemsOf_ ht ?_)
 refine wpAny_bind (wpAny_typeOf hTs ?_)
 rw [if_pos (by decide)]
 refine wpAny_bind (sliceApplied_gen hs pl pu ?_)
 have hyes:(((sIx items.size 0 lo:Nat):Int) == 0 && (1:Int) == 1 && (sIx items.size items.size hi - sIx items.size 0 lo) == items.size)=true:=by
  rw [hw.1,hw.2]
  simp
 show wpAny _ _ (if (((sIx items.size 0 lo:Nat):Int) == 0 && (1:Int) == 1 && (sIx items.size items.size hi - sIx items.size 0 lo) == items.size)=true then _ else _) _ _ s
 rw [if_pos hyes]
 refine wpAny_bind (m:=Builtin.Tuple.tupleIsExact _) ?_
 unfold Builtin.Tuple.tupleIsExact
 refine wpAny_bind (wpAny_typeOf ht.typeIs (wpAny_pure ?_))
 rw [if_pos (by decide)]
 exact wpAny_bind (wpAny_rule (wpAny_pure ⟨_,rfl,wpAny_pure h⟩))
end
end HT
namespace L2
open PySem PySem.Spec PyProof.Rows
section
variable {X:Cx}
end
theorem lookup_relabel_any {env:Env} {x:Str} {k:NameKind}:∀ {names:List (Str × NameKind)},
  (names.map fun (n,k)=>if (k == NameKind.free && env.scope.kind == .function && env.kindOf n == some .cell) then (n,NameKind.cell) else (n,k)).lookup x=some k→names.lookup x=some k∨(names.lookup x=some .free∧k=.cell)
 | [],h=>by simp at h
 | (n,k0) :: r,h=>by
  have ih:=@lookup_relabel_any env x k r
  rw [List.map_cons] at h
  have h:List.lookup x ((if (k0 == NameKind.free && env.scope.kind == .function && env.kindOf n == some .cell)=true then (n,NameKind.cell) else (n,k0)) :: _)=some k:=h
  by_cases hc:(k0 == NameKind.free && env.scope.kind == .function && env.kindOf n == some .cell)=true
  ·rw [if_pos hc,List.lookup_cons] at h
   rw [List.lookup_cons]
   cases hx:x == n with
   | true =>
    rw [hx] at h
    have e:NameKind.cell=k:=Option.some.inj h
    subst e
    have e0:k0=.free:=by
     rw [Bool.and_eq_true,Bool.and_eq_true] at hc
     exact eq_of_beq hc.1.1
    subst e0
    exact .inr ⟨rfl,rfl⟩
   | false =>
    rw [hx] at h
    exact ih h
  ·rw [if_neg hc,List.lookup_cons] at h
   rw [List.lookup_cons]
   cases hx:x == n with
   | true =>
    rw [hx] at h
    exact .inl h
   | false =>
    rw [hx] at h
    exact ih h
theorem lookup_relabel {csc:Scope} {env:Env} {x:Str} {k:NameKind} (h:(relabel csc env).names.lookup x=some k):csc.names.lookup x=some k∨(csc.names.lookup x=some .free∧k=.cell):=lookup_relabel_any h
theorem closure_of {csc:Scope} {env:Env} (h:∀ y∈csc.names,y.2=.free→∃ c,env.cells.lookup y.1=some c) :
  ∃ cl,closureFor csc env=pure cl∧(∀ x c,cl.lookup x=some c→env.cells.lookup x=some c)∧∀ y∈csc.names,y.2=.free→∃ c,cl.lookup y.1=some c:=by
 have key:∀ (body:Str × NameKind→List (Str × Addr)→Sem (ForInStep (List (Str × Addr)))),
   (∀ n k acc,body (n,k) acc=if (k == .free)=true then (cellOf env n >>= fun c=>pure (ForInStep.yield ((n,c) :: acc))) else pure (ForInStep.yield acc)) →
   ∀ (l:List (Str × NameKind)) (acc:List (Str × Addr)),(∀ y∈l,y.2=.free→∃ c,env.cells.lookup y.1=some c)→(∀ x c,acc.lookup x=some c→env.cells.lookup x=some c) →
   ∃ cl,(forIn l acc body:Sem (List (Str × Addr)))=pure cl∧(∀ x c,cl.lookup x=some c→env.cells.lookup x=some c)∧(∀ y∈l,y.2=.free→∃ c,cl.lookup y.1=some c)∧∀ x c,acc.lookup x=some c→∃ c',cl.lookup x=some c':=by
  intro body hb l
  induction l with
  | nil =>
   intro acc _ ha
   exact ⟨acc,rfl,ha,fun y hy=>(nomatch hy),fun x c e=>⟨c,e⟩⟩
  | cons p r ih =>
   intro acc hl ha
   obtain ⟨n,k⟩:=p
   have hr:∀ y∈r,y.2=.free→∃ c,env.cells.lookup y.1=some c:=fun y hy=>hl y (List.mem_cons_of_mem _ hy)
   by_cases hk:k=.free
   ·subst hk
    obtain ⟨c,hc⟩:=hl (n,.free) List.mem_cons_self rfl
    have ha':∀ x d,((n,c) :: acc).lookup x=some d→env.cells.lookup x=some d:=fun x d e=>by
     rw [List.lookup_cons] at e
     cases hx:x == n with
     | true =>
      rw [hx] at e
      have e1:c=d:=Option.some.inj e
      subst e1
      rw [eq_of_beq hx]
      exact hc
     | false =>
      rw [hx] at e
      exact ha x d e
    obtain ⟨cl,e1,e2,e3,e4⟩:=ih ((n,c) :: acc) hr ha'
    refine ⟨cl,?_,e2,fun y hy hf=>?_,fun x d e=>?_⟩
    ·rw [List.forIn_cons,hb,if_pos (by rfl)]
     have ec:cellOf env n=pure c:=by
      unfold cellOf
      rw [hc]
     rw [ec]
     exact e1
    ·rcases List.mem_cons.mp hy with e | hy
     ·subst e
      exact e4 n c (by rw [List.lookup_cons,beq_self_eq_true])
     ·exact e3 y hy hf
    ·cases hx:x == n with
     | true=>exact e4 x c (by rw [List.lookup_cons,hx])
     | false=>exact e4 x d (by rw [List.lookup_cons,hx]; exact e)
   ·obtain ⟨cl,e1,e2,e3,e4⟩:=ih acc hr ha
    refine ⟨cl,?_,e2,fun y hy hf=>?_,e4⟩
    ·have hk':(k == NameKind.free)=false:=by simpa using hk
     rw [List.forIn_cons,hb,hk',if_neg Bool.false_ne_true]
     exact e1
    ·rcases List.mem_cons.mp hy with e | hy
     ·subst e
      exact absurd hf hk
     ·exact e3 y hy hf
 obtain ⟨cl,e1,e2,e3,_⟩:=key (fun p acc=>if (p.2 == .free)=true then (cellOf env p.1 >>= fun c=>pure (ForInStep.yield ((p.1,c) :: acc))) else pure (ForInStep.yield acc)) (fun n k acc=>rfl) csc.names [] h (fun x c e=>by simp at e)
 refine ⟨cl,?_,e2,e3⟩
 have e4:closureFor csc env=(forIn csc.names [] (fun p acc=>if (p.2 == .free)=true then (cellOf env p.1 >>= fun c=>pure (ForInStep.yield ((p.1,c) :: acc))) else pure (ForInStep.yield acc)) >>= fun cs=>pure cs):=rfl
 rw [e4,e1]
 rfl
structure CompScope (sc:Scope) (N NB M:List Str) (csc:Scope):Prop where
 kind:csc.kind=.function
 nocell:∀ y∈csc.names,y.2≠.cell
 locs:∀ y∈csc.names,y.2=.local→csc.names.lookup y.1=some .local
 free:∀ y∈csc.names,y.2=.free→sc.names.lookup y.1=some .cell∨sc.names.lookup y.1=some .free
 nd:NB.Nodup
 len:NB.length=N.length+M.length
 old:∀ p∈N.zip NB,csc.names.lookup p.2≠some .local∧(csc.names.lookup p.2=none∨p.1=p.2)
theorem CompScope.at {sc:Scope} {N NB M:List Str} {csc:Scope} (S:CompScope sc N NB M csc) {i:Nat} {x:Str} (e:NB[i]?=some x) (hi:i < N.length):csc.names.lookup x≠some .local∧(csc.names.lookup x≠none→N[i]?=some x):=by
 have e1:N[i]?=some N[i]:=List.getElem?_eq_getElem hi
 have hm:(N[i],x)∈N.zip NB:=by
  apply List.mem_of_getElem? (i:=i)
  rw [List.getElem?_zip_eq_some]
  exact ⟨e1,e⟩
 obtain ⟨h1,h2⟩:=S.old _ hm
 refine ⟨h1,fun hn=>?_⟩
 rcases h2 with h2 | h2
 ·exact absurd h2 hn
 ·rw [e1]
  exact congrArg some h2
def cxC (X:Cx) (NB:List Str) (csc:Scope) (cl:List (Str × Addr)) (C:Addr) (s₀:Shared) (H₀:Hp) (fp:List Addr) (pn:List (Addr × Obj)):Cx where
 prog:=X.prog
 w:=X.w
 K:=X.K
 mg:=X.mg
 base:=X.base
 A:=X.A
 N:=NB
 s₀:=s₀
 H₀:=H₀
 env:=compEnvC csc cl C X.env
 outer:=X.stack
 stack:=X.stack
 ex:=fp
 fn:=fun _=>false
 calm:=X.calm
 pn:=pn
 xe:=fun _ _=>False
section
variable {X:Cx} {pins:List (Addr × Obj)} {σ:St} {H₀:Hp} {s₀:Shared} {NB M:List Str} {csc:Scope} {cl:List (Str × Addr)} {fp:List Addr}
theorem comp_start {h₁:Heap} {tk:Nat} {m:Str→Option Value} (S:CompScope X.env.scope X.N NB M csc) (I:Inv X pins σ H₀ s₀) (hf:∀ b∈fp,FpOk X pins H₀ b) (hlt:∀ b∈fp,b < s₀.heap.objs.size)
  (c1:∀ x c,cl.lookup x=some c→X.env.cells.lookup x=some c) (c2:∀ y∈csc.names,y.2=.free→∃ c,cl.lookup y.1=some c)
  (hn:h₁.Ns s₀.heap.objs.size m) (hk:∀ b o,s₀.heap.get? b=some o→h₁.get? b=some o) :
  Inv (cxC X NB csc cl s₀.heap.objs.size s₀ H₀ fp (X.pn++pins)) [] (σ++List.replicate M.length none) H₀ { s₀ with heap:=h₁,toks:=tk }:=by
 have kindB:∀ x,((relabel csc X.env).names.lookup x=some .cell∨(relabel csc X.env).names.lookup x=some .free)→csc.names.lookup x=some .free:=fun x hx=>by
  rcases hx with hx | hx
  ·rcases lookup_relabel hx with z | ⟨z,_⟩
   ·exact absurd rfl (S.nocell _ (PySem.mem_of_lookup z))
   ·exact z
  ·rcases lookup_relabel hx with z | ⟨z,_⟩
   ·exact z
   ·exact z
 have hasC:∀ x,csc.names.lookup x=some .free→∃ c,cl.lookup x=some c:=fun x hx=>c2 (x,.free) (PySem.mem_of_lookup hx) rfl
 refine ⟨⟨I.ok.mod,S.kind,I.ok.glob,I.ok.blt,Nat.le_refl _,fun x y c h1 h2=>I.ok.inj x y c (c1 x c h1) (c1 y c h2),fun x hx=>hasC x (kindB x hx),fun x c h _=>absurd h Bool.false_ne_true,I.ok.hd,I.ok.frames,.inl rfl,
   fun b hb=>⟨Nat.ne_of_lt (hlt b hb),fun x c e=>(hf b hb).2.2.2.2.1 x c (c1 x c e)⟩,I.bs,Nat.le_trans I.ok.bsz I.sz,fun b o e hb=>?_,fun b hb z=>?_,I.stack,I.stkFree⟩,
  rfl,I.bare,Un.kept hk,⟨m,hn,fun i x v e1 e2 e3=>?_⟩,fun x c e=>?_,I.fresh,fun x c e=>I.freeC x c (c1 x c e),fun p hp=>?_,I.hok.kept hk,?_⟩
 ·rcases (hf b hb).2.2.2.1 with z | z
  ·exact I.ok.noex b o e z
  ·exact absurd (Nat.lt_of_lt_of_le (Heap.lt_size e) (Nat.le_trans I.ok.bsz z)) (Nat.lt_irrefl _)
 ·rcases List.mem_cons.mp (I.stkSub b z) with e | e
  ·exact (hf b hb).2.1 e
  ·exact (hf b hb).2.2.1 e
 ·have hlen:=I.len
  have hi:i < X.N.length:=by
   apply Classical.byContradiction
   intro hi
   rw [List.getElem?_append_right (by lia),List.getElem?_replicate] at e2
   split at e2 <;> cases e2
  have e2':σ[i]?=some (some v):=by
   rw [List.getElem?_append_left (by lia)] at e2
   exact e2
  obtain ⟨nl,hN⟩:=S.at e1 hi
  have hfree:csc.names.lookup x=some .free:=by
   rcases e3 with z | z
   ·rcases lookup_relabel (show (relabel csc X.env).names.lookup x=some .local from z) with q | ⟨_,q⟩
    ·exact absurd q nl
    ·cases q
   ·exact kindB x z
  have hN':=hN (by rw [hfree]; intro z; cases z)
  have ok:=S.free (x,.free) (PySem.mem_of_lookup hfree) rfl
  obtain ⟨m',hn',hl⟩:=I.loc
  obtain ⟨u,r,l⟩:=hl i x v hN' e2' (.inr ok)
  rcases l with ⟨k,_⟩ | ⟨_,c,hc,hcell⟩
  ·have k':X.env.scope.names.lookup x=some .local:=k
   rcases ok with z | z
   ·rw [show X.env.scope.names.lookup x=some .cell from z] at k'
    cases k'
   ·rw [show X.env.scope.names.lookup x=some .free from z] at k'
    cases k'
  ·obtain ⟨c',hc'⟩:=hasC x hfree
   have ec:c'=c:=by
    have:=c1 x c' hc'
    rw [hc] at this
    exact (Option.some.inj this).symm
   subst ec
   obtain ⟨o,ho,hd⟩:=hcell
   refine ⟨u,r,.inr ⟨?_,c',hc',o,hk _ _ ho,hd⟩⟩
   rcases e3 with z | z
   ·rcases lookup_relabel (show (relabel csc X.env).names.lookup x=some .local from z) with q | ⟨_,q⟩
    ·exact absurd q nl
    ·cases q
   ·exact z
 ·obtain ⟨v,o,ho,hd⟩:=I.cell x c (c1 x c e)
  exact ⟨v,o,hk _ _ ho,hd⟩
 ·have hp':p∈(X.pn++pins)++[]:=hp
  rw [List.append_nil] at hp'
  obtain ⟨e,n,ne,nf,d⟩:=I.pin p hp'
  exact ⟨hk _ _ e,n,Nat.ne_of_lt (Heap.lt_size e),fun z=>(List.mem_cons.mp (I.stkSub _ z)).elim ne nf,d⟩
 ·rw [List.length_append,List.length_replicate,I.len]
  exact S.len.symm
theorem comp_end {τ:St} {H:Hp} {s:Shared} {pins':List (Addr × Obj)} (I:Inv X pins σ H₀ s₀) (hf:∀ b∈fp,FpOk X pins H₀ b) (B:Inv (cxC X NB csc cl s₀.heap.objs.size s₀ H₀ fp (X.pn++pins)) pins' τ H s) :
  Inv X pins σ H s∧FpOk X pins H s₀.heap.objs.size :=
 ⟨I.call' (ch:=fp) B.os B.base B.hok B.bare fun b hb=>⟨(hf b hb).2.2.2.1,(hf b hb).2.1,(hf b hb).2.2.2.2.1,(hf b hb).2.2.2.2.2⟩,I.fpOk (Nat.le_refl _) B.free⟩
end
theorem codeAny_compLoop_own {prog:Program} {w:World} {A:Around} {R:Result→Shared→Prop} {s:Shared} {elt target iter:Expr} {ifs:List Expr} {scope:Scope} {pos:Pos} {it acc:Value} {env:Env} (I:Nat→Shared→Prop)
  (turn:∀ n s,I n s→wpAny (model prog w) A (pyNext it) (fun r s₁=>match r with
   | none=>R (.ok .next) s₁
   | some v=>wpAny (model prog w) A (letOwnedTupleGo target it v) (fun _ s₁'=>wpAny (model prog w) A (assign target env v) (fun _ s₂ =>
     wpAny (model prog w) A (forIn ifs true fun c r=>if r=true then do let ok ← isTrue c env (eval c env); pure (ForInStep.yield ok) else pure (ForInStep.yield r)) (fun ok s₃ =>
      if ok=true then wpAny (model prog w) A (eval elt env) (fun x s₄ =>
       wpAny (model prog w) A (call (.builtin "list.append") [acc,x]) (fun _ s₅=>∃ m,m < n∧I m s₅) (notedBy (model prog w) A env fun e s'=>R (.error e) s') s₄) (notedBy (model prog w) A env fun e s'=>R (.error e) s') s₃
      else ∃ m,m < n∧I m s₃) (notedBy (model prog w) A env fun e s'=>R (.error e) s') s₂) (notedBy (model prog w) A env fun e s'=>R (.error e) s') s₁') (notedBy (model prog w) A env fun e s'=>R (.error e) s') s₁)
    (notedBy (model prog w) A env fun e s'=>R (.error e) s') s)
  (n:Nat) (h:I n s):codeAny (model prog w) A (.compLoop (.ListComp elt [⟨target,iter,ifs,0⟩] scope pos) 0 it acc env) R s:=by
 refine codeAny_loop rfl I (fun n s hI=>?_) n h
 show wpAny _ A ((compTurn (.ListComp elt [⟨target,iter,ifs,0⟩] scope pos) 0 it acc env).onRaise (fun x=>do noteFrame x env; theTreesLotGoes x)) _ _ s
 refine wpAny_noted ?_
 rw [compTurn_list]
 refine wpAny_bind (wpAny_standAt (wpAny_bind (wpAny_mono (turn n s hI) (fun r s₁ h₁=>?_) fun _ _ h'=>h')))
 cases r with
 | none=>exact wpAny_pure h₁
 | some v =>
  refine wpAny_bind (wpAny_mono h₁ (fun _ s₁' h₁'=>?_) fun _ _ h'=>h')
  refine wpAny_bind (wpAny_mono h₁' (fun _ s₂ h₂=>wpAny_bind (wpAny_mono h₂ (fun ok s₃ h₃=>?_) fun _ _ h'=>h')) fun _ _ h'=>h')
  cases ok with
  | false=>exact wpAny_pure ⟨rfl,h₃⟩
  | true =>
   exact wpAny_bind (wpAny_bind (wpAny_mono h₃ (fun x s₄ h₄=>wpAny_bind (wpAny_mono h₄ (fun _ s₅ h₅=>wpAny_pure (wpAny_pure ⟨rfl,h₅⟩)) fun _ _ h'=>h')) fun _ _ h'=>h'))
abbrev TF:=St→Hp→(Hp→Prop)→(Hp→Prop)→Prop
def PF (X:Cx) (ifs:List Expr) (t:TF):Prop :=
 ∀ (pins:List (Addr × Obj)) (s:Shared) (σ:St) (H:Hp) (Y N:Hp→Prop),Inv X pins σ H s→t σ H Y N →
  wpAny (model X.prog X.w) X.A (forIn ifs true fun c r=>if r=true then do let ok ← isTrue c X.env (eval c X.env); pure (ForInStep.yield ok) else pure (ForInStep.yield r)) (fun b s'=>∃ H',Inv X pins σ H' s'∧if b=true then Y H' else N H') X.xe s
def fNil:TF:=fun _ H Y _=>Y H
def fOne (tc:TT):TF:=fun σ H Y N=>tc σ H fun b H1=>if b=true then Y H1 else N H1
theorem pif_nil {X:Cx}:PF X [] fNil:=fun _ _ _ H _ _ I h=>wpAny_tests_nil ⟨H,I,iteT h⟩
theorem pif_one {X:Cx} {c:Expr} {tc:TT} (hc:PT X c tc):PF X [c] (fOne tc):=fun pins s σ H _ _ I h =>
 wpAny_tests_one (thn (hc pins s σ H _ I h) fun _ _ ⟨H1,I1,q⟩=>⟨H1,I1,q⟩)
def tComp (wi:TI) (g:TG) (ti:TF) (te:TE) (k:Nat):TE:=fun σ H Q=>wi σ H fun J H1=>∀ p,H1 p=none→∃ W:Nat→Nat→St→List V→Hp→Prop,(∃ m,W 0 m (σ++List.replicate k none) [] (upd H1 p (.lst [])))∧∀ i m τ xs H,W i m τ xs H →
 (J.stop i H∧Q (.ref p) H)∨(J.go i H∧∀ x H',J.yld i H x H'→g x τ H' fun τ2 H2=>ti τ2 H2 (fun H3=>te τ2 H3 fun v H4=>H4 p=some (.lst xs)∧xs.length < sizeLine∧∃ m',m' < m∧W (i+1) m' τ2 (xs++[v]) (upd H4 p (.lst (xs++[v]))))
  (fun H3=>∃ m',m' < m∧W (i+1) m' τ2 xs H3))
def PCp (X:Cx) (e:Expr) (t:TE):Prop:=∃ elt tg iter ifs csc pos,e=.ListComp elt [⟨tg,iter,ifs,0⟩] csc pos ∧
 ∀ (ppos:Pos) (use:Option (Value→Sem Unit)) (R:Value→Shared→Prop) (pins:List (Addr × Obj)) (s:Shared) (σ:St) (H:Hp) (Q:VK),Inv X pins σ H s→t σ H Q →
  (∀ (D C:Addr) (s':Shared) (H':Hp),Inv X pins σ H' s'→FpOk X pins H' C→(∃ m,s'.heap.Ns C m)→Q (.ref D) H'→compPost (model X.prog X.w) X.A X.xe use R (.ref D) C (.ok .next) s') →
  wpAny (model X.prog X.w) X.A (comprehension (.ListComp elt [⟨tg,iter,ifs,0⟩] csc pos) csc X.env ppos (newList []) false (eval iter X.env) use) R X.xe s
section
variable {X:Cx}
theorem pc_comp {tg iter elt:Expr} {ifs:List Expr} {csc:Scope} {pos:Pos} {NB M:List Str} {wi:TI} {g:TG} {ti:TF} {te:TE} (hi:PI X tg iter wi) (hc:X.calm=true) (S:CompScope X.env.scope X.N NB M csc)
  (hg:∀ cl C s₀ H₀ fp pn,PG (cxC X NB csc cl C s₀ H₀ fp pn) tg g) (hf:∀ cl C s₀ H₀ fp pn,PF (cxC X NB csc cl C s₀ H₀ fp pn) ifs ti) (he:∀ cl C s₀ H₀ fp pn,PE (cxC X NB csc cl C s₀ H₀ fp pn) elt te)
  (hs:∀ x,foldedSetIterable iter X.env x=pure x:=by intro _; rfl):PCp X (.ListComp elt [⟨tg,iter,ifs,0⟩] csc pos) (tComp wi g ti te M.length):=by
 refine ⟨elt,tg,iter,ifs,csc,pos,rfl,fun ppos use R pins s σ H Q I h fin=>?_⟩
 have hcell:∀ y∈csc.names,y.2=.free→∃ c,X.env.cells.lookup y.1=some c:=fun y hy hfr=>I.ok.has y.1 (S.free y hy hfr)
 obtain ⟨cl,hcl,c1,c2⟩:=closure_of hcell
 refine wpAny_comprehension_free rfl hs hcl S.kind S.locs ?_
 refine thn (hi pins s σ H _ I h) fun v s1 h1=>thn h1 fun itv s2 h2=>?_
 obtain ⟨it,fp,tn,J,H2,e,I2,T,st2,f2,h2⟩:=h2
 subst e
 have hlt2:∀ b∈fp,b < s2.heap.objs.size:=fun b hb=>let ⟨_,e,_⟩:=T.obj _ _ st2 b hb; Heap.lt_size e
 refine wpAny_newObj_type (wpAny_newFunctionEnv S.nocell (by intro y hy; simp at hy) (fun h₁ hns₁ hsb₁=>?_) S.kind)
 dsimp only at hns₁ hsb₁ ⊢
 have I0:Inv X pins σ (upd H2 s2.heap.objs.size (.lst [])) { s2 with heap:=s2.heap.push { cls:=.type "list",dict:=none,data:=.seq ([]:List Value).toArray } }:=I2.lnew (its:=[]) (t':=s2.toks) .nil (Nat.zero_le _)
 generalize hs0:({ s2 with heap:=s2.heap.push { cls:=.type "list",dict:=none,data:=.seq ([]:List Value).toArray } }:Shared)=s₀ at I0
 have hh:s2.heap.push { cls:=.type "list",dict:=none,data:=.seq ([]:List Value).toArray }=s₀.heap:=by rw [← hs0]
 rw [hh] at hns₁ hsb₁ ⊢
 have hsz:s2.heap.objs.size < s₀.heap.objs.size:=by rw [← hh,Heap.size_push]; exact Nat.lt_succ_self _
 have hDn:H2 s2.heap.objs.size=none:=I2.fresh
 have f0:∀ b∈fp,FpOk X pins (upd H2 s2.heap.objs.size (.lst [])) b:=fun b hb=>⟨by rw [upd_ne (Nat.ne_of_lt (hlt2 b hb))]; exact (f2 b hb).1,(f2 b hb).2⟩
 have hlt:∀ b∈fp,b < s₀.heap.objs.size:=fun b hb=>Nat.lt_trans (hlt2 b hb) hsz
 have hk:∀ b o,s₀.heap.get? b=some o→h₁.get? b=some o:=fun b o e=>hsb₁.extBut b o (Nat.ne_of_lt (Heap.lt_size e)) (Heap.get?_push_of_some _ e)
 have hk2:∀ b o,s2.heap.get? b=some o→h₁.get? b=some o:=fun b o e=>hk b o (by rw [← hh]; exact Heap.get?_push_of_some _ e)
 have st1:tn 0 h₁:=T.keep _ _ _ st2 fun b _ o e=>hk2 b o e
 obtain ⟨W,⟨m0,w0⟩,turn⟩:=h2 s2.heap.objs.size hDn
 have loop:∀ s₃:Shared,s₃={ s₀ with heap:=h₁,toks:=s2.toks+([]:List (Str × Value)).length } →
   codeAny (model X.prog X.w) X.A (.compLoop (.ListComp elt [⟨tg,iter,ifs,0⟩] csc pos) 0 (.ref it) (.ref s2.heap.objs.size) (compEnvC csc cl s₀.heap.objs.size X.env))
    (compPost (model X.prog X.w) X.A X.xe use R (.ref s2.heap.objs.size) s₀.heap.objs.size) s₃:=by
  rintro s₃ rfl
  have B0:=comp_start (cl:=cl) (tk:=s2.toks+([]:List (Str × Value)).length) S I0 f0 hlt c1 c2 hns₁ hk
  have fpB:∀ {H':Hp},(∀ b∈fp,H' b=none)→∀ b∈fp,FpOk (cxC X NB csc cl s₀.heap.objs.size s₀ (upd H2 s2.heap.objs.size (.lst [])) fp (X.pn++pins)) [] H' b:=fun {H'} hn b hb =>
   ⟨hn b hb,Nat.ne_of_lt (hlt b hb),B0.ok.exfs b hb,.inl hb,fun x c e=>(f0 b hb).2.2.2.2.1 x c (c1 x c e),fun p hp=>(f0 b hb).2.2.2.2.2 p (by
    have hp':p∈(X.pn++pins)++[]:=hp
    rw [List.append_nil] at hp'
    exact hp')⟩
  refine codeAny_compLoop_own (fun n s'=>∃ i τ xs H',Inv (cxC X NB csc cl s₀.heap.objs.size s₀ (upd H2 s2.heap.objs.size (.lst [])) fp (X.pn++pins)) [] τ H' s'∧tn i s'.heap∧(∀ b∈fp,H' b=none)∧W i n τ xs H') ?_ m0
   ⟨0,_,[],_,B0,st1,fun b hb=>(f0 b hb).1,w0⟩
  rintro n s3 ⟨i,τ,xs,H3,I3,st3,fr3,w3⟩
  rcases turn i n τ xs H3 w3 with ⟨stop,q⟩ | ⟨go,step⟩
  ·refine thn (T.done (cxC X NB csc cl s₀.heap.objs.size s₀ (upd H2 s2.heap.objs.size (.lst [])) fp (X.pn++pins)) rfl rfl rfl hc i [] s3 τ H3 _ I3 (fpB fr3) st3 stop) fun r s4 ⟨hr,I4⟩=>?_
   subst hr
   obtain ⟨IX,fpC⟩:=comp_end I0 f0 I4
   exact fin _ _ s4 H3 IX fpC (let ⟨m,hn,_⟩:=I4.loc; ⟨m,hn⟩) q
  ·refine thn (T.item (cxC X NB csc cl s₀.heap.objs.size s₀ (upd H2 s2.heap.objs.size (.lst [])) fp (X.pn++pins)) rfl rfl rfl hc i [] s3 τ H3 _ I3 (fpB fr3) st3 go) fun r s4 ⟨u,hr,h4⟩=>?_
   subst hr
   refine thn h4 fun _ s5 ⟨x,H5,I5,r5,y5,st5,fr5⟩=>?_
   have I5':=I5.pinned (fpB fr5) (T.obj _ _ st5)
   refine wpAny_mono (hg _ _ _ _ _ _ _ s5 τ H5 x u _ I5' r5 (step x H5 y5)) (fun _ s6 ⟨τ6,H6,I6,q6⟩=>?_) fun _ _ z=>False.elim z
   refine wpAny_mono (hf _ _ _ _ _ _ _ s6 τ6 H6 _ _ I6 q6) (fun b s7 ⟨H7,I7,q7⟩=>?_) fun _ _ z=>False.elim z
   have again:∀ {τ7:St} {H7:Hp} {s7:Shared} {ys:List V},Inv (cxC X NB csc cl s₀.heap.objs.size s₀ (upd H2 s2.heap.objs.size (.lst [])) fp (X.pn++pins)) ([]++pinsAt fp s5.heap) τ7 H7 s7→(∃ m',m' < n∧W (i+1) m' τ7 ys H7) →
     ∃ m,m < n∧∃ i τ xs H',Inv (cxC X NB csc cl s₀.heap.objs.size s₀ (upd H2 s2.heap.objs.size (.lst [])) fp (X.pn++pins)) [] τ H' s7∧tn i s7.heap∧(∀ b∈fp,H' b=none)∧W i m τ xs H':=fun {τ7 H7 s7 ys} I7 w7=>by
    obtain ⟨m',hm,w7⟩:=w7
    refine ⟨m',hm,i+1,τ7,ys,H7,I7.unpinned,T.keep _ _ _ st5 fun b hb o e=>(I7.pin (b,o) (List.mem_append_right _ (List.mem_append_right _ (mem_pinsAt hb e)))).1,fun b hb=>?_,w7⟩
    obtain ⟨o,e,d⟩:=T.obj _ _ st5 b hb
    exact (I7.pin (b,o) (List.mem_append_right _ (List.mem_append_right _ (mem_pinsAt hb e)))).2.1
   cases b with
   | false=>exact again I7 q7
   | true =>
    have q7':te τ6 H7 _:=q7
    refine wpAny_mono (he _ _ _ _ _ _ _ s7 τ6 H7 _ I7 q7') (fun y s8 ⟨v8,H8,I8,r8,hl8,hz8,w8⟩=>?_) fun _ _ z=>False.elim z
    refine wpAny_mono (mt_append (X:=(cxC X NB csc cl s₀.heap.objs.size s₀ (upd H2 s2.heap.objs.size (.lst [])) fp (X.pn++pins))) _ s8 τ6 H8 (.ref s2.heap.objs.size) [v8] (.ref s2.heap.objs.size) [y] (fun _ H9=>H9=upd H8 s2.heap.objs.size (.lst (xs++[v8]))) I8 rfl (.cons r8 .nil) ⟨_,xs,v8,rfl,rfl,hl8,hz8,rfl⟩) (fun _ s9 ⟨_,H9,I9,_,e9⟩=>?_) fun _ _ z=>False.elim z
    subst e9
    exact again I9 w8
 exact codeAny_compStart_list (loop _ (by rw [← hs0])) (T.self _ _ _ _ _ st1 (loop _ (by rw [← hs0])))
theorem PCp.pe {e:Expr} {t:TE} (h:PCp X e t):PE X e t:=by
 obtain ⟨elt,tg,iter,ifs,csc,pos,rfl,h⟩:=h
 intro pins s σ H Q I hw
 rw [eval_ListComp]
 refine h _ none (EP X pins σ Q) pins s σ H Q I hw fun D C s' H' IX fpC ⟨m,hn⟩ q=>⟨m,hn,fun h' hs=>?_⟩
 exact ⟨.ref D,H',IX.turned (t':=s'.toks) (fun b o hb e=>(hs.2 b hb).trans e) fpC.1 fpC.2.1 fpC.2.2.2.1 fpC.2.2.2.2.1 fpC.2.2.2.2.2,rfl,q⟩
theorem ps_setC {i:Nat} {x:Str} {e:Expr} {te:TE} {pos' pos:Pos} (hN:X.N.Nodup) (hi:X.N[i]?=some x) (hx:Loc X.env.scope x) (he:PCp X e te) (hsw:swapsWith e (some (.Name x pos')) pos.line X.env=pure true:=by rfl)
  (hf:X.fn x=true∨X.env.scope.names.lookup x=some .local:=by first | exact .inl rfl | exact .inr rfl | assumption):PS X (.Assign [.Name x pos'] e pos) (tAsg te (gName i)):=by
 obtain ⟨elt,tg,iter,ifs,csc,cpos,rfl,h⟩:=he
 intro pins s σ H D I hw
 rw [exec_Assign_Name_used _ _ _ _ hsw]
 refine wpAny_bind (wpAny_standAt (wpAny_bind ?_))
 show wpAny _ X.A (do let _ ← comprehension (.ListComp elt [⟨tg,iter,ifs,0⟩] csc cpos) csc X.env _ (newList []) false (eval iter X.env) (some (assign (.Name x pos') X.env))) _ _ s
 refine wpAny_bind (wpAny_mono (h _ (some (assign (.Name x pos') X.env)) (fun _ s'=>SP X pins D .next s') pins s σ H _ I hw ?_) (fun _ s' hq=>wpAny_pure (wpAny_pure hq)) fun _ _ e=>e)
 intro Dl C s' H' IX fpC ⟨m,hn⟩ q
 show wpAny _ X.A (assign (.Name x pos') X.env (.ref Dl)) _ _ s'
 refine wpAny_assign_Name (store_ok2 IX hN hi hx (v:=.ref Dl) rfl (fun s2 I2 ⟨a,sb,ha⟩=>?_) hf)
 have hne:C≠a:=by
  rcases ha with e | e
  ·rw [e]
   exact fpC.2.1
  ·exact Ne.symm (fpC.2.2.2.2.1 x a e)
 refine ⟨m,hn.sameBut sb hne,fun h' hs=>?_⟩
 exact ⟨_,H',I2.turned (t':=s2.toks) (fun b o hb e=>(hs.2 b hb).trans e) fpC.1 fpC.2.1 fpC.2.2.2.1 fpC.2.2.2.2.1 fpC.2.2.2.2.2,q⟩
end
end L2
namespace L2
open PySem PySem.Spec PyProof.Rows
structure QE (X:Cx) (e:Expr) (t:TE):Prop where
 u:PE X e t
structure QT (X:Cx) (e:Expr) (t:TT):Prop where
 u:PT X e t
structure QW (X:Cx) (e:Expr) (t:TT):Prop where
 u:PW X e t
structure QA (X:Cx) (es:List Expr) (t:TA):Prop where
 u:PA X es t
structure QS (X:Cx) (st:Stmt) (t:TS):Prop where
 u:PS X st t
structure QSs (X:Cx) (st:List Stmt) (t:TS):Prop where
 u:PSs X st t
structure QI (X:Cx) (tg iter:Expr) (t:TI):Prop where
 u:PI X tg iter t
structure QG (X:Cx) (tg:Expr) (t:TG):Prop where
 u:PG X tg t
structure QGs (X:Cx) (ts:List Expr) (t:TGs):Prop where
 u:PGs X ts t
structure QO (X:Cx) (e:Option Expr) (t:TO):Prop where
 u:PO X e t
structure QF (X:Cx) (ifs:List Expr) (t:TF):Prop where
 u:PF X ifs t
structure QC (X:Cx) (e:Expr) (t:TE):Prop where
 u:PCp X e t
section
variable {X:Cx} {st:Stmt} {rest:List Stmt} {t u:TS} {a b c e o i:Expr} {ta tb tc te to ti:TE} {es:List Expr} {tA:TA} {tT tU:TT} {pos pos' p p2 apos cpos:Pos} {x name:Str} {n:Nat}
theorem qss_nil:QSs X [] tNext:=⟨pss_nil⟩
theorem qss_one (h:QS X st t):QSs X [st] t:=⟨pss_one h.u⟩
theorem qss_cons (h:QS X st t) (r:QSs X rest u):QSs X (st :: rest) (tSeq t u):=⟨pss_cons h.u r.u⟩
theorem qs_expr (h:QE X e te) (hs:swapsWith e none pos.line X.env=pure false:=by rfl):QS X (.Expr e pos) (tDrop te):=⟨ps_expr h.u hs⟩
theorem qs_ret (h:QE X e te):QS X (.Return (some e) pos) (tRet te):=⟨ps_ret h.u⟩
theorem qs_if {a b:List Stmt} (hc:QT X c tT) (ha:QSs X a t) (hb:QSs X b u):QS X (.If c a b pos) (tIfS tT t u):=⟨ps_if hc.u ha.u hb.u⟩
theorem qs_set {i:Nat} (hN:X.N.Nodup) (hi:X.N[i]?=some x) (hx:Loc X.env.scope x) (h:QE X e te) (hs:swapsWith e (some (.Name x pos')) pos.line X.env=pure false:=by rfl)
  (hf:X.fn x=true∨X.env.scope.names.lookup x=some .local:=by first | exact .inl rfl | exact .inr rfl | assumption):QS X (.Assign [.Name x pos'] e pos) (tAsg te (gName i)):=⟨ps_set hN hi hx h.u hs hf⟩
theorem qs_setC {i:Nat} (hN:X.N.Nodup) (hi:X.N[i]?=some x) (hx:Loc X.env.scope x) (h:QC X e te) (hs:swapsWith e (some (.Name x pos')) pos.line X.env=pure true:=by rfl)
  (hf:X.fn x=true∨X.env.scope.names.lookup x=some .local:=by first | exact .inl rfl | exact .inr rfl | assumption):QS X (.Assign [.Name x pos'] e pos) (tAsg te (gName i)):=⟨ps_setC hN hi hx h.u hs hf⟩
theorem qs_asg {tg:Expr} {g:TG} (h:QE X e te) (hg:QG X tg g) (hs:swapsWithSole [tg] e pos.line X.env=pure false:=by rfl) (hw:swappedStores [tg] e X.env=pure none:=by rfl)
  (h1:(assignEach [tg] X.env).map (·.2)=[assign tg X.env]:=by rfl):QS X (.Assign [tg] e pos) (tAsg te g):=⟨ps_asg h.u hg.u hs hw h1⟩
theorem qs_for {tg iter:Expr} {body:List Stmt} {wi:TI} {g:TG} (hp:PassesOwn (model X.prog X.w) X.A X.env X.xe) (hc:X.calm=true) (hi:QI X tg iter wi) (hg:QG X tg g) (hb:QSs X body t)
  (hs:∀ x,foldedSetIterable iter X.env x=pure x:=by intro _; rfl):QS X (.For tg iter body [] pos) (tFor wi g t):=⟨ps_for hp hc hi.u hg.u hb.u hs⟩
theorem qs_while {body:List Stmt} (hp:PassesOwn (model X.prog X.w) X.A X.env X.xe) (hc:QT X c tT) (hb:QSs X body t):QS X (.While c body [] pos) (tWhile tT t):=⟨ps_while hp hc.u hb.u⟩
theorem qe_int {k:Int} {j:Nat}:QE X (.Constant (.int k) j pos) (tC (.int k)):=⟨pe_int⟩
theorem qe_bl {k:Bool} {j:Nat}:QE X (.Constant (.bool k) j pos) (tC (.bl k)):=⟨pe_bl⟩
theorem qe_non {j:Nat}:QE X (.Constant .none j pos) (tC .non):=⟨pe_non⟩
theorem qe_str {z:Str} {j:Nat}:QE X (.Constant (.str z) j pos) (tC (.str z)):=⟨pe_str⟩
theorem qv (i:Nat) (hN:X.N[i]?=some x:=by rfl) (hv:Vis X.env.scope x:=by first | exact Or.inl rfl | exact Or.inr (Or.inl rfl) | exact Or.inr (Or.inr rfl)) (hd:(x == ("__debug__" : Str))=false:=by decide)
  (hcd:(x == ("__classdict__" : Str))=false:=by decide):QE X (.Name x pos) (tVar i):=⟨pe_var hN hv hd hcd⟩
theorem qe_glob {v:V} {w:Value} (hg:Gl X x) (hm:X.mg x=some w) (r:RelV v w) (hd:(x == ("__debug__" : Str))=false:=by decide):QE X (.Name x pos) (tC v):=⟨pe_glob hg hm r hd⟩
theorem qe_bltn {v:V} {w:Value} (hg:Gl X x) (hm:X.mg x=none) (hv:bootBuiltins x=some w) (r:RelV v w) (hn:x≠"__name__" := by decide) (hd:(x == ("__debug__" : Str))=false:=by decide):QE X (.Name x pos) (tC v):=⟨pe_bltn hg hm hv r hn hd⟩
theorem qe_op {op:Operator} {r:R2} (ho:OpR X (binaryOp op) r) (ha:QE X a ta) (hb:QE X b tb):QE X (.BinOp a op b pos) (tOp r ta tb):=⟨pe_op ho ha.u hb.u⟩
theorem qe_un {op:UnaryOp} {r:V→Hp→VK→Prop} (ho:UnR X (unaryOp op) r) (ha:QE X a ta):QE X (.UnaryOp op a pos) (tUn r ta):=⟨pe_un ho ha.u⟩
theorem qe_cmpR {op:CmpOp} {r:R2} (ho:OpR X (compareOp op) r) (ha:QE X a ta) (hb:QE X b tb) (hm:behindInMarks op b=false):QE X (.Compare a [op] [b] pos) (tOp r ta tb):=⟨pe_cmpR ho ha.u hb.u hm⟩
theorem qe_one {op:BoolOp} (h:QE X a ta):QE X (.BoolOp op [a] pos) ta:=⟨pe_one h.u⟩
theorem qe_and (ha:QE X a ta) (hb:QE X (.BoolOp .And (b :: es) pos) tb):QE X (.BoolOp .And (a :: b :: es) pos) (tAndV ta tb):=⟨pe_and ha.u hb.u⟩
theorem qe_or (ha:QE X a ta) (hb:QE X (.BoolOp .Or (b :: es) pos) tb):QE X (.BoolOp .Or (a :: b :: es) pos) (tOrV ta tb):=⟨pe_or ha.u hb.u⟩
theorem qe_ifExp (hc:QT X c tT) (ha:QE X a ta) (hb:QE X b tb):QE X (.IfExp c a b pos) (tIf tT ta tb):=⟨pe_ifExp hc.u ha.u hb.u⟩
theorem qe_tup {k:Nat} (h:QA X es tA):QE X (.Tuple es k pos) (tTup tA):=⟨pe_tup h.u⟩
theorem qe_lst (h:QA X es tA):QE X (.List es pos) (tLst tA):=⟨pe_lst h.u⟩
theorem qe_slice {lo hi:Option Expr} {tl th:TO} {r:V→Option Int→Option Int→Hp→VK→Prop} (hr:SlR X r) (he:QE X e te) (hl:QO X lo tl) (hu:QO X hi th):QE X (.Subscript e (.Slice lo hi none p2) pos) (tSl r te tl th):=⟨pe_slice hr he.u hl.u hu.u⟩
theorem qe_ix {r:R2} (hr:IxR X r) (ha:QE X a ta) (hb:QE X b tb) (hs:PlainIx b):QE X (.Subscript a b pos) (tOp r ta tb):=⟨pe_ix hr ha.u hb.u hs⟩
theorem qo_none:QO X none tNoPart:=⟨po_none⟩
theorem qo_some (h:QE X e te):QO X (some e) (tPart te):=⟨po_some h.u⟩
theorem qa_nil:QA X [] tNil:=⟨pa_nil⟩
theorem qac (ha:QE X e te) (hr:QA X es tA) (hs:plainE e=true:=by rfl):QA X (e :: es) (tCons te tA):=⟨pac ha.u hr.u hs⟩
theorem qe_cal {k:Nat} {ps:List Str} {sp:Sp} (C:Cal X.prog X.w X.K X.mg X.base k x ps sp) (hr:Room k X.A) (hg:Gl X x) (ha:QA X (e :: es) tA) (hp:(e :: es).all plainE=true:=by rfl) (hdb:(x == ("__debug__" : Str))=false:=by decide) :
  QE X (.Call (.Name x p) (e :: es) [] pos) (tCall sp [] E0 tA):=⟨pe_cal C hr hg ha.u hp hdb⟩
theorem qcb {id:String} {r:List V→Hp→VK→Prop} (hc:CallR X (.builtin id) r) (hg:Gl X x) (hm:X.mg x=none) (hv:bootBuiltins x=some (.builtin id)) (ha:QA X (e :: es) tA) (hp:(e :: es).all plainE=true:=by rfl) (hn:x≠"__name__" := by decide)
  (hdb:(x == ("__debug__" : Str))=false:=by decide):QE X (.Call (.Name x p) (e :: es) [] pos) (tCB r tA):=⟨pcb hc hg hm hv ha.u hp hn hdb⟩
theorem qct {T:String} {r:List V→Hp→VK→Prop} (hc:CallR X (.type T) r) (hg:Gl X x) (hm:X.mg x=none) (hv:bootBuiltins x=some (.type T)) (ha:QA X (e :: es) tA) (hp:(e :: es).all plainE=true:=by rfl) (hn:x≠"__name__" := by decide)
  (hdb:(x == ("__debug__" : Str))=false:=by decide):QE X (.Call (.Name x p) (e :: es) [] pos) (tCB r tA):=⟨pct hc hg hm hv ha.u hp hn hdb⟩
theorem qbm {T id:String} {r:V→List V→Hp→VK→Prop} (pa:PlainAttrs T) (slot:Slot T name id) (hty:typeOf (.builtin id)=pure (.type "method_descriptor")) (hm:MtR X id r) (ho:QE X o to) (ha:QA X (e :: es) tA) (hp:(e :: es).all plainE=true:=by rfl)
  (hfew:decide ((e :: es).length < 30)=true:=by rfl) (hbase:attributeBase o name X.env (eval o X.env)=eval o X.env:=by rfl) (hline:(apos.endLine == cpos.line)=true:=by rfl) :
  QE X (.Call (.Attribute o name apos) (e :: es) [] cpos) (tBM X.K T r to tA):=⟨pbm pa slot hty hm ho.u ha.u hp hfew hbase hline⟩
theorem qt_cmpR {op:CmpOp} {r:R2} (ho:OpR X (compareOp op) r) (ha:QE X a ta) (hb:QE X b tb) (hm:behindInMarks op b=false):QT X (.Compare a [op] [b] pos) (tTest (tOp r ta tb)):=⟨pt_cmpR ho ha.u hb.u hm⟩
theorem qt_chain {op op':CmpOp} {r r':R2} (ho:OpR X (compareOp op) r) (ho':OpR X (compareOp op') r') (ha:QE X a ta) (hb:QE X b tb) (hc:QE X c tc) (hm:lastMarks [op,op'] [b,c]=false:=by with_unfolding_all rfl) :
  QT X (.Compare a [op,op'] [b,c] pos) (tTest (tChain r r' ta tb tc)):=⟨pt_chain ho ho' ha.u hb.u hc.u hm⟩
theorem qt_not (h:QT X a tT):QT X (.UnaryOp .Not a pos) (tNot tT):=⟨pt_not h.u⟩
theorem qt_val (h:QE X e te) (he:∀ whole,isTrue e X.env whole=(do let v ← whole; standAt e.pos; holding [v] (truthy v)):=by intro _; rfl):QT X e (tB te):=⟨pt_val h.u he⟩
theorem qw_and1 (h:QT X a tT):QW X (.BoolOp .And [a] pos) tT:=⟨pw_and1 h.u⟩
theorem qw_or1 (h:QT X a tT):QW X (.BoolOp .Or [a] pos) tT:=⟨pw_or1 h.u⟩
theorem qw_and (ha:QT X a tT) (hb:QW X (.BoolOp .And (b :: es) pos) tU):QW X (.BoolOp .And (a :: b :: es) pos) (tAnd tT tU):=⟨pw_and ha.u hb.u⟩
theorem qw_or (ha:QT X a tT) (hb:QW X (.BoolOp .Or (b :: es) pos) tU):QW X (.BoolOp .Or (a :: b :: es) pos) (tOr tT tU):=⟨pw_or ha.u hb.u⟩
theorem qw_t (h:QW X e tT):QT X e tT:=⟨h.u.pt⟩
theorem qrng1 {tg:Expr} (hg:Gl X "range") (hm:X.mg "range" = none) (ha:QA X [a] tA) (hp:plainE a=true:=by rfl):QI X tg (.Call (.Name "range" p) [a] [] pos) (iRng1 tA):=⟨prng1 hg hm ha.u hp⟩
theorem qrng2 {tg:Expr} (hg:Gl X "range") (hm:X.mg "range" = none) (ha:QA X [a,b] tA) (hp:plainE a=true:=by rfl) (hp2:plainE b=true:=by rfl):QI X tg (.Call (.Name "range" p) [a,b] [] pos) (iRng2 tA):=⟨prng2 hg hm ha.u hp hp2⟩
theorem qg_name {i:Nat} (hN:X.N.Nodup) (hi:X.N[i]?=some x) (hx:Loc X.env.scope x) (hf:X.fn x=true∨X.env.scope.names.lookup x=some .local:=by first | exact .inl rfl | exact .inr rfl | assumption):QG X (.Name x pos) (gName i):=⟨pg_name hN hi hx hf⟩
theorem qgs_nil:QGs X [] gNil:=⟨pgs_nil⟩
theorem qgs_cons {g:TG} {gs:TGs} (h1:QG X e g) (h2:QGs X es gs) (hs:(assignEach (e :: es) X.env).map (·.2)=assign e X.env :: (assignEach es X.env).map (·.2):=by rfl):QGs X (e :: es) (gCons g gs):=⟨pgs_cons h1.u h2.u hs⟩
theorem qg_tup {k:Nat} {gs:TGs} {n:Nat} (hc:X.calm=true) (h:QGs X es gs) (hn:(assignEach es X.env).length=n:=by rfl) (hst:(assignEach es X.env).findIdx? (·.1)=none:=by rfl):QG X (.Tuple es k pos) (gTup X.K n gs):=⟨pg_tup hc h.u hn hst⟩
theorem qif_nil:QF X [] fNil:=⟨pif_nil⟩
theorem qif_one (h:QT X c tT):QF X [c] (fOne tT):=⟨pif_one h.u⟩
theorem qc_comp {tg iter elt:Expr} {ifs:List Expr} {csc:Scope} {NB M:List Str} {wi:TI} {g:TG} {ti:TF} (hi:QI X tg iter wi) (hc:X.calm=true) (S:CompScope X.env.scope X.N NB M csc)
  (hg:∀ cl C s₀ H₀ fp pn,QG (cxC X NB csc cl C s₀ H₀ fp pn) tg g) (hf:∀ cl C s₀ H₀ fp pn,QF (cxC X NB csc cl C s₀ H₀ fp pn) ifs ti) (he:∀ cl C s₀ H₀ fp pn,QE (cxC X NB csc cl C s₀ H₀ fp pn) elt te)
  (hs:∀ x,foldedSetIterable iter X.env x=pure x:=by intro _; rfl):QC X (.ListComp elt [⟨tg,iter,ifs,0⟩] csc pos) (tComp wi g ti te M.length) :=
 ⟨pc_comp hi.u hc S (fun cl C s₀ H₀ fp pn=>(hg cl C s₀ H₀ fp pn).u) (fun cl C s₀ H₀ fp pn=>(hf cl C s₀ H₀ fp pn).u) (fun cl C s₀ H₀ fp pn=>(he cl C s₀ H₀ fp pn).u) hs⟩
theorem qc_e (h:QC X e te):QE X e te:=⟨h.u.pe⟩
end
theorem Fun.okQ {P:Program} {w:World} {K:PySem.W.Frag} {mg:Str→Option Value} {base:Heap} {x qual:Str} {st:Stmt} {f:Addr} {fd:FuncData} {N ps:List Str} {k:Nat} {sp:Sp} (F:Fun K x qual st f fd) (S:FnScope N ps (defScope st)) (len:∀ vs H Q E,sp vs H Q E→vs.length=ps.length)
  (hbody:∀ (cdv:Value) (A:Around) (outer:List Env) (s:Shared) (H:Hp) (vs:List V) (Q:VK) (E:XK),Room k (A.deeper (envOfC qual (defScope st) s.heap.objs.size f cdv))→sp vs H Q E →
   ∃ t,QSs (cxOf CX0 P w K mg base N qual (defScope st) f cdv A outer s H E).nox (defBody st) t∧t { nx:=fun _ H'=>Q .non H',rt:=Q } (start N vs) H):FnOk P w K mg base CX0 (k+1) f fd ps sp :=
 F.ok S len fun cdv A outer s H vs Q E hr hsp=>let ⟨t,h,q⟩:=hbody cdv A outer s H vs Q E hr hsp; ⟨t,h.u,q⟩
end L2
namespace L2
open PySem PySem.Spec PyProof.Rows
def FlR (h:Heap) (a:Addr) (C:Value):Prop:=∃ oa vs,h.get? a=some oa∧(oa.cls=C∧oa.dict=none)∧oa.data=.fields vs∧vs[1]?=some .none
def FlT (h:Heap) (a:Addr) (C:Value) (T:Addr) (fl:Value):Prop :=
 ∃ oa vs oT ts,h.get? a=some oa∧(oa.cls=C∧oa.dict=none)∧oa.data=.fields vs∧vs[1]?=some (.ref T)∧T≠a∧h.get? T=some oT∧oT.data=.fields ts∧ts[3]?=some fl
def Fly (h:Heap) (a:Addr) (C:Value):List Addr→Prop
 | []=>FlR h a C
 | T :: r=>r=[]∧FlT h a C T .none
theorem mapF_dict (o:Obj) (f:Array Value→Array Value):(o.mapFields f).dict=o.dict:=by
 cases o with | mk c d dt sl=>cases dt <;> rfl
structure Nk (fs ch:List Addr) (h g:Heap):Prop where
 keep:∀ b o,b∉fs→b∉ch→h.get? b=some o→g.get? b=some o
 slot:∀ b o,b∈fs→b∉ch→h.get? b=some o→∃ sl,g.get? b=some { o with slots:=sl }
 there:∀ b o,h.get? b=some o→∃ u,g.get? b=some u
theorem FlT.thing {h:Heap} {a T:Addr} {C fl:Value} (f:FlT h a C T fl):∃ oa,h.get? a=some oa∧(oa.cls=C∧oa.dict=none)∧PySem.W.notCls oa=true:=by
 obtain ⟨oa,_,_,_,ha,hc,hd,_⟩:=f
 exact ⟨oa,ha,hc,by unfold PySem.W.notCls; rw [hd]⟩
theorem FlT.there {h:Heap} {a T:Addr} {C fl:Value} (f:FlT h a C T fl):∃ oa,h.get? a=some oa∧oa.cls=C:=by
 obtain ⟨oa,ha,hc,_⟩:=f.thing
 exact ⟨oa,ha,hc.1⟩
theorem upd_there {h:Heap} {a b:Addr} {oa o:Obj} {vs:Array Value} {i:Nat} {x:Value} (ha:h.get? a=some oa) (hd:oa.data=.fields vs) (e:h.get? b=some o):∃ u,(h.update a (Obj.mapFields (·.setIfInBounds i x))).get? b=some u:=by
 by_cases hb:b=a
 ·subst hb
  exact ⟨_,Heap.get?_update_self _ ha (Obj.isFreed_of_fields (Obj.data_mapFields hd _))⟩
 ·exact ⟨o,by rw [Heap.get?_update_other _ _ (Ne.symm hb)]; exact e⟩
section
variable {M:Model} {A:Around} {E:Value→Shared→Prop} {s:Shared} {base:Heap} {env:Env} {outer:List Env} {L a T:Addr} {C:Value}
theorem note_entry {oa:Obj} {vs:Array Value} {head:Value} {more:Bool} {Q:Unit→Shared→Prop} (hfr:A.frames=some (env :: outer)) (hl:s.heap.FunFrames base (env :: outer)) (hf:env.frame=some L)
  (ha:s.heap.get? a=some oa) (hdn:oa.dict=none) (hd:oa.data=.fields vs) (hz:1 < vs.size) (k:∀ g T,Nk (frs (env :: outer)) [a] s.heap g→s.heap.objs.size≤T→FlT g a oa.cls T (rawInt L)→Q () { s with heap:=g }) :
  wpAny M A (do let fr ← frameOf env; let pl ← entryPlaceOf L more; let b ← EntryCells.newEntry head fr .none (rawInt L) .none pl; setField (.ref a) 1 b) Q E s:=by
 have nofr:a∉frs (env :: outer):=fun hm=>by
  obtain ⟨_,o,ho,no⟩:=hl.mem hm
  rw [ha] at ho
  cases ho
  exact no vs hd
 refine wpAny_bind (wpAny_frameOf_fun hfr hl hf fun g1 so=>wpAny_bind (wpAny_entryPlaceOf fun pl ip=>?_))
 unfold EntryCells.newEntry newFields
 refine wpAny_bind (wpAny_newObj_type ?_ (ip.sizeOk5 _ _ _ _ _))
 have a1:g1.get? a=some oa:=(so.2.1 a nofr).trans ha
 have lt1:a < g1.objs.size:=Heap.lt_size a1
 refine wpAny_setField (Heap.get?_push_of_some _ a1) hd hz (k _ g1.objs.size ⟨fun b o nb nc e=>?_,fun b o mb nc e=>?_,fun b o e=>?_⟩ (by rw [so.1]; exact Nat.le_refl _) ?_)
 ·have hb:b≠a:=fun z=>nc (by simp [z])
  rw [Heap.get?_update_other _ _ (Ne.symm hb)]
  exact Heap.get?_push_of_some _ ((so.2.1 b nb).trans e)
 ·have hb:b≠a:=fun z=>nc (by simp [z])
  obtain ⟨sl,q⟩:=so.2.2 b o e
  exact ⟨sl,by rw [Heap.get?_update_other _ _ (Ne.symm hb)]; exact Heap.get?_push_of_some _ q⟩
 ·obtain ⟨sl,q⟩:=so.2.2 b o e
  exact upd_there (Heap.get?_push_of_some _ a1) hd (Heap.get?_push_of_some _ q)
 ·have hne:g1.objs.size≠a:=Nat.ne_of_gt lt1
  refine ⟨_,_,_,_,Heap.get?_update_self _ (Heap.get?_push_of_some _ a1) (Obj.isFreed_of_fields (Obj.data_mapFields hd _)),⟨Obj.cls_mapFields _ _,(mapF_dict _ _).trans hdn⟩,Obj.data_mapFields hd _,(by simp [hz]),hne,(Heap.get?_update_other _ _ (Ne.symm hne)).trans (Heap.get?_push_size g1 rfl),rfl,?_⟩
  first
   | (simp; done)
   | (rcases ip with rfl | ⟨_,_,_,_,_,_,_,rfl⟩ <;> simp)
theorem note_raw {Q:Unit→Shared→Prop} (hfr:A.frames=some (env :: outer)) (hl:s.heap.FunFrames base (env :: outer)) (hf:env.frame=some L) (r:FlR s.heap a C)
  (k:∀ g T,Nk (frs (env :: outer)) [a] s.heap g→s.heap.objs.size≤T→FlT g a C T (rawInt L)→Q () { s with heap:=g }):wpAny M A (noteFrame (.ref a) env) Q E s:=by
 obtain ⟨oa,vs,ha,⟨hc,hdn⟩,hd,h1⟩:=r
 subst hc
 unfold noteFrame
 simp only [hf]
 refine wpAny_bind (wpAny_field ha hd h1 ?_)
 rw [if_neg (by decide)]
 exact note_entry hfr hl hf ha hdn hd (Array.getElem?_eq_some_iff.mp h1).1 k
theorem note_on {Q:Unit→Shared→Prop} (hfr:A.frames=some (env :: outer)) (hl:s.heap.FunFrames base (env :: outer)) (hf:env.frame=some L) (r:FlT s.heap a C T .none)
  (k:∀ g U,Nk (frs (env :: outer)) [a,T] s.heap g→s.heap.objs.size≤U→FlT g a C U (rawInt L)→Q () { s with heap:=g }):wpAny M A (noteFrame (.ref a) env) Q E s:=by
 obtain ⟨oa,vs,oT,ts,ha,⟨hc,hdn⟩,hd,h1,ne,hT,hdT,h3⟩:=r
 subst hc
 unfold noteFrame
 simp only [hf]
 refine wpAny_bind (wpAny_field ha hd h1 ?_)
 rw [if_pos (show (Value.ref T != Value.none)=true by simp)]
 refine wpAny_bind (wpAny_field hT hdT h3 ?_)
 rw [if_neg (show ¬ ((Value.none == rawInt L)=true) by simp [rawInt])]
 refine wpAny_bind (wpAny_setField hT hdT (Array.getElem?_eq_some_iff.mp h3).1 ?_)
 have oth:∀ b,b≠T→(s.heap.update T (Obj.mapFields (·.setIfInBounds 3 Value.none))).get? b=s.heap.get? b:=fun b hb=>Heap.get?_update_other _ _ (Ne.symm hb)
 have hl2:(s.heap.update T (Obj.mapFields (·.setIfInBounds 3 Value.none))).FunFrames base (env :: outer):=hl.of_keeps fun b o e no=>⟨o,(oth b fun z=>by subst z; rw [hT] at e; cases e; exact no ts hdT).trans e,rfl⟩
 refine note_entry (s:={ s with heap:=s.heap.update T (Obj.mapFields (·.setIfInBounds 3 Value.none)) }) hfr hl2 hf ((oth a (Ne.symm ne)).trans ha) hdn hd (Array.getElem?_eq_some_iff.mp h1).1 fun g U nk sz fl=>k g U ⟨fun b o nb nc e=>?_,fun b o mb nc e=>?_,fun b o e=>?_⟩ ?_ fl
 ·have hb:b≠T:=fun z=>nc (by simp [z])
  exact nk.keep b o nb (fun z=>nc (by simp at z; simp [z])) ((oth b hb).trans e)
 ·have hb:b≠T:=fun z=>nc (by simp [z])
  exact nk.slot b o mb (fun z=>nc (by simp at z; simp [z])) ((oth b hb).trans e)
 ·obtain ⟨u,q⟩:=upd_there (i:=3) (x:=Value.none) hT hdT e
  exact nk.there b u q
 ·have e:(s.heap.update T (Obj.mapFields (·.setIfInBounds 3 Value.none))).objs.size=s.heap.objs.size:=Heap.size_after_update ..
  rw [← e]
  exact sz
theorem flight_none {fl:Value} {Q:Unit→Shared→Prop} (r:FlT s.heap a C T fl) (k:∀ g,Nk [] [T] s.heap g→FlT g a C T .none→g.objs.size=s.heap.objs.size→Q () { s with heap:=g }):wpAny M A (setFlight (.ref a) none) Q E s:=by
 obtain ⟨oa,vs,oT,ts,ha,hc,hd,h1,ne,hT,hdT,h3⟩:=r
 have h3z:=(Array.getElem?_eq_some_iff.mp h3).1
 have oth:∀ b,b≠T→(s.heap.update T (Obj.mapFields (·.setIfInBounds 3 Value.none))).get? b=s.heap.get? b:=fun b hb=>Heap.get?_update_other _ _ (Ne.symm hb)
 refine wpAny_setFlight_none ha hd h1 hT hdT h3z (k _ ⟨fun b o _ nc e=>(oth b fun z=>nc (by simp [z])).trans e,fun b o mb _ _=>(nomatch mb),fun b o e=>upd_there hT hdT e⟩ ?_ (Heap.size_after_update ..))
 exact ⟨oa,vs,_,_,(oth a (Ne.symm ne)).trans ha,hc,hd,h1,ne,Heap.get?_update_self _ hT (Obj.isFreed_of_fields (Obj.data_mapFields hdT _)),Obj.data_mapFields hdT _,by simp [h3z]⟩
theorem fly_noted {ts:List Addr} {Q:Unit→Shared→Prop} (hfr:A.frames=some (env :: outer)) (hl:s.heap.FunFrames base (env :: outer)) (hf:env.frame=some L) (r:Fly s.heap a C ts)
  (k:∀ g U,Nk (frs (env :: outer)) (a :: ts) s.heap g→s.heap.objs.size≤U→FlT g a C U .none→Q () { s with heap:=g }) :
  wpAny M A (noteFrame (.ref a) env) (fun _ s2=>wpAny M A (setFlight (.ref a) none) Q E s2) E s:=by
 have fin:∀ (ch:List Addr) (g:Heap) (U:Addr),(∀ b∈ch,b∈a :: ts)→Nk (frs (env :: outer)) ch s.heap g→s.heap.objs.size≤U→FlT g a C U (rawInt L)→wpAny M A (setFlight (.ref a) none) Q E { s with heap:=g }:=fun ch g U sub nk sz fl=>by
  refine flight_none (s:={ s with heap:=g }) fl fun g2 nk2 fl2 _=>k g2 U ⟨fun b o nb nc e=>?_,fun b o mb nc e=>?_,fun b o e=>?_⟩ sz fl2
  ·have hU:b≠U:=Nat.ne_of_lt (Nat.lt_of_lt_of_le (Heap.lt_size e) sz)
   exact nk2.keep b o (by simp) (by simpa using hU) (nk.keep b o nb (fun z=>nc (sub b z)) e)
  ·have hU:b≠U:=Nat.ne_of_lt (Nat.lt_of_lt_of_le (Heap.lt_size e) sz)
   obtain ⟨sl,q⟩:=nk.slot b o mb (fun z=>nc (sub b z)) e
   exact ⟨sl,nk2.keep b _ (by simp) (by simpa using hU) q⟩
  ·obtain ⟨u,q⟩:=nk.there b o e
   exact nk2.there b u q
 cases ts with
 | nil=>exact note_raw hfr hl hf r fun g U nk sz fl=>fin [a] g U (fun b hb=>by simpa using hb) nk sz fl
 | cons T r' =>
  obtain ⟨hr,r⟩:=r
  subst hr
  exact note_on hfr hl hf r fun g U nk sz fl=>fin [a,T] g U (fun b hb=>by simpa using hb) nk sz fl
end
section
variable {X:Cx} {pins:List (Addr × Obj)} {σ:St} {H:Hp} {s:Shared} {a:Addr} {ts:List Addr} {C:Addr}
def FpN (X:Cx) (pins:List (Addr × Obj)) (H:Hp) (b:Addr):Prop :=
 H b=none∧b≠X.env.locals∧b∉X.fs∧X.s₀.heap.get? b=none∧(∀ x c,X.env.cells.lookup x=some c→c≠b)∧∀ p∈X.pn++pins,p.1≠b
theorem Inv.fpN {H':Hp} {b:Addr} (I:Inv X pins σ H s) (hx:X.ex=[]) (hb:s.heap.get? b=none) (hn:H' b=none):FpN X pins H' b:=by
 have no:∀ (d:Addr) (o:Obj),X.s₀.heap.get? d=some o→d≠b:=fun d o e z=>by
  obtain ⟨o',e'⟩:=I.base.there d o e (by rw [hx]; exact fun y=>nomatch y)
  rw [z,hb] at e'
  cases e'
 refine ⟨hn,fun z=>?_,fun z=>?_,?_,fun x c e z=>?_,fun p hp z=>?_⟩
 ·obtain ⟨m,⟨o,_,_,ho,_⟩,_⟩:=I.loc
  rw [← z,hb] at ho
  cases ho
 ·obtain ⟨_,o,ho,_⟩:=I.ok.funs.mem z
  exact no b o ho rfl
 ·cases q:X.s₀.heap.get? b with
  | none=>rfl
  | some o=>exact absurd rfl (no b o q)
 ·obtain ⟨v,o,ho,_⟩:=I.cell x c e
  rw [z,hb] at ho
  cases ho
 ·have e:=(I.pin p hp).1
  rw [z,hb] at e
  cases e
theorem Inv.exMore {ch:List Addr} (I:Inv X pins σ H s) (f:∀ b∈ch,FpN X pins H b):Inv { X with ex:=ch++X.ex } pins σ H s:=by
 refine ⟨⟨I.ok.mod,I.ok.kind,I.ok.glob,I.ok.blt,I.ok.above,I.ok.inj,I.ok.has,I.ok.cab,I.ok.hd,I.ok.frames,I.ok.stk,fun b hb=>?_,I.ok.bs,I.ok.bsz,fun b o e hb=>?_,fun b hb=>?_,I.ok.funs,I.ok.frf⟩,I.os,I.bare,
  ⟨fun b o e n h1 h2=>?_,fun b o e n h1 h2=>?_,fun b o e n h2=>?_,fun b o e h2=>?_,I.base.tups,I.base.frzs,I.base.tbls⟩,I.loc,I.cell,I.free,I.freeC,I.pin,I.hok,I.len⟩
 ·rcases List.mem_append.mp hb with z | z
  ·exact ⟨(f b z).2.1,(f b z).2.2.2.2.1⟩
  ·exact I.ok.exf b z
 ·rcases List.mem_append.mp hb with z | z
  ·have q:=(I.ok.bs b o e).1
   rw [(f b z).2.2.2.1] at q
   cases q
  ·exact I.ok.noex b o e z
 ·rcases List.mem_append.mp hb with z | z
  ·exact (f b z).2.2.1
  ·exact I.ok.exfs b z
 ·exact I.base.keep b o e n h1 fun z=>h2 (List.mem_append.mpr (.inr z))
 ·exact I.base.slot b o e n h1 fun z=>h2 (List.mem_append.mpr (.inr z))
 ·exact I.base.free b o e n fun z=>h2 (List.mem_append.mpr (.inr z))
 ·exact I.base.there b o e fun z=>h2 (List.mem_append.mpr (.inr z))
theorem Inv.exLess {ch:List Addr} (ok:X.Ok) (f:∀ b∈ch,X.s₀.heap.get? b=none) (I:Inv { X with ex:=ch++X.ex } pins σ H s):Inv X pins σ H s:=by
 have no:∀ (b:Addr) (o:Obj),X.s₀.heap.get? b=some o→b∉X.ex→b∉ch++X.ex:=fun b o e hx z=>by
  rcases List.mem_append.mp z with z | z
  ·rw [f b z] at e
   cases e
  ·exact hx z
 exact ⟨ok,I.os,I.bare,⟨fun b o e n h1 h2=>I.base.keep b o e n h1 (no b o e h2),fun b o e n h1 h2=>I.base.slot b o e n h1 (no b o e h2),fun b o e n h2=>I.base.free b o e n (no b o e h2),fun b o e h2=>I.base.there b o e (no b o e h2),I.base.tups,I.base.frzs,I.base.tbls⟩,
  I.loc,I.cell,I.free,I.freeC,I.pin,I.hok,I.len⟩
theorem Inv.noted {g:Heap} (I:Inv X pins σ H s) (fa:∀ b∈a :: ts,FpN X pins H b) (nk:Nk (frs X.stack) (a :: ts) s.heap g):Inv X pins σ H { s with heap:=g }:=by
 have trk:∀ c u,H c=some u→c∉frs X.stack∧c∉a :: ts:=fun c u e=>⟨fun z=>(by rw [I.stkFree c z] at e; cases e),fun z=>(by rw [(fa c z).1] at e; cases e)⟩
 have hok:HOk X.prog X.w H g:=fun b u e=>(I.hok b u e).stay (fun c v hc q=>by
  rcases hc with z | z
  ·rw [z] at q ⊢
   exact nk.keep b v (trk b u e).1 (trk b u e).2 q
  ·exact nk.keep c v (trk c _ z).1 (trk c _ z).2 q) (fun _ q=>q) fun _ _ q=>q
 have I1:=I.exMore fa
 refine Inv.exLess I.ok (fun b hb=>(fa b hb).2.2.2.1) (I1.call (g':=s.gens) (t':=s.toks) (d':=s.drawn) (ch:=a :: ts) ⟨fun b o e _ hb hx=>nk.keep b o hb hx e,fun b o e _ hb hx=>nk.slot b o hb hx e,fun _ _ _ n _=>n,fun b o e _=>nk.there b o e,fun _ _ q=>q,fun _ _ _ q=>q,fun _ ps q=>⟨#[],by rw [q]; simp⟩⟩ hok I.bare
  fun b hb=>⟨.inl (List.mem_append.mpr (.inl hb)),(fa b hb).2.1,(fa b hb).2.2.2.2.1,(fa b hb).2.2.2.2.2⟩)
def FlyX (X:Cx) (pins:List (Addr × Obj)) (H:Hp) (s:Shared) (a C:Addr):Prop:=∃ ts,(∀ b∈a :: ts,FpN X pins H b)∧Fly s.heap a (.ref C) ts
def Out (X:Cx) (EX:St→XK):Prop:=∀ (pins:List (Addr × Obj)) (σ:St) (H:Hp) (s:Shared) (a C:Addr),Inv X pins σ H s→FlyX X pins H s a C→EX σ (.ref C) none H→X.xe (.ref a) s
end
def CXR (P:Program) (w:World):CXT:=fun outer H s E e s'=>∃ a C H' T,e=.ref a∧s'.os=s.os∧AllBare s'.gens∧Un (frs outer) [] H H' s.heap s'.heap∧HOk P w H' s'.heap∧FlT s'.heap a (.ref C) T .none ∧
 s.heap.get? a=none∧s.heap.get? T=none∧H' a=none∧H' T=none∧E (.ref C) none H'
theorem Out.pass {X:Cx} {EX:St→XK} (o:Out X EX) (hx:X.ex=[]) {pins:List (Addr × Obj)} {σ:St} {H:Hp} {s s':Shared} {e:Value} (I:Inv X pins σ H s) (h:CXR X.prog X.w X.stack H s (EX σ) e s'):X.xe e s':=by
 obtain ⟨a,C,H',T,rfl,ho,hg,u,hok,fl,sa,sT,na,nT,q⟩:=h
 have I2:Inv X pins σ H' s':=I.call' (ch:=[]) ho (u.mono (fun _ z=>z) fun _ z=>z) hok hg fun b hb=>nomatch hb
 refine o pins σ H' s' a C I2 ⟨[T],fun b hb=>?_,rfl,fl⟩ q
 rcases List.mem_cons.mp hb with z | z
 ·subst z
  exact I.fpN hx sa na
 ·have z':b=T:=by simpa using z
  subst z'
  exact I.fpN hx sT nT
theorem passX {X:Cx} {P:Program} {w:World}:Passes (CXR P w) X E0:=by
 intro pins σ H s e s' I h
 obtain ⟨_,_,_,_,_,_,_,_,_,_,_,_,_,_,q⟩:=h
 exact q.elim
section
variable {P:Program} {w:World} {K:PySem.W.Frag} {mg:Str→Option Value} {base:Heap}
theorem out_def {N:List Str} {qual:Str} {scope:Scope} {f:Addr} {cd:Value} {A:Around} {outer:List Env} {s:Shared} {H:Hp} {E:XK}:Out (cxOf (CXR P w) P w K mg base N qual scope f cd A outer s H E) fun _=>E:=by
 intro pins σ H' s' a C I fly e
 obtain ⟨ts,fa,r⟩:=fly
 show wpAny (model P w) (A.deeper (envOfC qual scope s.heap.objs.size f cd)) (leaving (envOfC qual scope s.heap.objs.size f cd) (.ref a)) _ _ s'
 unfold leaving
 refine wpAny_bind (fly_noted (L:=s.heap.objs.size) I.ok.frames I.stack rfl r fun g U nk sz fl=>?_)
 have I2:=I.noted fa nk
 have old:∀ b,b∈a :: ts→s.heap.get? b=none:=fun b hb=>(fa b hb).2.2.2.1
 exact ⟨a,C,H',U,rfl,I2.os,I2.bare,I2.base,I2.hok,fl,old a List.mem_cons_self,Heap.get?_none_of_le (Nat.le_trans I.sz sz),(fa a List.mem_cons_self).1,I.hok.fresh sz,e⟩
theorem Fun.okX {x qual:Str} {st:Stmt} {f:Addr} {fd:FuncData} {N ps:List Str} {k:Nat} {sp:Sp} (F:Fun K x qual st f fd) (S:FnScope N ps (defScope st)) (len:∀ vs H Q E,sp vs H Q E→vs.length=ps.length)
  (hbody:∀ (cdv:Value) (A:Around) (outer:List Env) (s:Shared) (H:Hp) (vs:List V) (Q:VK) (E:XK),Room k (A.deeper (envOfC qual (defScope st) s.heap.objs.size f cdv))→sp vs H Q E →
   Out (cxOf (CXR P w) P w K mg base N qual (defScope st) f cdv A outer s H E) (fun _=>E) →
   ∃ t,QSs (cxOf (CXR P w) P w K mg base N qual (defScope st) f cdv A outer s H E) (defBody st) t∧t { nx:=fun _ H'=>Q .non H',rt:=Q } (start N vs) H):FnOk P w K mg base (CXR P w) (k+1) f fd ps sp:=by
 obtain ⟨oc,od,kV,doc,pm,an,cdv,ct,osl,rfl,lk,hcd⟩:=F.ex
 refine fn_of lk hcd S len fun A outer s H vs Q E hr hsp=>?_
 obtain ⟨t,h,q⟩:=hbody cdv A outer s H vs Q E hr hsp out_def
 exact ⟨t,h.u,q⟩
end
inductive CalX (P:Program) (w:World) (K:PySem.W.Frag) (mg:Str→Option Value) (base:Heap) (k:Nat) (x:Str) (ps:List Str) (sp:Sp):Prop where
 | mk {f:Addr} {fd:FuncData} (F:FnOk P w K mg base (CXR P w) k f fd ps sp) (hm:mg x=some (.ref f)) (hk:PySem.W.keepIn K (.ref f)=true) (hb:Binds K fd ps [])
def tCallS (sp:Sp) (EX:St→XK) (t:TA):TE:=fun σ H Q=>t σ H fun vs H1=>sp (vs++[]) H1 Q (EX σ)
section
variable {X:Cx} {k:Nat} {ps:List Str} {sp:Sp} {x:Str} {p pos:Pos} {e:Expr} {es:List Expr} {t:TA} {EX:St→XK}
theorem run_X {f:Addr} {fd:FuncData} {pins:List (Addr × Obj)} {σ:St} {H:Hp} {s:Shared} {Q:VK} {us:List Value} {vs:List V} (F:FnOk X.prog X.w X.K X.mg X.base (CXR X.prog X.w) k f fd ps sp) (hr:Room k X.A) (hb:Binds X.K fd ps []) (o:Out X EX) (hx:X.ex=[])
  (I:Inv X pins σ H s) (r:Vals vs us) (h:sp (vs++[]) H Q (EX σ)):wpAny (model X.prog X.w) X.A (call (.ref f) us) (EP X pins σ Q) X.xe s:=by
 have rr:Vals (vs++[]) (us++[]):=r.append .nil
 have ll:(us++[]).length=ps.length:=rr.length ▸ F.len _ _ _ _ h
 have run:=F.run X.A X.stack s H ⟨us,[]⟩ (us++[]) (vs++[]) Q (EX σ) hr I.env0 (hb s us I.kIn ll) rr h
 refine wpAny_call (codeAny_mono run fun
  | .error _,_,z=>o.pass hx I z
  | .ok (.ret _),_,z=>I.after z
  | .ok .next,_,z=>z.elim
  | .ok .brk,_,z=>z.elim
  | .ok .cont,_,z=>z.elim)
theorem qe_calX (C:CalX X.prog X.w X.K X.mg X.base k x ps sp) (o:Out X EX) (hr:Room k X.A) (hg:Gl X x) (ha:QA X (e :: es) t) (hx:X.ex=[]:=by rfl) (hp:(e :: es).all plainE=true:=by rfl) (hdb:(x == ("__debug__" : Str))=false:=by decide) :
  QE X (.Call (.Name x p) (e :: es) [] pos) (tCallS sp EX t):=by
 cases C with
 | mk F hm hk hb =>
  refine ⟨fun pins s σ H Q I h=>wpAny_Call_Name_kw (ld_glob I hg hm ?_ hdb)⟩
  exact PySem.W.callWith_K (h₀:=X.base) I.ok.mod.kin hk (thn (ha.u pos pins s σ H _ I h) fun us s1 ⟨vs,H1,I1,r,q⟩=>⟨I1.kIn,run_X F hr hb o hx I1 r q⟩) (star_cons (all2 hp).1) (star_none (all2 hp).2)
theorem qe_calN (C:CalX X.prog X.w X.K X.mg X.base k x ps sp) (hr:Room k X.A) (hg:Gl X x) (ha:QA X (e :: es) t) (hp:(e :: es).all plainE=true:=by rfl) (hdb:(x == ("__debug__" : Str))=false:=by decide) :
  QE X (.Call (.Name x p) (e :: es) [] pos) (tCall sp [] E0 t):=by
 cases C with
 | mk F hm hk hb=>exact ⟨pe_call F hr hg hm hk hb .nil passX ha.u hdb (star_cons (all2 hp).1) (star_none (all2 hp).2)⟩
end
abbrev bmV:List Value:=[.type "ValueError",.type "Exception",.type "BaseException",.type "object"]
abbrev OwnX (K:PySem.W.Frag) (C:Addr):Prop:=PySem.W.excIn K C bmV "ValueError.__new__" = true
theorem own_facts {K:PySem.W.Frag} {h:Heap} {C:Addr} (X:K.In h) (q:OwnX K C):∃ bm N nm qn bs hdct sn sub ab col dd k0 k1 k2 k3 k5 mN,
  h.get? C=some (excClassObj nm qn C N bs bm hdct sn sub ab col dd k0 k1 k2 k3 k5 "ValueError.__new__")∧h.Ns N mN∧mN "__init__" = none∧OwnTail h bmV bm:=by
 unfold OwnX PySem.W.excIn at q
 split at q
 ·rename_i dct cld slt look
  split at q
  ·rename_i C1 rest j0 j1 j2 j3 nw j5 em es
   simp only [Bool.and_eq_true,beq_iff_eq,Bool.not_eq_true'] at q
   obtain ⟨⟨⟨⟨⟨c1,c2⟩,c3⟩,c4⟩,c5⟩,c6⟩:=q
   subst c1 c2
   cases cld with
   | mk nm bs mro ns qn hd sn sub ab col del =>
    obtain ⟨l⟩:=slt
    dsimp only at em es c3 c5 c6
    subst em c3 es
    exact ⟨rest,ns,nm,qn,bs,hd,sn,sub,ab,col,dct,j0,j1,j2,j3,j5,_,X _ _ look,.of_isNs (PySem.W.isNs_of_in X c5),PySem.W.nsMap_none_of_in X c5 c6,PySem.W.tail_of_in X c4⟩
  ·cases q
 ·cases q
theorem ObjOk.here {P:Program} {w:World} {H:Hp} {h:Heap} {a:Addr} {o:HO} (x:ObjOk P w H h a o):∃ ob,h.get? a=some ob:=by
 cases o with
 | lst xs=>obtain ⟨_,_,_,_,e⟩:=x; exact ⟨_,e⟩
 | tup xs=>obtain ⟨_,_,_,p⟩:=x; obtain ⟨ob,e,_⟩:=p; exact ⟨ob,e⟩
 | dK kvs=>obtain ⟨_,_,_,_,ob,_,_,e,_⟩:=x; exact ⟨_,e⟩
 | dT kvs=>obtain ⟨_,_,_,_,ob,_,_,e,_⟩:=x; exact ⟨_,e⟩
 | set S n=>obtain ⟨ob,_,_,_,e,_⟩:=x; exact ⟨_,e⟩
 | ins C dx fs=>obtain ⟨_,_,_,e,_⟩:=x; exact ⟨_,e⟩
 | own y=>exact x
 | xd fs=>obtain ⟨_,⟨_,_,_,e,_⟩,_⟩:=x; exact ⟨_,e⟩
 | met f y=>exact ⟨_,x⟩
 | rng lo hi=>obtain ⟨_,_,_,e⟩:=x; exact ⟨_,e⟩
 | frz ob u=>exact ⟨_,x.1⟩
 | tbl ps=>exact ⟨_,x⟩
 | ext φ=>exact x.2.1
section
variable {X:Cx} {pins:List (Addr × Obj)} {σ:St} {H:Hp} {s:Shared}
theorem Inv.grown {h':Heap} (I:Inv X pins σ H s) (k:∀ b o,s.heap.get? b=some o→h'.get? b=some o):Inv X pins σ H { s with heap:=h' }:=by
 refine I.call (g':=s.gens) (t':=s.toks) (d':=s.drawn) (ch:=[]) ⟨fun b o e _ _ _=>k b o e,fun b o e _ _ _=>⟨o.slots,k b o e⟩,fun _ _ _ n _=>n,fun b o e _=>⟨o,k b o e⟩,fun _ _ q=>q,fun _ _ _ q=>q,fun _ ps q=>⟨#[],by rw [q]; simp⟩⟩
  (fun b u e=>(I.hok b u e).stay (fun c v _ q=>k c v q) (fun _ q=>q) fun _ _ q=>q) I.bare fun b hb=>nomatch hb
def tRaise (C:Addr) (EX:St→XK) (t:TA):TS:=fun _ σ H=>t σ H fun vs H1=>vs.length≤sizeLine∧EX σ (.ref C) none H1
theorem qs_raise {x:Str} {C:Addr} {EX:St→XK} {np cpos pos:Pos} {e:Expr} {es:List Expr} {t:TA} (q:OwnX X.K C) (hm:X.mg x=some (.ref C)) (hg:Gl X x) (hc:X.calm=true) (o:Out X EX) (ha:QA X (e :: es) t)
  (hx:X.ex=[]:=by rfl) (hp:(e :: es).all plainE=true:=by rfl) (hdb:(x == ("__debug__" : Str))=false:=by decide) :
  QS X (.Raise (some (.Call (.Name x np) (e :: es) [] cpos)) none pos) (tRaise C EX t):=by
 refine ⟨fun pins s σ H D I h=>?_⟩
 obtain ⟨bm,N,nm,qn,bs,hdct,sn,sub,ab,col,dd,k0,k1,k2,k3,k5,mN,hC,hN,hni,T⟩:=own_facts I.ok.mod.kin q
 have st:starEach (e :: es) X.env=(false,eval e X.env) :: starEach es X.env:=star_cons (all2 hp).1
 have pl:(backTo cpos (starEach es X.env)).any (·.1)=false:=star_none (all2 hp).2
 refine wpAny_Raise_call_subU (C:=C) (nm:=nm) (q:=qn) (N:=N) (bs:=bs) (bm:=bm) (hdct:=hdct) (sn:=sn) (sub:=sub) (ab:=ab) (col:=col) (dd:=dd) (k0:=k0) (k1:=k1) (k2:=k2) (k3:=k3) (k5:=k5)
  PySem.F.excBase_ValueError (by decide) PySem.F.excBase_ValueError (mN:=mN) (T.hasType PySem.F.excBase_ValueError.hasBase) (I.ok.hd hc) (by rw [st]; show (false || (backTo cpos (starEach es X.env)).any (·.1))=false; rw [pl]; rfl) hni (ld_glob I hg hm ⟨rfl,?_⟩ hdb)
 have run:=ha.u cpos pins s σ H _ I h
 rw [st] at run ⊢
 refine Calls.evalArgs_plain (thn run fun us s1 ⟨vs,H1,I1,r,hl,qx⟩=>⟨rfl,by rw [← r.length]; exact hl,I1.bk _ _ hC,hN.keeps I1.bk,T.keeps I1.bk,fun h' a made=>?_⟩)
 obtain ⟨tt,h1,h2,h3⟩:=made.there
 have I2:=I1.grown made.keeps
 have na:H1 a=none:=by
  cases z:H1 a with
  | none=>rfl
  | some u =>
   obtain ⟨ob,eo⟩:=(I1.hok a u z).here
   rw [made.new] at eo
   cases eo
 exact o pins σ H1 _ a C I2 ⟨[],fun b hb=>by
  have e:b=a:=by simpa using hb
  subst e
  exact I1.fpN hx made.new na,⟨_,_,h1,⟨rfl,rfl⟩,rfl,rfl⟩⟩ qx
end
abbrev Cx.tryB (X:Cx) (pn:List (Addr × Obj)) (E:Value→Shared→Prop):Cx:={ X with pn:=pn,xe:=E }
abbrev Cx.hand (X:Cx) (e:Value) (pn:List (Addr × Obj)) (E:Value→Shared→Prop):Cx:={ X with A:=X.A.mark (some e),calm:=false,pn:=pn,xe:=E }
section
variable {X:Cx} {pins pins':List (Addr × Obj)} {σ:St} {H:Hp} {s:Shared} {E:Value→Shared→Prop} {e:Value}
theorem Inv.tryB (I:Inv X pins σ H s):Inv (X.tryB (X.pn++pins) E) [] σ H s :=
 ⟨⟨I.ok.mod,I.ok.kind,I.ok.glob,I.ok.blt,I.ok.above,I.ok.inj,I.ok.has,I.ok.cab,I.ok.hd,I.ok.frames,I.ok.stk,I.ok.exf,I.ok.bs,I.ok.bsz,I.ok.noex,I.ok.exfs,I.ok.funs,I.ok.frf⟩,I.os,I.bare,I.base,I.loc,I.cell,I.free,I.freeC,
  fun p hp=>I.pin p (by simpa using hp),I.hok,I.len⟩
theorem Inv.untryB (I:Inv (X.tryB (X.pn++pins) E) pins' σ H s):Inv X pins σ H s :=
 ⟨⟨I.ok.mod,I.ok.kind,I.ok.glob,I.ok.blt,I.ok.above,I.ok.inj,I.ok.has,I.ok.cab,I.ok.hd,I.ok.frames,I.ok.stk,I.ok.exf,I.ok.bs,I.ok.bsz,I.ok.noex,I.ok.exfs,I.ok.funs,I.ok.frf⟩,I.os,I.bare,I.base,I.loc,I.cell,I.free,I.freeC,
  fun p hp=>I.pin p (List.mem_append.mpr (.inl hp)),I.hok,I.len⟩
theorem Inv.hand (I:Inv X pins σ H s):Inv (X.hand e (X.pn++pins) E) [] σ H s :=
 ⟨⟨I.ok.mod,I.ok.kind,I.ok.glob,I.ok.blt,I.ok.above,I.ok.inj,I.ok.has,I.ok.cab,(fun z=>nomatch z),I.ok.frames,I.ok.stk,I.ok.exf,I.ok.bs,I.ok.bsz,I.ok.noex,I.ok.exfs,I.ok.funs,I.ok.frf⟩,I.os,I.bare,I.base,I.loc,I.cell,I.free,I.freeC,
  fun p hp=>I.pin p (by simpa using hp),I.hok,I.len⟩
theorem Inv.unhand (ok:X.Ok) (I:Inv (X.hand e (X.pn++pins) E) pins' σ H s):Inv X pins σ H s :=
 ⟨ok,I.os,I.bare,I.base,I.loc,I.cell,I.free,I.freeC,fun p hp=>I.pin p (List.mem_append.mpr (.inl hp)),I.hok,I.len⟩
theorem SP.untryB {D:Ends} {f:Flow} (h:SP (X.tryB (X.pn++pins) E) pins' D f s):SP X pins D f s:=by
 cases f with
 | next=>obtain ⟨_,_,I,q⟩:=h; exact ⟨_,_,I.untryB,q⟩
 | brk=>obtain ⟨_,_,I,q⟩:=h; exact ⟨_,_,I.untryB,q⟩
 | cont=>obtain ⟨_,_,I,q⟩:=h; exact ⟨_,_,I.untryB,q⟩
 | ret u=>obtain ⟨_,_,_,I,r,q⟩:=h; exact ⟨_,_,_,I.untryB,r,q⟩
theorem SP.unhand {D:Ends} {f:Flow} (ok:X.Ok) (h:SP (X.hand e (X.pn++pins) E) pins' D f s):SP X pins D f s:=by
 cases f with
 | next=>obtain ⟨_,_,I,q⟩:=h; exact ⟨_,_,I.unhand ok,q⟩
 | brk=>obtain ⟨_,_,I,q⟩:=h; exact ⟨_,_,I.unhand ok,q⟩
 | cont=>obtain ⟨_,_,I,q⟩:=h; exact ⟨_,_,I.unhand ok,q⟩
 | ret u=>obtain ⟨_,_,_,I,r,q⟩:=h; exact ⟨_,_,_,I.unhand ok,r,q⟩
end
abbrev TH:=Value→TS
def PH (X:Cx) (hs:List ExceptHandler) (th:TH):Prop :=
 ∀ (pins:List (Addr × Obj)) (s:Shared) (σ:St) (H:Hp) (D:Ends) (a C U:Addr),Inv X pins σ H s→FlT s.heap a (.ref C) U .none→FpN X pins H a→FpN X pins H U→th (.ref C) D σ H →
  wpAny (model X.prog X.w) X.A (handleBy (.ref a) X.env hs) (SP X pins D) X.xe s
structure QH (X:Cx) (hs:List ExceptHandler) (th:TH):Prop where
 u:PH X hs th
def thNil:TH:=fun _ _ _ _=>False
def thCons (K:PySem.W.Frag) (c:Value) (t:TS) (th:TH):TH:=fun C D σ H=>∃ b,PySem.W.exmOne K C c=some b∧if b=true then t D σ H else th C D σ H
def tTry (tb:(St→XK)→TS) (th:TH):TS:=fun D σ H=>tb (fun σ' C _ H'=>th C D σ' H') D σ H
section
variable {X:Cx} {x:Str} {c:Value} {t:TS} {th:TH} {np pos:Pos} {b0:Stmt} {suite body:List Stmt} {rest:List ExceptHandler}
theorem qh_nil:QH X [] thNil:=⟨fun _ _ _ _ _ _ _ _ _ _ _ _ h=>h.elim⟩
theorem qh_cons (hm:X.mg x=some c) (hg:Gl X x) (hs:∀ e pn E,QSs (X.hand e pn E) (b0 :: suite) t) (hr:QH X rest th) (hdb:(x == ("__debug__" : Str))=false:=by decide) :
  QH X (.ExceptHandler (some (.Name x np)) none (b0 :: suite) pos :: rest) (thCons X.K c t th):=by
 refine ⟨fun pins s σ H D a C U I fl fa fu ⟨b,hx,q⟩=>?_⟩
 obtain ⟨oa,ha,hc⟩:=fl.there
 have IH:∀ E,Inv (X.hand (.ref a) (X.pn++pins) E) [] σ H s:=fun E=>I.hand
 refine wpAny_handleBy_cons (codeAny_handlers_test (ld_glob (X:=X.hand (.ref a) (X.pn++pins) X.xe) (IH _) hg hm ?_ hdb)) (by intro z; cases z)
 have LT:PySem.W.Looks (model X.prog X.w) s.heap (typeOf (.ref a)) (.ref C):=by
  rw [← hc]
  exact (PySem.W.Looks.ld ha).andThen .now
 refine (PySem.W.exm_one I.kIn LT hx).here ?_
 cases b with
 | false =>
  exact hr.u pins s σ H D a C U I fl fa fu q
 | true =>
  refine codeAny_handlers_suite (flight_none fl fun g nk fl2 _=>?_)
  have I2:Inv X pins σ H { s with heap:=g }:=I.noted (a:=U) (ts:=[]) (fun b hb=>by
   have e:b=U:=by simpa using hb
   rw [e]
   exact fu) ⟨fun b o _ h2 e=>nk.keep b o (by simp) h2 e,fun b o _ h2 e=>⟨o.slots,nk.keep b o (by simp) h2 e⟩,nk.there⟩
  refine thn ((hs (.ref a) (X.pn++pins) _).u [] _ σ H D I2.hand q) fun f s2 z=>?_
  exact z.unhand I.ok
theorem qs_try {tb:(St→XK)→TS} {h0:ExceptHandler} (hb:∀ pn E EX,PassesOwn (model X.prog X.w) X.A X.env E→Out (X.tryB pn E) EX→QSs (X.tryB pn E) body (tb EX)) (hh:QH X (h0 :: rest) th) (hst:X.stack=X.env :: X.outer:=by rfl) (hfr:X.env.frame=some X.env.locals:=by rfl) (hx:X.ex=[]:=by rfl) :
  QS X (.Try body (h0 :: rest) [] [] pos) (tTry tb th):=by
 refine ⟨fun pins s σ H D I h=>wpAny_Try_except ?_⟩
 refine wpAny_mono ((hb (X.pn++pins) _ _ PassesOwn.looking ?_).u [] s σ H D I.tryB h) (fun f s2 z=>?_) fun _ _ z=>z
 ·intro pins1 σ1 H1 s1 a C I1 ⟨ts,fa,r⟩ q
  have I2:Inv X pins σ1 H1 s1:=I1.untryB
  have fa2:∀ b∈a :: ts,FpN X pins H1 b:=fun b hb=>⟨(fa b hb).1,(fa b hb).2.1,(fa b hb).2.2.1,(fa b hb).2.2.2.1,(fa b hb).2.2.2.2.1,fun p hp=>(fa b hb).2.2.2.2.2 p (List.mem_append.mpr (.inl hp))⟩
  refine fly_noted (L:=X.env.locals) (by rw [← hst]; exact I2.ok.frames) (by rw [← hst]; exact I2.stack) hfr r fun g U nk sz fl=>?_
  rw [← hst] at nk
  have I3:=I2.noted fa2 nk
  refine hh.u pins _ σ1 H1 D a C U I3 fl (fa2 a List.mem_cons_self) ?_ q
  exact I2.fpN hx (Heap.get?_none_of_le sz) (I2.hok.fresh sz)
 ·cases f with
  | next=>exact wpAny_execs_nil z.untryB
  | brk=>exact z.untryB
  | cont=>exact z.untryB
  | ret u=>exact z.untryB
end
def excO (a C:Addr):HO:=.ext fun h=>∃ o,h.get? a=some o∧(o.cls=.ref C∧o.dict=none)∧PySem.W.notCls o=true
section
variable {X:Cx} {pins:List (Addr × Obj)} {σ:St} {H:Hp} {s:Shared} {a C:Addr}
end
section
variable {X:Cx} {x n:Str} {i:Nat} {c:Value} {t:TS} {th:TH} {np pos:Pos} {b0:Stmt} {suite body:List Stmt} {rest:List ExceptHandler}
end
open PySem.W
structure ExcK (K:Frag) (C:Addr):Prop where
 ga:findIn K (.ref C) "__getattribute__" = some (some (.builtin "BaseException.__getattribute__"))
 gn:findIn K (.ref C) "__getattr__" = some none
 gc:findIn K (.ref C) "__class__" = some (some (.builtin "object.__class__"))
 mo:mroIn K C (.type "object")=some true
 mb:mroIn K C (.type "BaseException")=some true
 hd:hasDictIn K C=true
section
variable {prog:Program} {w:World} {A:Around} {E:Value→Shared→Prop} {h:Heap} {g:Array GenState} {d:Drawn} {t:Nat} {os:OsState} {K:Frag} {a C:Addr} {o:Obj}
end
section
variable {X:Cx}
end
structure RoomH (k:Nat) (A:Around):Prop where
 dp:A.depth+3 * k+5 < recursionLimit
 un:A.units+16 * k+200 < cLine
structure FnOkH (P:Program) (w:World) (K:Frag) (mg:Str→Option Value) (base:Heap) (CX:CXT) (k:Nat) (f:Addr) (fd:FuncData) (ps:List Str) (sp:Sp):Prop where
 len:∀ vs H Q E,sp vs H Q E→vs.length=ps.length
 run:∀ (A:Around) (outer:List Env) (s:Shared) (H:Hp) (args:Args) (us:List Value) (vs:List V) (Q:VK) (E:XK),RoomH k A→Env0 P w K mg base A outer s H→BindsTo s fd args (ps.zip us)→Vals vs us→sp vs H Q E →
  codeAny (model P w) A (.call (.ref f) args) (CR CX outer P w H s Q E) s
section
variable {P:Program} {w:World} {K:Frag} {mg:Str→Option Value} {base:Heap} {CX:CXT} {k:Nat} {f:Addr}
end
inductive CalH (P:Program) (w:World) (K:Frag) (mg:Str→Option Value) (base:Heap) (k:Nat) (x:Str) (ps:List Str) (sp:Sp):Prop where
 | mk {f:Addr} {fd:FuncData} (F:FnOkH P w K mg base CX0 k f fd ps sp) (hm:mg x=some (.ref f)) (hk:keepIn K (.ref f)=true) (hb:Binds K fd ps [])
section
variable {X:Cx} {k:Nat} {ps:List Str} {sp:Sp} {x:Str} {p pos:Pos} {e:Expr} {es:List Expr} {t:TA}
end
end L2
namespace L2
open PySem PySem.Spec PyProof.Rows
section
variable {X:Cx} {o i e f value a b:Expr} {pos pos' tpos apos cpos:Pos} {td ty tv tx:TE}
theorem qe_dget (hu:X.A.units+1 < cLine) (ho:QE X o td) (hi:QE X i ty) (hs:NoSl i:=by exact fun _ _=>rfl):QE X (.Subscript o i pos) (tDGet td ty):=⟨pe_dget hu ho.u hi.u hs⟩
theorem qt_din (hu:X.A.units+1 < cLine) (hi:QE X i ty) (ho:QE X o td) (hm:behindInMarks .In o=false:=by with_unfolding_all rfl):QT X (.Compare i [.In] [o] pos) (tB (tDIn ty td)):=⟨pt_cmp (pc_din hu hi.u ho.u) hm⟩
theorem qt_dnotin (hu:X.A.units+1 < cLine) (hi:QE X i ty) (ho:QE X o td) (hm:behindInMarks .NotIn o=false:=by with_unfolding_all rfl):QT X (.Compare i [.NotIn] [o] pos) (tB (tDNotIn ty td)):=⟨pt_cmp (pc_dnotin hu hi.u ho.u) hm⟩
theorem qs_dput (hu:X.A.units+1 < cLine) (ho:QE X o td) (hi:QE X i ty) (hv:QE X value tv) (hs:swapsWith value (some (.Subscript o i pos')) pos.line X.env=pure false:=by rfl) :
  QS X (.Assign [.Subscript o i pos'] value pos) (sDPut td ty tv):=⟨ps_dput hu ho.u hi.u hv.u hs⟩
theorem qe_dnewT:QE X (.Dict [] [] pos) tDNewT:=⟨pe_dnewT⟩
theorem qe_dget1 (hu:X.A.units+1 < cLine) (ho:QE X o td) (he:QE X e ty) (m:M1 X o "get" apos e cpos):QE X (.Call (.Attribute o "get" apos) [e] [] cpos) (tDGet1 td ty):=⟨pe_dget1 hu ho.u he.u m⟩
end
end L2
namespace L2
open PySem PySem.Spec PyProof.Rows
inductive D where
 | non
 | bl (b:Bool)
 | int (i:Int)
 | str (x:Str)
 | tup (xs:List D)
 | lst (xs:List D)
 | dT (ks:List (List Str)) (ds:List D)
 | dK (ks:List Str) (ds:List D)
 | scr (ns:List Int)
 | kt (ss:List Str)
 | exc (n:Str)
 | io (c:Addr) (ds:List D)
 | ioT (c:Addr) (ks:List (List Str)) (ds:List D)
def clsOf (K:PySem.W.Frag) (n:Str) (C:Addr):Prop:=PySem.W.nsIn K mainGlobals n=some (some (.ref C))
def wK (ws:List Str):List Key:=ws.map Sum.inr
def TupAt (K:PySem.W.Frag) (H:Hp) (a:Addr) (ds:List D) (xs:List V):Prop:=H a=some (.tup xs)∨(SqT K (fun _=>none) a xs∧D.str "" ∈ ds)
mutual
def Rep (K:PySem.W.Frag) (H:Hp):D→V→Prop
 | .non,v=>v=.non
 | .bl b,v=>v=.bl b
 | .int i,v=>v=.int i
 | .str x,v=>v=.str x
 | .tup ds,v=>∃ a xs,v=.ref a∧TupAt K H a ds xs∧Reps K H ds xs
 | .lst ds,v=>∃ a xs,v=.ref a∧H a=some (.lst xs)∧Reps K H ds xs
 | .dT ks ds,v=>∃ a kvs,v=.ref a∧Rd H a (.dT kvs)∧kvs.map (·.1)=ks.map wK∧Reps K H ds (kvs.map (·.2))
 | .dK ks ds,v=>∃ a kvs,v=.ref a∧H a=some (.dK kvs)∧kvs.map (·.1)=ks.map Sum.inr∧Reps K H ds (kvs.map (·.2))
 | .scr ns,v=>∃ a,v=.ref a∧SqL K H a (ns.map V.int)
 | .kt ss,v=>∃ a,v=.ref a∧SqT K (fun _=>none) a (ss.map V.str)
 | .exc n,v=>∃ a C,v=.ref a∧H a=some (excO a C)∧clsOf K n C
 | .io c ds,v=>∃ xs,v=.ref c∧H c=some (.lst xs)∧Reps K H ds xs
 | .ioT c ks ds,v=>∃ kvs,v=.ref c∧H c=some (.dT kvs)∧kvs.map (·.1)=ks.map wK∧Reps K H ds (kvs.map (·.2))
def Reps (K:PySem.W.Frag) (H:Hp):List D→List V→Prop
 | [],xs=>xs=[]
 | d :: ds,xs=>∃ x r,xs=x :: r∧Rep K H d x∧Reps K H ds r
end
noncomputable def eqD (d e:D):Bool:=@decide (d=e) (Classical.propDecidable _)
noncomputable def eqDs (d e:List D):Bool:=@decide (d=e) (Classical.propDecidable _)
theorem eqD_iff {d e:D}:eqD d e=true↔d=e:=@decide_eq_true_iff _ (Classical.propDecidable _)
theorem eqDs_iff {d e:List D}:eqDs d e=true↔d=e:=@decide_eq_true_iff _ (Classical.propDecidable _)
theorem eqD_eq {d e:D} (h:eqD d e=true):d=e:=eqD_iff.mp h
theorem eqDs_eq {d e:List D} (h:eqDs d e=true):d=e:=eqDs_iff.mp h
theorem eqD_refl (d:D):eqD d d=true:=eqD_iff.mpr rfl
theorem eqDs_refl (d:List D):eqDs d d=true:=eqDs_iff.mpr rfl
theorem bool_iff {a b:Bool} (h:a=true↔b=true):a=b:=by cases a <;> cases b <;> simp_all
theorem eqD_tup (ds es:List D):eqD (.tup ds) (.tup es)=eqDs ds es:=bool_iff (by rw [eqD_iff,eqDs_iff]; exact ⟨fun h=>D.tup.inj h,fun h=>h ▸ rfl⟩)
theorem eqD_lst (ds es:List D):eqD (.lst ds) (.lst es)=eqDs ds es:=bool_iff (by rw [eqD_iff,eqDs_iff]; exact ⟨fun h=>D.lst.inj h,fun h=>h ▸ rfl⟩)
def dV:D→Option V
 | .non=>some .non
 | .bl b=>some (.bl b)
 | .int i=>some (.int i)
 | .str x=>some (.str x)
 | _=>none
theorem dV_inj {d e:D} {v:V} (h:dV d=some v) (h':dV e=some v):d=e:=by
 cases d <;> cases e <;> simp_all [dV] <;> (subst h; simp_all)
theorem eqD_scal {d e:D} {v z:V} (h:dV d=some v) (h':dV e=some z):eqD d e=decide (v=z):=bool_iff (by
 rw [eqD_iff,decide_eq_true_iff]
 exact ⟨fun q=>by subst q; exact Option.some.inj (h.symm.trans h'),fun q=>by subst q; exact dV_inj h h'⟩)
mutual
def cmpD:D→D→Bool
 | .tup a,.tup b=>cmpDs a b
 | .lst a,.lst b=>cmpDs a b
 | .non,.non=>true | .non,.int _=>true | .int _,.non=>true | .non,.bl _=>true | .bl _,.non=>true | .non,.str _=>true | .str _,.non=>true
 | .int _,.int _=>true | .bl _,.bl _=>true | .str _,.str _=>true | .int _,.str _=>true | .str _,.int _=>true | .bl _,.str _=>true | .str _,.bl _=>true
 | _,_=>false
def cmpDs:List D→List D→Bool
 | x :: xs,y :: ys=>cmpD x y && cmpDs xs ys
 | _,_=>true
end
mutual
def depD:D→Nat
 | .tup a=>depDs a+1
 | .lst a=>depDs a+1
 | _=>0
def depDs:List D→Nat
 | []=>0
 | x :: xs=>max (depD x) (depDs xs)
end
theorem Same.emp (H:Hp):Same (fun _=>none) H:=fun _ _ h=>by cases h
theorem Same.sqT {K:PySem.W.Frag} {H H':Hp} (sm:Same H H') {a:Addr} {xs:List V} (h:SqT K H a xs):SqT K H' a xs:=by
 rcases h with (h | ⟨o,h⟩) | h
 ·exact .inl (.inl (sm _ _ h))
 ·exact .inl (.inr ⟨o,sm _ _ h⟩)
 ·exact .inr h
theorem TupAt.sq {K:PySem.W.Frag} {H:Hp} {a:Addr} {ds:List D} {xs:List V} (h:TupAt K H a ds xs):SqT K H a xs:=h.elim SqT.of fun q=>(Same.emp H).sqT q.1
theorem TupAt.same {K:PySem.W.Frag} {H H':Hp} {a:Addr} {ds:List D} {xs:List V} (h:TupAt K H a ds xs) (sm:Same H H'):TupAt K H' a ds xs:=h.elim (fun q=>.inl (sm _ _ q)) .inr
section
variable {X:Cx} {pins:List (Addr × Obj)} {σ:St} {H:Hp} {s:Shared}
mutual
theorem Rep.inj (I:Inv X pins σ H s):∀ {d e:D} {v:V},Rep X.K H d v→Rep X.K H e v→cmpD d e=true→d=e
 | .non,e,v,h,h',hc=>by
  unfold Rep at h
  subst h
  cases e <;> unfold Rep at h' <;> first | rfl | (obtain ⟨_,_,z,_⟩:=h'; cases z; done) | (obtain ⟨_,z,_⟩:=h'; cases z; done) | (cases h'; done)
 | .bl i,e,v,h,h',hc=>by
  unfold Rep at h
  subst h
  cases e <;> unfold Rep at h' <;> first | rfl | (obtain ⟨_,_,z,_⟩:=h'; cases z; done) | (obtain ⟨_,z,_⟩:=h'; cases z; done) | (cases h'; rfl) | (cases h'; done)
 | .int i,e,v,h,h',hc=>by
  unfold Rep at h
  subst h
  cases e <;> unfold Rep at h' <;> first | rfl | (obtain ⟨_,_,z,_⟩:=h'; cases z; done) | (obtain ⟨_,z,_⟩:=h'; cases z; done) | (cases h'; rfl) | (cases h'; done)
 | .str i,e,v,h,h',hc=>by
  unfold Rep at h
  subst h
  cases e <;> unfold Rep at h' <;> first | rfl | (obtain ⟨_,_,z,_⟩:=h'; cases z; done) | (obtain ⟨_,z,_⟩:=h'; cases z; done) | (cases h'; rfl) | (cases h'; done)
 | .tup ds,e,v,h,h',hc=>by
  cases e with
  | tup es =>
   unfold Rep at h h'
   obtain ⟨a,xs,rfl,ha,hr⟩:=h
   obtain ⟨b,ys,z,hb,hs⟩:=h'
   cases z
   cases I.tuple_inj ha.sq hb.sq
   unfold cmpD at hc
   rw [Reps.inj I hr hs hc]
  | _=>unfold cmpD at hc; cases hc
 | .lst ds,e,v,h,h',hc=>by
  cases e with
  | lst es =>
   unfold Rep at h h'
   obtain ⟨a,xs,rfl,ha,hr⟩:=h
   obtain ⟨b,ys,z,hb,hs⟩:=h'
   cases z
   rw [ha] at hb
   cases hb
   unfold cmpD at hc
   rw [Reps.inj I hr hs hc]
  | _=>unfold cmpD at hc; cases hc
 | .dT _ _,e,_,_,_,h=>by cases e <;> (unfold cmpD at h; cases h)
 | .dK _ _,e,_,_,_,h=>by cases e <;> (unfold cmpD at h; cases h)
 | .scr _,e,_,_,_,h=>by cases e <;> (unfold cmpD at h; cases h)
 | .kt _,e,_,_,_,h=>by cases e <;> (unfold cmpD at h; cases h)
 | .exc _,e,_,_,_,h=>by cases e <;> (unfold cmpD at h; cases h)
 | .io _ _,e,_,_,_,h=>by cases e <;> (unfold cmpD at h; cases h)
 | .ioT _ _ _,e,_,_,_,h=>by cases e <;> (unfold cmpD at h; cases h)
theorem Reps.inj (I:Inv X pins σ H s):∀ {ds es:List D} {xs:List V},Reps X.K H ds xs→Reps X.K H es xs→cmpDs ds es=true→ds=es
 | [],es,xs,h,h',_=>by
  unfold Reps at h
  subst h
  cases es with
  | nil=>rfl
  | cons e es=>unfold Reps at h'; obtain ⟨_,_,z,_⟩:=h'; cases z
 | d :: ds,es,xs,h,h',hc=>by
  unfold Reps at h
  obtain ⟨x,r,rfl,h1,h2⟩:=h
  cases es with
  | nil=>unfold Reps at h'; cases h'
  | cons e es =>
   unfold Reps at h'
   obtain ⟨x',r',z,h3,h4⟩:=h'
   cases z
   unfold cmpDs at hc
   rw [Bool.and_eq_true] at hc
   rw [Rep.inj I h1 h3 hc.1,Reps.inj I h2 h4 hc.2]
end
end
mutual
theorem Rep.same {K:PySem.W.Frag} {H H':Hp} (sm:Same H H'):∀ {d:D} {v:V},Rep K H d v→Rep K H' d v
 | .non,_,h=>h
 | .bl _,_,h=>h
 | .int _,_,h=>h
 | .str _,_,h=>h
 | .tup _,_,h=>by
  unfold Rep at h ⊢
  obtain ⟨a,xs,e,ha,r⟩:=h
  exact ⟨a,xs,e,ha.same sm,Reps.same sm r⟩
 | .lst _,_,h=>by
  unfold Rep at h ⊢
  obtain ⟨a,xs,e,ha,r⟩:=h
  exact ⟨a,xs,e,sm _ _ ha,Reps.same sm r⟩
 | .dT _ _,_,h=>by
  unfold Rep at h ⊢
  obtain ⟨a,xs,e,ha,k,r⟩:=h
  exact ⟨a,xs,e,ha.elim (fun q=>.inl (sm _ _ q)) fun ⟨o,q⟩=>.inr ⟨o,sm _ _ q⟩,k,Reps.same sm r⟩
 | .dK _ _,_,h=>by
  unfold Rep at h ⊢
  obtain ⟨a,xs,e,ha,k,r⟩:=h
  exact ⟨a,xs,e,sm _ _ ha,k,Reps.same sm r⟩
 | .scr _,_,h=>by
  unfold Rep at h ⊢
  obtain ⟨a,e,ha⟩:=h
  exact ⟨a,e,sm.seq ha⟩
 | .kt _,_,h=>h
 | .exc _,_,h=>by
  unfold Rep at h ⊢
  obtain ⟨a,C,e,ha,hc⟩:=h
  exact ⟨a,C,e,sm _ _ ha,hc⟩
 | .io _ _,_,h=>by
  unfold Rep at h ⊢
  obtain ⟨xs,e,ha,r⟩:=h
  exact ⟨xs,e,sm _ _ ha,Reps.same sm r⟩
 | .ioT _ _ _,_,h=>by
  unfold Rep at h ⊢
  obtain ⟨kvs,e,ha,k,r⟩:=h
  exact ⟨kvs,e,sm _ _ ha,k,Reps.same sm r⟩
theorem Reps.same {K:PySem.W.Frag} {H H':Hp} (sm:Same H H'):∀ {ds:List D} {xs:List V},Reps K H ds xs→Reps K H' ds xs
 | [],_,h=>h
 | _ :: _,_,h=>by
  unfold Reps at h ⊢
  obtain ⟨x,r,e,h1,h2⟩:=h
  exact ⟨x,r,e,Rep.same sm h1,Reps.same sm h2⟩
end
theorem Reps.length {K:PySem.W.Frag} {H:Hp}:∀ {ds:List D} {xs:List V},Reps K H ds xs→ds.length=xs.length
 | [],xs,h=>by unfold Reps at h; rw [h]; rfl
 | d :: ds,xs,h=>by
  unfold Reps at h
  obtain ⟨x,r,rfl,h1,h2⟩:=h
  rw [List.length_cons,List.length_cons,Reps.length h2]
theorem Reps.at {K:PySem.W.Frag} {H:Hp}:∀ {ds:List D} {xs:List V} {j:Nat} {d:D},Reps K H ds xs→ds[j]?=some d→∃ x,xs[j]?=some x∧Rep K H d x
 | [],xs,j,d,h,e=>by simp at e
 | d0 :: ds,xs,0,d,h,e=>by
  unfold Reps at h
  obtain ⟨x,r,rfl,h1,h2⟩:=h
  have e':d0=d:=by simpa using e
  subst e'
  exact ⟨x,rfl,h1⟩
 | d0 :: ds,xs,j+1,d,h,e=>by
  unfold Reps at h
  obtain ⟨x,r,rfl,h1,h2⟩:=h
  obtain ⟨y,h3,h4⟩:=Reps.at (j:=j) (d:=d) h2 (by simpa using e)
  exact ⟨y,by simpa using h3,h4⟩
theorem eqDs_range:∀ (ds es:List D),((List.range (min ds.length es.length)).all (fun j=>eqD (ds.getD j .non) (es.getD j .non)) && ds.length == es.length)=eqDs ds es:=by
 intro ds es
 cases h:eqDs ds es with
 | true =>
  have e:=eqDs_eq h
  subst e
  rw [Bool.and_eq_true]
  refine ⟨?_,by simp⟩
  rw [List.all_eq_true]
  intro j _
  exact eqD_refl _
 | false =>
  apply Classical.byContradiction
  intro hn
  have ht:=eq_true_of_ne_false hn
  rw [Bool.and_eq_true,List.all_eq_true] at ht
  obtain ⟨h1,h2⟩:=ht
  have hl:ds.length=es.length:=by simpa using h2
  have e:ds=es:=by
   apply List.ext_getElem hl
   intro i hi1 hi2
   have:=eqD_eq (h1 i (by rw [List.mem_range]; lia))
   simpa [List.getD_eq_getElem?_getD,hi1,hi2] using this
  rw [e,eqDs_refl] at h
  cases h
theorem cmpDs_at:∀ {ds es:List D} {j:Nat} {d e:D},cmpDs ds es=true→ds[j]?=some d→es[j]?=some e→cmpD d e=true
 | [],_,j,d,e,_,h,_=>by simp at h
 | _ :: _,[],j,d,e,_,_,h=>by simp at h
 | d0 :: ds,e0 :: es,0,d,e,h,h1,h2=>by
  unfold cmpDs at h
  rw [Bool.and_eq_true] at h
  have q1:d0=d:=by simpa using h1
  have q2:e0=e:=by simpa using h2
  subst q1 q2
  exact h.1
 | d0 :: ds,e0 :: es,j+1,d,e,h,h1,h2=>by
  unfold cmpDs at h
  rw [Bool.and_eq_true] at h
  exact cmpDs_at (j:=j) h.2 (by simpa using h1) (by simpa using h2)
theorem depDs_at:∀ {ds:List D} {j:Nat} {d:D},ds[j]?=some d→depD d≤depDs ds
 | [],j,d,h=>by simp at h
 | d0 :: ds,0,d,h=>by
  have q:d0=d:=by simpa using h
  subst q
  unfold depDs
  exact Nat.le_max_left _ _
 | d0 :: ds,j+1,d,h=>by
  have:=depDs_at (j:=j) (d:=d) (ds:=ds) (by simpa using h)
  unfold depDs
  exact Nat.le_trans this (Nat.le_max_right _ _)
section
variable {X:Cx} {pins:List (Addr × Obj)} {σ:St} {H:Hp} {s:Shared}
theorem rep_scal {d:D} {v:V} (h:Rep X.K H d v) {z:V} (e:dV d=some z):v=z:=by
 cases d <;> first | (unfold Rep at h; subst h; exact Option.some.inj e) | (cases e; done)
theorem scal_of {d e:D} (h:cmpD d e=true) (h0:∀ ds,d≠.tup ds) (h1:∀ ds,d≠.lst ds):∃ v z,dV d=some v∧dV e=some z∧scal v z=true:=by
 cases d <;> cases e <;> first | exact ⟨_,_,rfl,rfl,rfl⟩ | exact absurd rfl (h0 _) | exact absurd rfl (h1 _) | (unfold cmpD at h; cases h; done)
theorem flat_dV {d:D} {v:V} (h:dV d=some v):flatV v=true:=by
 cases d <;> first | (cases h; rfl) | (cases h; done)
theorem eqV_scal {v z:V} (h:scal v z=true) (hv:flatV v=true):eqV v z=decide (v=z):=by
 cases v <;> cases z <;> first | (cases h; done) | (cases hv; done) | rfl | (simp [eqV]; done) | (unfold eqV; exact bool_iff (by simp))
theorem items_D {A':Around} {ds es:List D} {xs ys:List V} {its its2:List Value} (r1:Reps X.K H ds xs) (r2:Reps X.K H es ys) (v1:Vals xs its) (v2:Vals ys its2) (hc:cmpDs ds es=true)
  (ih:∀ d∈ds,∀ (e:D) (v z:V) (u w:Value),Rep X.K H d v→Rep X.K H e z→RelV v u→RelV z w→cmpD d e=true→SeqAt.EqAt A' s u w (eqD d e)) :
  ∀ j (h1:j < its.toArray.size) (h2:j < its2.toArray.size),SeqAt.EqAt A' s its.toArray[j] its2.toArray[j] (eqD (ds.getD j .non) (es.getD j .non)):=fun j h1 h2=>by
 have l1:j < ds.length:=by rw [r1.length,v1.length]; simpa using h1
 have l2:j < es.length:=by rw [r2.length,v2.length]; simpa using h2
 have q1:ds[j]?=some ds[j]:=List.getElem?_eq_getElem l1
 have q2:es[j]?=some es[j]:=List.getElem?_eq_getElem l2
 obtain ⟨x,hx,rx⟩:=r1.at q1
 obtain ⟨y,hy,ry⟩:=r2.at q2
 obtain ⟨ux,hux,rux⟩:=v1.get hx
 obtain ⟨uy,huy,ruy⟩:=v2.get hy
 have e1:its.toArray[j]=ux:=by
  have:its[j]?=some its.toArray[j]:=by simp
  rw [hux] at this
  exact (Option.some.inj this).symm
 have e2:its2.toArray[j]=uy:=by
  have:its2[j]?=some its2.toArray[j]:=by simp
  rw [huy] at this
  exact (Option.some.inj this).symm
 have e3:ds.getD j .non=ds[j]:=by simp [List.getD_eq_getElem?_getD,l1]
 have e4:es.getD j .non=es[j]:=by simp [List.getD_eq_getElem?_getD,l2]
 rw [e1,e2,e3,e4]
 exact ih ds[j] (List.getElem_mem l1) es[j] x y ux uy rx ry rux ruy (cmpDs_at hc q1 q2)
theorem rc_tup {A:Around} (I:Inv X pins σ H s) {a b:Addr} {ds es:List D} {xs ys:List V} (ha:SqT X.K H a xs) (hb:SqT X.K H b ys) (r1:Reps X.K H ds xs) (r2:Reps X.K H es ys) (hc:cmpDs ds es=true) (hu:A.units < cLine)
  (ih:∀ d∈ds,∀ (e:D) (v z:V) (u w:Value),Rep X.K H d v→Rep X.K H e z→RelV v u→RelV z w→cmpD d e=true→SeqAt.EqAt A.in1 s u w (eqD d e)):SeqAt.RcAt A s (.ref a) (.ref b) (eqD (.tup ds) (.tup es)):=by
 obtain ⟨its,v1,p1,_⟩:=I.tuple ha
 obtain ⟨its2,v2,p2,_⟩:=I.tuple hb
 have:=SeqAt.RcAt.tuples (A:=A) (s:=s) (e:=fun j=>eqD (ds.getD j .non) (es.getD j .non)) (show s.heap.IsTuple a its.toArray from p1) (show s.heap.IsTuple b its2.toArray from p2) hu (items_D r1 r2 v1 v2 hc ih)
 rw [List.size_toArray,List.size_toArray,← v1.length,← v2.length,← r1.length,← r2.length,eqDs_range] at this
 rw [eqD_tup]
 exact this
theorem rc_lst {A:Around} (I:Inv X pins σ H s) {a b:Addr} {ds es:List D} {xs ys:List V} (ha:H a=some (.lst xs)) (hb:H b=some (.lst ys)) (r1:Reps X.K H ds xs) (r2:Reps X.K H es ys) (hc:cmpDs ds es=true) (hu:A.units < cLine)
  (ih:∀ d∈ds,∀ (e:D) (v z:V) (u w:Value),Rep X.K H d v→Rep X.K H e z→RelV v u→RelV z w→cmpD d e=true→SeqAt.EqAt A.in1 s u w (eqD d e)):SeqAt.RcAt A s (.ref a) (.ref b) (eqD (.lst ds) (.lst es)):=by
 obtain ⟨its,v1,p1,_⟩:=I.list (SqL.of ha)
 obtain ⟨its2,v2,p2,_⟩:=I.list (SqL.of hb)
 have er:=eqDs_range ds es
 rw [eqD_lst]
 by_cases hl:ds.length=es.length
 ·have hz:its.toArray.size=its2.toArray.size:=by rw [List.size_toArray,List.size_toArray,← v1.length,← v2.length,← r1.length,← r2.length,hl]
  have:=SeqAt.RcAt.lists (A:=A) (s:=s) (e:=fun j=>eqD (ds.getD j .non) (es.getD j .non)) p1.isList p2.isList hz hu (items_D r1 r2 v1 v2 hc ih)
  rw [List.size_toArray,← v1.length,← r1.length] at this
  rw [← hl,Nat.min_self] at er
  have e2:(ds.length == ds.length)=true:=by simp
  rw [e2,Bool.and_true] at er
  rw [er] at this
  exact this
 ·have e2:(ds.length == es.length)=false:=by simpa using hl
  rw [e2,Bool.and_false] at er
  rw [← er]
  refine SeqAt.RcAt.lists_lengths p1.isList p2.isList ?_ hu
  rw [List.size_toArray,List.size_toArray,← v1.length,← v2.length,← r1.length,← r2.length]
  simpa using hl
theorem depD_mem {ds:List D} {d:D} (h:d∈ds):depD d≤depDs ds:=by
 obtain ⟨j,hj⟩:=List.mem_iff_getElem?.mp h
 exact depDs_at hj
theorem eqAt_D (I:Inv X pins σ H s):∀ (n:Nat) (A:Around) (d e:D) (v z:V) (u w:Value),sizeOf d≤n→Rep X.K H d v→Rep X.K H e z→RelV v u→RelV z w→cmpD d e=true→A.units+depD d < cLine→SeqAt.EqAt A s u w (eqD d e)
 | 0,_,d,_,_,_,_,_,hn,_,_,_,_,_,_=>by cases d <;> simp at hn
 | n+1,A,d,e,v,z,u,w,hn,hd,he,ru,rw',hc,hu=>by
  have un:A.in1.units=A.units+1:=rfl
  cases d with
  | tup ds =>
   cases e with
   | tup es =>
    have hd':=hd
    have he':=he
    unfold Rep at hd he
    obtain ⟨a,xs,rfl,ha,r1⟩:=hd
    obtain ⟨b,ys,rfl,hb,r2⟩:=he
    cases ru
    cases rw'
    unfold depD at hu
    by_cases hab:a=b
    ·subst hab
     rw [Rep.inj I hd' he' hc,eqD_refl]
     exact SeqAt.EqAt.same _
    ·unfold cmpD at hc
     refine SeqAt.EqAt.of_refs hab (rc_tup I ha.sq hb.sq r1 r2 hc (by lia) fun d hd e v z u w h1 h2 h3 h4 h5=>eqAt_D I n A.in1 d e v z u w ?_ h1 h2 h3 h4 h5 ?_)
     ·have:=List.sizeOf_lt_of_mem hd
      simp at hn
      lia
     ·have:=depD_mem hd
      lia
   | _=>unfold cmpD at hc; cases hc
  | lst ds =>
   cases e with
   | lst es =>
    have hd':=hd
    have he':=he
    unfold Rep at hd he
    obtain ⟨a,xs,rfl,ha,r1⟩:=hd
    obtain ⟨b,ys,rfl,hb,r2⟩:=he
    cases ru
    cases rw'
    unfold depD at hu
    by_cases hab:a=b
    ·subst hab
     rw [Rep.inj I hd' he' hc,eqD_refl]
     exact SeqAt.EqAt.same _
    ·unfold cmpD at hc
     refine SeqAt.EqAt.of_refs hab (rc_lst I ha hb r1 r2 hc (by lia) fun d hd e v z u w h1 h2 h3 h4 h5=>eqAt_D I n A.in1 d e v z u w ?_ h1 h2 h3 h4 h5 ?_)
     ·have:=List.sizeOf_lt_of_mem hd
      simp at hn
      lia
     ·have:=depD_mem hd
      lia
   | _=>unfold cmpD at hc; cases hc
  | _ =>
   obtain ⟨v',z',q1,q2,q3⟩:=scal_of hc (fun _ h=>by cases h) (fun _ h=>by cases h)
   have e1:=rep_scal hd q1
   have e2:=rep_scal he q2
   subst e1 e2
   rw [eqD_scal q1 q2,← eqV_scal q3 (flat_dV q1)]
   exact eqAt_V ru rw' (flat_dV q1) (flat_dV q2)
def rEqD (K:PySem.W.Frag) (g:Bool→Bool):R2:=fun x y H Q=>∃ d e,Rep K H d x∧Rep K H e y∧cmpD d e=true∧depD d≤50∧Q (.bl (g (eqD d e))) H
theorem op_eqD (hu:X.A.units+60 < cLine):OpR X (compareOp .Eq) (rEqD X.K id):=by
 intro pins s σ H x y v u Q I rx ry h
 obtain ⟨d,e,hd,he,hc,hn,q⟩:=h
 have fin:EP X pins σ Q (.bool (eqD d e)) s:=⟨.bl (eqD d e),H,I,rfl,q⟩
 have un:X.A.in1.units=X.A.units+1:=rfl
 cases d with
 | tup ds =>
  cases e with
  | tup es =>
   unfold Rep at hd he
   obtain ⟨a,xs,rfl,ha,r1⟩:=hd
   obtain ⟨b,ys,rfl,hb,r2⟩:=he
   cases rx
   cases ry
   unfold cmpD at hc
   unfold depD at hn
   exact rc_tup I ha.sq hb.sq r1 r2 hc (by lia) (fun d hd e v z u w h1 h2 h3 h4 h5=>eqAt_D I _ X.A.in1 d e v z u w (Nat.le_refl _) h1 h2 h3 h4 h5 (by have:=depD_mem hd; lia)) _ _ _ _ fin
  | _=>unfold cmpD at hc; cases hc
 | lst ds =>
  cases e with
  | lst es =>
   unfold Rep at hd he
   obtain ⟨a,xs,rfl,ha,r1⟩:=hd
   obtain ⟨b,ys,rfl,hb,r2⟩:=he
   cases rx
   cases ry
   unfold cmpD at hc
   unfold depD at hn
   exact rc_lst I ha hb r1 r2 hc (by lia) (fun d hd e v z u w h1 h2 h3 h4 h5=>eqAt_D I _ X.A.in1 d e v z u w (Nat.le_refl _) h1 h2 h3 h4 h5 (by have:=depD_mem hd; lia)) _ _ _ _ fin
  | _=>unfold cmpD at hc; cases hc
 | _ =>
  obtain ⟨v',z',q1,q2,q3⟩:=scal_of hc (fun _ h=>by cases h) (fun _ h=>by cases h)
  have e1:=rep_scal hd q1
  have e2:=rep_scal he q2
  subst e1 e2
  have q':Q (.bl (eqD _ _)) H:=q
  rw [eqD_scal q1 q2] at q'
  exact op_eq pins s σ H _ _ v u Q I rx ry ⟨q3,q'⟩
end
end L2
namespace L2
open PySem PySem.Spec PyProof.Rows
inductive R where
 | val (d:D)
 | own (d:D)
 | peek (d:D)
 | exc (n:Str)
def R.d:R→D
 | .val d=>d
 | .own d=>d
 | .peek d=>d
 | .exc _=>.scr []
abbrev VSt:=List (Option R)
def ioA:D→Option Addr
 | .io c _=>some c
 | .ioT c _ _=>some c
 | _=>none
def OwnAt (K:PySem.W.Frag) (B H:Hp) (d:D) (a:Addr):Prop:=match d with
 | .lst ds=>∃ xs,H a=some (.lst xs)∧Reps K B ds xs
 | .dT ks ds=>∃ kvs,H a=some (.dT kvs)∧kvs.map (·.1)=ks.map wK∧Reps K B ds (kvs.map (·.2))
 | .dK ks ds=>∃ kvs,H a=some (.dK kvs)∧kvs.map (·.1)=ks.map Sum.inr∧Reps K B ds (kvs.map (·.2))
 | .io c ds=>∃ xs,H a=some (.lst xs)∧a=c∧Reps K B ds xs
 | .ioT c ks ds=>∃ kvs,H a=some (.dT kvs)∧a=c∧kvs.map (·.1)=ks.map wK∧Reps K B ds (kvs.map (·.2))
 | _=>False
def Pk (K:PySem.W.Frag) (B H:Hp) (r:R) (v:V):Prop:=match r with
 | .val d=>Rep K B d v
 | .own d=>∃ a,v=.ref a∧B a=none∧OwnAt K B H d a
 | .peek d=>∃ a,v=.ref a∧B a=none∧OwnAt K B H d a
 | .exc _=>False
def RepR (K:PySem.W.Frag) (B H0 H:Hp) (r:R) (v:V):Prop:=match r with
 | .val d=>Rep K B d v
 | .own d=>∃ a,v=.ref a∧H0 a=none∧B a=none∧OwnAt K B H d a
 | .peek d=>∃ a,v=.ref a∧B a=none∧OwnAt K B H d a
 | .exc _=>False
structure Stp (B H B' H':Hp):Prop where
 b:Same B B'
 h:Same H H'
 s:Same B' H'
 d:∀ a,B' a≠none→B a≠none∨H a=none∨∃ xs,H a=some (.tup xs)
theorem Stp.refl {B H:Hp} (s:Same B H):Stp B H B H:=⟨Same.refl _,Same.refl _,s,fun _ h=>.inl h⟩
theorem Stp.trans {B H B1 H1 B2 H2:Hp} (p:Stp B H B1 H1) (q:Stp B1 H1 B2 H2):Stp B H B2 H2 :=
 ⟨p.b.trans q.b,p.h.trans q.h,q.s,fun a h=>by
  rcases q.d a h with z | z | ⟨xs,z⟩
  ·exact p.d a z
  ·exact .inr (.inl (p.h.free z))
  ·cases e:H a with
   | none=>exact .inr (.inl rfl)
   | some o =>
    rw [p.h _ _ e] at z
    exact .inr (.inr ⟨xs,z⟩)⟩
theorem Stp.keep {B H B' H':Hp} (p:Stp B H B' H') {a:Addr} (hb:B a=none) (hh:H a≠none) (nt:∀ xs,H a≠some (.tup xs)):B' a=none:=by
 cases e:B' a with
 | none=>rfl
 | some o =>
  rcases p.d a (by rw [e]; exact fun z=>by cases z) with z | z | ⟨xs,z⟩
  ·exact absurd hb z
  ·exact absurd z hh
  ·exact absurd z (nt xs)
theorem Stp.grow {B H H':Hp} (s:Same B H) (h:Same H H'):Stp B H B H':=⟨Same.refl _,h,s.trans h,fun _ z=>.inl z⟩
theorem Stp.new {B H:Hp} {p:Addr} {o:HO} (s:Same B H) (hp:H p=none):Stp B H (upd B p o) (upd H p o) :=
 ⟨same_upd (s.free hp) o,same_upd hp o,fun b u e=>by
  unfold upd at e ⊢
  by_cases z:b=p
  ·rw [if_pos z] at e ⊢
   exact e
  ·rw [if_neg z] at e ⊢
   exact s _ _ e,fun a h=>by
  by_cases z:a=p
  ·exact .inr (.inl (z ▸ hp))
  ·rw [upd_ne z] at h
   exact .inl h⟩
section
variable {K:PySem.W.Frag} {B H B' H' H0:Hp} {d:D} {a:Addr} {r:R} {v:V}
theorem OwnAt.some (h:OwnAt K B H d a):H a≠none:=by
 unfold OwnAt at h
 split at h
 ·obtain ⟨xs,e,_⟩:=h; rw [e]; exact fun z=>by cases z
 ·obtain ⟨xs,e,_⟩:=h; rw [e]; exact fun z=>by cases z
 ·obtain ⟨xs,e,_⟩:=h; rw [e]; exact fun z=>by cases z
 ·obtain ⟨xs,e,_⟩:=h; rw [e]; exact fun z=>by cases z
 ·obtain ⟨xs,e,_⟩:=h; rw [e]; exact fun z=>by cases z
 ·exact h.elim
theorem OwnAt.nt (h:OwnAt K B H d a):∀ xs,H a≠Option.some (.tup xs):=by
 intro ys
 unfold OwnAt at h
 split at h
 ·obtain ⟨xs,e,_⟩:=h; rw [e]; exact fun z=>by cases z
 ·obtain ⟨xs,e,_⟩:=h; rw [e]; exact fun z=>by cases z
 ·obtain ⟨xs,e,_⟩:=h; rw [e]; exact fun z=>by cases z
 ·obtain ⟨xs,e,_⟩:=h; rw [e]; exact fun z=>by cases z
 ·obtain ⟨xs,e,_⟩:=h; rw [e]; exact fun z=>by cases z
 ·exact h.elim
theorem OwnAt.step (h:OwnAt K B H d a) (b:Same B B') (e:H' a=H a):OwnAt K B' H' d a:=by
 unfold OwnAt at h ⊢
 split at h
 ·obtain ⟨xs,q,r⟩:=h; exact ⟨xs,by rw [e,q],r.same b⟩
 ·obtain ⟨xs,q,k,r⟩:=h; exact ⟨xs,by rw [e,q],k,r.same b⟩
 ·obtain ⟨xs,q,k,r⟩:=h; exact ⟨xs,by rw [e,q],k,r.same b⟩
 ·obtain ⟨xs,q,k,r⟩:=h; exact ⟨xs,by rw [e,q],k,r.same b⟩
 ·obtain ⟨xs,q,z,k,r⟩:=h; exact ⟨xs,by rw [e,q],z,k,r.same b⟩
 ·exact h.elim
theorem Same.at {a:Addr} (h:Same H H') (n:H a≠none):H' a=H a:=by
 cases e:H a with
 | none=>exact absurd e n
 | some o=>exact h _ _ e
theorem Pk.step (h:Pk K B H r v) (p:Stp B H B' H'):Pk K B' H' r v:=by
 cases r with
 | val d=>exact Rep.same p.b h
 | own d =>
  obtain ⟨a,e,q,o⟩:=h
  exact ⟨a,e,p.keep q o.some o.nt,o.step p.b (p.h.at o.some)⟩
 | peek d =>
  obtain ⟨a,e,q,o⟩:=h
  exact ⟨a,e,p.keep q o.some o.nt,o.step p.b (p.h.at o.some)⟩
 | exc n=>exact h.elim
theorem RepR.pk (h:RepR K B H0 H r v):Pk K B H r v:=by
 cases r with
 | val d=>exact h
 | own d =>
  obtain ⟨a,e,_,q,o⟩:=h
  exact ⟨a,e,q,o⟩
 | peek d=>exact h
 | exc n=>exact h
theorem OwnAt.rep (s:Same B H) (h:OwnAt K B H d a):Rep K H d (.ref a):=by
 unfold OwnAt at h
 split at h
 ·obtain ⟨xs,q,r⟩:=h; unfold Rep; exact ⟨a,xs,rfl,q,r.same s⟩
 ·obtain ⟨xs,q,k,r⟩:=h; unfold Rep; exact ⟨a,xs,rfl,.inl q,k,r.same s⟩
 ·obtain ⟨xs,q,k,r⟩:=h; unfold Rep; exact ⟨a,xs,rfl,q,k,r.same s⟩
 ·obtain ⟨xs,q,rfl,r⟩:=h; unfold Rep; exact ⟨xs,rfl,q,r.same s⟩
 ·obtain ⟨xs,q,rfl,k,r⟩:=h; unfold Rep; exact ⟨xs,rfl,q,k,r.same s⟩
 ·exact h.elim
theorem Pk.rep (s:Same B H) (h:Pk K B H r v):Rep K H r.d v:=by
 cases r with
 | val d=>exact Rep.same s h
 | own d =>
  obtain ⟨a,rfl,_,o⟩:=h
  exact o.rep s
 | peek d =>
  obtain ⟨a,rfl,_,o⟩:=h
  exact o.rep s
 | exc n=>exact h.elim
theorem OwnAt.pub (h:OwnAt K B H d a) (hb:B a=none):∃ o,H a=Option.some o∧Rep K (upd B a o) d (.ref a):=by
 unfold OwnAt at h
 split at h
 ·obtain ⟨xs,q,r⟩:=h
  refine ⟨_,q,?_⟩
  unfold Rep
  exact ⟨a,xs,rfl,upd_same,r.same (same_upd hb _)⟩
 ·obtain ⟨xs,q,k,r⟩:=h
  refine ⟨_,q,?_⟩
  unfold Rep
  exact ⟨a,xs,rfl,.inl upd_same,k,r.same (same_upd hb _)⟩
 ·obtain ⟨xs,q,k,r⟩:=h
  refine ⟨_,q,?_⟩
  unfold Rep
  exact ⟨a,xs,rfl,upd_same,k,r.same (same_upd hb _)⟩
 ·obtain ⟨xs,q,rfl,r⟩:=h
  refine ⟨_,q,?_⟩
  unfold Rep
  exact ⟨xs,rfl,upd_same,r.same (same_upd hb _)⟩
 ·obtain ⟨xs,q,rfl,k,r⟩:=h
  refine ⟨_,q,?_⟩
  unfold Rep
  exact ⟨xs,rfl,upd_same,k,r.same (same_upd hb _)⟩
 ·exact h.elim
theorem same_updL {o:HO} (s:Same B H) (e:H a=Option.some o):Same (upd B a o) H:=fun b u q=>by
 unfold upd at q
 by_cases z:b=a
 ·rw [if_pos z] at q
  rw [z,e]
  exact q
 ·rw [if_neg z] at q
  exact s _ _ q
def pubR:R→(D→Prop)→Prop
 | .val d,Q=>Q d
 | .own d,Q=>Q d
 | .peek _,_=>False
 | .exc _,_=>False
def exR:R→(R→Prop)→Prop→Prop
 | .exc n,Q,_=>Q (.exc n)
 | .val _,_,k=>k
 | .own _,_,k=>k
 | .peek _,_,k=>k
theorem pub {Q:D→Prop} (p:Stp B H B' H') (h:RepR K B' H H' r v) (q:pubR r Q):∃ d B2,Stp B H B2 H'∧Same B' B2∧Rep K B2 d v∧Q d:=by
 cases r with
 | val d=>exact ⟨d,B',p,Same.refl _,h,q⟩
 | own d =>
  obtain ⟨a,rfl,h0,hb,o⟩:=h
  obtain ⟨u,e,rp⟩:=o.pub hb
  refine ⟨d,upd B' a u,⟨p.b.trans (same_upd hb _),p.h,same_updL p.s e,fun c z=>?_⟩,same_upd hb _,rp,q⟩
  by_cases w:c=a
  ·exact .inr (.inl (w ▸ h0))
  ·rw [upd_ne w] at z
   exact p.d c z
 | peek d=>exact q.elim
 | exc n=>exact q.elim
def FzAt (K:PySem.W.Frag) (B:Hp) (d:D) (v:V):Prop:=∃ a ks ds kvs o,d=.dT ks ds∧v=.ref a∧B a=some (.frz o (.dT kvs))∧kvs.map (·.1)=ks.map wK∧Reps K B ds (kvs.map (·.2))
theorem FzAt.same (h:FzAt K B d v) (s:Same B B'):FzAt K B' d v:=by
 obtain ⟨a,ks,ds,kvs,o,e1,e2,e3,e4,e5⟩:=h
 exact ⟨a,ks,ds,kvs,o,e1,e2,s _ _ e3,e4,e5.same s⟩
theorem FzAt.rep (h:FzAt K B d v):Rep K B d v:=by
 obtain ⟨a,ks,ds,kvs,o,rfl,e2,e3,e4,e5⟩:=h
 unfold Rep
 exact ⟨a,kvs,e2,.inr ⟨o,e3⟩,e4,e5⟩
structure Slots (K:PySem.W.Frag) (H0 B H:Hp) (τ:VSt) (σ:St):Prop where
 len:σ.length=τ.length
 val:∀ (i:Nat) (d:D),τ[i]?=some (some (R.val d))→∃ v,σ[i]?=some (some v)∧Rep K B d v
 fz:∀ (i:Nat) (d:D),τ[i]?=some (some (R.peek d))→∃ v,σ[i]?=some (some v)∧FzAt K B d v
 own:∀ (i:Nat) (d:D),τ[i]?=some (some (R.own d))→∃ a,σ[i]?=some (some (.ref a))∧H0 a=none∧B a=none∧OwnAt K B H d a
 sep:∀ (i j:Nat) (d e:D) (a:Addr),τ[i]?=some (some (R.own d))→τ[j]?=some (some (R.own e))→σ[i]?=some (some (.ref a))→σ[j]?=some (some (.ref a))→i=j
variable {τ:VSt} {σ:St}
theorem Slots.step (S:Slots K H0 B H τ σ) (p:Stp B H B' H'):Slots K H0 B' H' τ σ where
 len:=S.len
 val:=fun i d e=>let ⟨v,q,r⟩:=S.val i d e; ⟨v,q,r.same p.b⟩
 fz:=fun i d e=>let ⟨v,q,r⟩:=S.fz i d e; ⟨v,q,r.same p.b⟩
 own:=fun i d e=>let ⟨a,q,h0,hb,o⟩:=S.own i d e; ⟨a,q,h0,p.keep hb o.some o.nt,o.step p.b (p.h.at o.some)⟩
 sep:=S.sep
theorem getSet {α:Type} {xs:List α} {i j:Nat} {x y:α} (h:(xs.set i x)[j]?=some y):(i=j∧x=y∧i < xs.length)∨(i≠j∧xs[j]?=some y):=by
 by_cases e:i=j
 ·subst e
  by_cases l:i < xs.length
  ·rw [List.getElem?_set_self l] at h
   exact .inl ⟨rfl,Option.some.inj h,l⟩
  ·rw [List.getElem?_eq_none (by rw [List.length_set]; lia)] at h
   cases h
 ·rw [List.getElem?_set_ne e] at h
  exact .inr ⟨e,h⟩
theorem Slots.setVal (S:Slots K H0 B H τ σ) (i:Nat) (h:Rep K B d v):Slots K H0 B H (τ.set i (some (.val d))) (σ.set i (some v)) where
 len:=by rw [List.length_set,List.length_set,S.len]
 val:=fun j e q=>by
  rcases getSet q with ⟨rfl,z,l⟩ | ⟨n,q⟩
  ·cases z
   exact ⟨v,List.getElem?_set_self (by rw [S.len]; exact l),h⟩
  ·obtain ⟨w,q,r⟩:=S.val j e q
   exact ⟨w,by rw [List.getElem?_set_ne n]; exact q,r⟩
 fz:=fun j e q=>by
  rcases getSet q with ⟨rfl,z,l⟩ | ⟨n,q⟩
  ·cases z
  ·obtain ⟨w,q,r⟩:=S.fz j e q
   exact ⟨w,by rw [List.getElem?_set_ne n]; exact q,r⟩
 own:=fun j e q=>by
  rcases getSet q with ⟨rfl,z,l⟩ | ⟨n,q⟩
  ·cases z
  ·obtain ⟨w,q,r⟩:=S.own j e q
   exact ⟨w,by rw [List.getElem?_set_ne n]; exact q,r⟩
 sep:=fun j k e f c q1 q2 q3 q4=>by
  rcases getSet q1 with ⟨rfl,z,l⟩ | ⟨n,q1⟩
  ·cases z
  rcases getSet q2 with ⟨rfl,z,l⟩ | ⟨n2,q2⟩
  ·cases z
  rw [List.getElem?_set_ne n] at q3
  rw [List.getElem?_set_ne n2] at q4
  exact S.sep j k e f c q1 q2 q3 q4
theorem Slots.setOwn (S:Slots K H0 B H τ σ) (i:Nat) (h0:H0 a=none) (hb:B a=none) (o:OwnAt K B H d a) (nw:∀ (j:Nat) (e:D),τ[j]?=some (some (.own e))→σ[j]?≠some (some (.ref a))) :
  Slots K H0 B H (τ.set i (some (.own d))) (σ.set i (some (.ref a))) where
 len:=by rw [List.length_set,List.length_set,S.len]
 val:=fun j e q=>by
  rcases getSet q with ⟨rfl,z,l⟩ | ⟨n,q⟩
  ·cases z
  ·obtain ⟨w,q,r⟩:=S.val j e q
   exact ⟨w,by rw [List.getElem?_set_ne n]; exact q,r⟩
 fz:=fun j e q=>by
  rcases getSet q with ⟨rfl,z,l⟩ | ⟨n,q⟩
  ·cases z
  ·obtain ⟨w,q,r⟩:=S.fz j e q
   exact ⟨w,by rw [List.getElem?_set_ne n]; exact q,r⟩
 own:=fun j e q=>by
  rcases getSet q with ⟨rfl,z,l⟩ | ⟨n,q⟩
  ·cases z
   exact ⟨a,List.getElem?_set_self (by rw [S.len]; exact l),h0,hb,o⟩
  ·obtain ⟨w,q,r⟩:=S.own j e q
   exact ⟨w,by rw [List.getElem?_set_ne n]; exact q,r⟩
 sep:=fun j k e f c q1 q2 q3 q4=>by
  rcases getSet q1 with ⟨rfl,z,l⟩ | ⟨n,q1⟩
  ·rcases getSet q2 with ⟨rfl,z,l2⟩ | ⟨n2,q2⟩
   ·rfl
   ·rw [List.getElem?_set_self (by rw [S.len]; exact l)] at q3
    cases q3
    rw [List.getElem?_set_ne n2] at q4
    exact absurd q4 (nw k f q2)
  ·rcases getSet q2 with ⟨rfl,z,l2⟩ | ⟨n2,q2⟩
   ·rw [List.getElem?_set_self (by rw [S.len]; exact l2)] at q4
    cases q4
    rw [List.getElem?_set_ne n] at q3
    exact absurd q3 (nw j e q1)
   ·rw [List.getElem?_set_ne n] at q3
    rw [List.getElem?_set_ne n2] at q4
    exact S.sep j k e f c q1 q2 q3 q4
theorem Slots.upd (S:Slots K H0 B H τ σ) {i:Nat} {e:D} {o:HO} (hi:τ[i]?=some (some (.own e))) (ha:σ[i]?=some (some (.ref a))) (n:OwnAt K B (upd H a o) d a) :
  Slots K H0 B (upd H a o) (τ.set i (some (.own d))) σ where
 len:=by rw [List.length_set,S.len]
 val:=fun j f q=>by
  rcases getSet q with ⟨rfl,z,l⟩ | ⟨n,q⟩
  ·cases z
  ·exact S.val j f q
 fz:=fun j f q=>by
  rcases getSet q with ⟨rfl,z,l⟩ | ⟨n,q⟩
  ·cases z
  ·exact S.fz j f q
 own:=fun j f q=>by
  rcases getSet q with ⟨rfl,z,l⟩ | ⟨ne,q⟩
  ·cases z
   obtain ⟨c,q1,h0,hb,_⟩:=S.own i e hi
   rw [ha] at q1
   cases q1
   exact ⟨a,ha,h0,hb,n⟩
  ·obtain ⟨c,q1,h0,hb,w⟩:=S.own j f q
   refine ⟨c,q1,h0,hb,w.step (Same.refl _) (upd_ne fun z=>?_)⟩
   subst z
   exact ne (S.sep i j e f c hi q ha q1)
 sep:=fun j k e' f c q1 q2 q3 q4=>by
  have hj:∃ e',τ[j]?=some (some (.own e')):=by
   rcases getSet q1 with ⟨rfl,z,l⟩ | ⟨_,q⟩
   ·exact ⟨e,hi⟩
   ·exact ⟨_,q⟩
  have hk:∃ e',τ[k]?=some (some (.own e')):=by
   rcases getSet q2 with ⟨rfl,z,l⟩ | ⟨_,q⟩
   ·exact ⟨e,hi⟩
   ·exact ⟨_,q⟩
  obtain ⟨_,hj⟩:=hj
  obtain ⟨_,hk⟩:=hk
  exact S.sep j k _ _ c hj hk q3 q4
theorem Stp.upd (p:Stp B H B' H') {o:HO} (h0:H a=none) (hb:B' a=none):Stp B H B' (L2.upd H' a o) :=
 ⟨p.b,p.h.put h0,fun b u q=>by
  rw [upd_ne (fun z=>by rw [z,hb] at q; cases q)]
  exact p.s _ _ q,p.d⟩
def frz (i:Nat) (τ:VSt):VSt:=match τ[i]? with
 | some (some (.own d))=>τ.set i (some (.val d))
 | _=>τ
theorem Slots.frz (S:Slots K H0 B' H' τ σ) (p:Stp B H0 B' H') (i:Nat):∃ B2,Stp B H0 B2 H'∧Same B' B2∧Slots K H0 B2 H' (frz i τ) σ:=by
 unfold L2.frz
 split
 ·rename_i d e
  obtain ⟨a,q,h0,hb,o⟩:=S.own i d e
  obtain ⟨u,eu,rp⟩:=o.pub hb
  refine ⟨L2.upd B' a u,⟨p.b.trans (same_upd hb _),p.h,same_updL p.s eu,fun c z=>?_⟩,same_upd hb _,?_⟩
  ·by_cases w:c=a
   ·exact .inr (.inl (w ▸ h0))
   ·rw [upd_ne w] at z
    exact p.d c z
  ·refine ⟨by rw [List.length_set,S.len],fun j f q'=>?_,fun j f q'=>?_,fun j f q'=>?_,fun j k f g c q1 q2 q3 q4=>?_⟩
   ·rcases getSet q' with ⟨rfl,z,l⟩ | ⟨n,q'⟩
    ·cases z
     exact ⟨_,q,rp⟩
    ·obtain ⟨w,q1,r⟩:=S.val j f q'
     exact ⟨w,q1,r.same (same_upd hb _)⟩
   ·rcases getSet q' with ⟨rfl,z,l⟩ | ⟨n,q'⟩
    ·cases z
    ·obtain ⟨w,q1,r⟩:=S.fz j f q'
     exact ⟨w,q1,r.same (same_upd hb _)⟩
   ·rcases getSet q' with ⟨rfl,z,l⟩ | ⟨n,q'⟩
    ·cases z
    ·obtain ⟨c,q1,h0',hb',w⟩:=S.own j f q'
     have ne:c≠a:=fun z=>by subst z; exact n (S.sep i j d f c e q' q q1)
     exact ⟨c,q1,h0',by rw [upd_ne ne]; exact hb',w.step (same_upd hb _) rfl⟩
   ·rcases getSet q1 with ⟨rfl,z,l⟩ | ⟨n,q1⟩
    ·cases z
    rcases getSet q2 with ⟨rfl,z,l⟩ | ⟨n2,q2⟩
    ·cases z
    exact S.sep j k f g c q1 q2 q3 q4
 ·exact ⟨B',p,Same.refl _,S⟩
end
end L2
namespace L2
open PySem PySem.Spec PyProof.Rows
abbrev TV:=VSt→(R→Prop)→Prop
abbrev TVT:=VSt→(Bool→Prop)→Prop
inductive AR where
 | ok (ds:List D)
 | exc (n:Str)
abbrev TVA:=VSt→(AR→Prop)→Prop
abbrev TVG:=D→VSt→(VSt→Prop)→Prop
structure VEnds where
 nx:VSt→Prop
 rt:R→Prop
 bk:VSt→Prop:=fun _=>False
 ct:VSt→Prop:=fun _=>False
 xc:VSt→Str→Prop:=fun _ _=>False
 ro:VSt→R→Prop:=fun _ _=>False
abbrev TVS:=VEnds→VSt→Prop
section
variable (K:PySem.W.Frag) (EX:St→XK)
def RfE (te:TE) (t:TV):Prop:=∀ (H0 B H:Hp) (τ:VSt) (σ:St) (Q:VK) (Qd:R→Prop),Same B H→Slots K H0 B H τ σ→t τ Qd→(∀ n C B' H',Stp B H B' H'→clsOf K n C→Qd (.exc n)→EX σ (.ref C) none H')→(∀ r v B' H',Stp B H B' H'→RepR K B' H H' r v→Qd r→Q v H')→te σ H Q
def RfT (te:TT) (t:TVT):Prop:=∀ (H0 B H:Hp) (τ:VSt) (σ:St) (Q:Bool→Hp→Prop) (Qd:Bool→Prop),Same B H→Slots K H0 B H τ σ→t τ Qd→(∀ b B' H',Stp B H B' H'→Qd b→Q b H')→te σ H Q
def RfA (te:TA) (t:TVA):Prop:=∀ (H0 B H:Hp) (τ:VSt) (σ:St) (Q:List V→Hp→Prop) (Qd:AR→Prop),Same B H→Slots K H0 B H τ σ→t τ Qd→(∀ n C B' H',Stp B H B' H'→clsOf K n C→Qd (.exc n)→EX σ (.ref C) none H')→(∀ ds vs B' H',Stp B H B' H'→Reps K B' ds vs→Qd (.ok ds)→Q vs H')→te σ H Q
def RfO (r:R2) (rd:R→R→(R→Prop)→Prop):Prop:=∀ (B H:Hp) (x y:V) (rx ry:R) (Q:VK) (Qd:R→Prop),Same B H→Pk K B H rx x→Pk K B H ry y→rd rx ry Qd→(∀ r v B' H',Stp B H B' H'→RepR K B' H H' r v→Qd r→Q v H')→r x y H Q
def RfC (r:List V→Hp→VK→Prop) (rd:R→(R→Prop)→Prop):Prop:=∀ (B H:Hp) (x:V) (rx:R) (Q:VK) (Qd:R→Prop),Same B H→Pk K B H rx x→rd rx Qd→(∀ r v B' H',Stp B H B' H'→RepR K B' H H' r v→Qd r→Q v H')→r [x] H Q
def Kp (τ:VSt) (σ:St) (τ':VSt) (σ':St):Prop:=∀ (j:Nat) (e:D),τ'[j]?=some (some (R.own e))→τ[j]?=some (some (R.own e))∧σ'[j]?=σ[j]?
def RfG (g:TG) (t:TVG):Prop:=∀ (H0 B H:Hp) (τ:VSt) (σ:St) (x:V) (d:D) (Q:St→Hp→Prop) (Qd:VSt→Prop),Same B H→Slots K H0 B H τ σ→Rep K B d x→t d τ Qd→(∀ τ' σ',Slots K H0 B H τ' σ'→Kp τ σ τ' σ'→Qd τ'→Q σ' H)→g x σ H Q
def RfGs (g:TGs) (t:List D→VSt→(VSt→Prop)→Prop):Prop:=∀ (H0 B H:Hp) (τ:VSt) (σ:St) (xs:List V) (ds:List D) (Q:St→Hp→Prop) (Qd:VSt→Prop),Same B H→Slots K H0 B H τ σ→Reps K B ds xs→t ds τ Qd→(∀ τ' σ',Slots K H0 B H τ' σ'→Kp τ σ τ' σ'→Qd τ'→Q σ' H)→g xs σ H Q
def ItOk (B:Hp) (J:It) (ds:List D):Prop:=∀ (i:Nat) (B2 H:Hp),Same B B2→Same B2 H→(∀ d,ds[i]?=some d→J.go i H∧∀ x H',J.yld i H x H'→∃ B3,Stp B2 H B3 H'∧Rep K B3 d x)∧(ds[i]?=none→J.stop i H)
def RfI (wi:TI) (vi:TVA):Prop:=∀ (H0 B H:Hp) (τ:VSt) (σ:St) (Q:It→Hp→Prop) (Qd:AR→Prop),Same B H→Slots K H0 B H τ σ→vi τ Qd→(∀ n C B' H',Stp B H B' H'→clsOf K n C→Qd (.exc n)→EX σ (.ref C) none H')→(∀ J ds B' H',Stp B H B' H'→ItOk K B' J ds→Qd (.ok ds)→Q J H')→wi σ H Q
def RfF (ti:TF) (t:TVT):Prop:=∀ (H0 B H:Hp) (τ:VSt) (σ:St) (Y N:Hp→Prop) (Qd:Bool→Prop),Same B H→Slots K H0 B H τ σ→t τ Qd→(∀ b B' H',Stp B H B' H'→Qd b→if b=true then Y H' else N H')→ti σ H Y N
structure EndsOk (B0 H0:Hp) (Dv:VEnds) (Dh:Ends):Prop where
 nx:∀ B H τ σ,Stp B0 H0 B H→Slots K H0 B H τ σ→Dv.nx τ→Dh.nx σ H
 rt:∀ r v B H,Stp B0 H0 B H→RepR K B H0 H r v→Dv.rt r→Dh.rt v H
 bk:∀ B H τ σ,Stp B0 H0 B H→Slots K H0 B H τ σ→Dv.bk τ→Dh.bk σ H
 ct:∀ B H τ σ,Stp B0 H0 B H→Slots K H0 B H τ σ→Dv.ct τ→Dh.ct σ H
 xc:∀ B H τ σ n C,Stp B0 H0 B H→Slots K H0 B H τ σ→clsOf K n C→Dv.xc τ n→EX σ (.ref C) none H
 ro:∀ r v B H τ σ,Stp B0 H0 B H→Slots K H0 B H τ σ→RepR K B H0 H r v→(∀ (d e:D) (i:Nat) (c:Addr),r=R.own d→τ[i]?=some (some (R.own e))→ioA e=some c→v≠.ref c)→Dv.ro τ r→Dh.rt v H
def RfS (ts:TS) (t:TVS):Prop:=∀ (B0 H0 B H:Hp) (τ:VSt) (σ:St) (Dv:VEnds) (Dh:Ends),Stp B0 H0 B H→Slots K H0 B H τ σ→t Dv τ→EndsOk K EX B0 H0 Dv Dh→ts Dh σ H
end
section
structure VE (X:Cx) (EX:St→XK) (e:Expr) (t:TV):Prop where
 u:∃ te,QE X e te∧RfE X.K EX te t
structure VC (X:Cx) (EX:St→XK) (e:Expr) (t:TV):Prop where
 u:∃ te,QC X e te∧RfE X.K EX te t
structure VT (X:Cx) (EX:St→XK) (e:Expr) (t:TVT):Prop where
 u:∃ te,QT X e te∧RfT X.K te t
structure VW (X:Cx) (EX:St→XK) (e:Expr) (t:TVT):Prop where
 u:∃ te,QW X e te∧RfT X.K te t
structure VA (X:Cx) (EX:St→XK) (es:List Expr) (t:TVA):Prop where
 u:∃ te,QA X es te∧RfA X.K EX te t
structure VI (X:Cx) (EX:St→XK) (tg e:Expr) (t:TVA):Prop where
 u:∃ wi,QI X tg e wi∧RfI X.K EX wi t
structure VFs (X:Cx) (EX:St→XK) (ifs:List Expr) (t:TVT):Prop where
 u:∃ ti,QF X ifs ti∧RfF X.K ti t
structure VS (X:Cx) (EX:St→XK) (st:Stmt) (t:TVS):Prop where
 u:∃ ts,QS X st ts∧RfS X.K EX ts t
structure VSs (X:Cx) (EX:St→XK) (st:List Stmt) (t:TVS):Prop where
 u:∃ ts,QSs X st ts∧RfS X.K EX ts t
end
section
variable (X:Cx)
structure VO (f:Value→Value→Sem Value) (rd:R→R→(R→Prop)→Prop):Prop where
 u:∃ r,OpR X f r∧RfO X.K r rd
structure VX (rd:R→R→(R→Prop)→Prop):Prop where
 u:∃ r,IxR X r∧RfO X.K r rd
structure VF (f:Value) (rd:R→(R→Prop)→Prop):Prop where
 u:∃ r,CallR X f r∧RfC X.K r rd
structure VG (tg:Expr) (t:TVG):Prop where
 u:∃ g,QG X tg g∧RfG X.K g t
structure VGs (ts:List Expr) (t:List D→VSt→(VSt→Prop)→Prop):Prop where
 u:∃ g,QGs X ts g∧RfGs X.K g t
end
section
variable {X:Cx} {EX:St→XK} {K:PySem.W.Frag} {a b c e o i:Expr} {es:List Expr} {pos pos' p p2 apos cpos:Pos} {x:Str} {ta tb tc te:TV} {tA:TVA} {tT tU:TVT} {B H B' H' H0 H1 H2:Hp} {r:R} {v:V}
theorem RepR.back (h:RepR K B H1 H2 r v) (s:Same H H1):RepR K B H H2 r v:=by
 cases r with
 | val d=>exact h
 | own d =>
  obtain ⟨a,e,h0,q⟩:=h
  exact ⟨a,e,s.free h0,q⟩
 | peek d=>exact h
 | exc n=>exact h
theorem Pk.scal {z:V} (h:Pk K B H r v) (e:dV r.d=some z):v=z:=by
 cases r with
 | val d =>
  have e':dV d=some z:=e
  have h':Rep K B d v:=h
  cases d <;> first | (unfold Rep at h'; subst h'; exact Option.some.inj e') | (cases e'; done)
 | own d =>
  obtain ⟨a,_,_,q⟩:=h
  have e':dV d=some z:=e
  cases d <;> first | (cases e'; done) | exact q.elim
 | peek d =>
  obtain ⟨a,_,_,q⟩:=h
  have e':dV d=some z:=e
  cases d <;> first | (cases e'; done) | exact q.elim
 | exc n=>exact h.elim
theorem Pk.tup {ds:List D} (h:Pk K B H r v) (e:r.d=.tup ds):∃ a xs,v=.ref a∧TupAt K B a ds xs∧Reps K B ds xs:=by
 cases r with
 | val d =>
  cases (show d=_ from e)
  have h':Rep K B (.tup ds) v:=h
  unfold Rep at h'
  exact h'
 | own d=>cases (show d=_ from e); obtain ⟨_,_,_,q⟩:=h; exact q.elim
 | peek d=>cases (show d=_ from e); obtain ⟨_,_,_,q⟩:=h; exact q.elim
 | exc n=>exact h.elim
theorem Pk.lst {ds:List D} (s:Same B H) (h:Pk K B H r v) (e:r.d=.lst ds):∃ a xs,v=.ref a∧H a=some (.lst xs)∧Reps K B ds xs:=by
 cases r with
 | val d =>
  cases (show d=_ from e)
  have h':Rep K B (.lst ds) v:=h
  unfold Rep at h'
  obtain ⟨a,xs,rfl,q,rp⟩:=h'
  exact ⟨a,xs,rfl,s _ _ q,rp⟩
 | own d=>cases (show d=_ from e); obtain ⟨a,rfl,_,xs,q,rp⟩:=h; exact ⟨a,xs,rfl,q,rp⟩
 | peek d=>cases (show d=_ from e); obtain ⟨a,rfl,_,xs,q,rp⟩:=h; exact ⟨a,xs,rfl,q,rp⟩
 | exc n=>exact h.elim
theorem Pk.scr {ns:List Int} (s:Same B H) (h:Pk K B H r v) (e:r.d=.scr ns):∃ a,v=.ref a∧SqL K H a (ns.map V.int):=by
 cases r with
 | val d =>
  cases (show d=_ from e)
  have h':Rep K B (.scr ns) v:=h
  unfold Rep at h'
  obtain ⟨a,rfl,q⟩:=h'
  exact ⟨a,rfl,s.seq q⟩
 | own d=>cases (show d=_ from e); obtain ⟨_,_,_,q⟩:=h; exact q.elim
 | peek d=>cases (show d=_ from e); obtain ⟨_,_,_,q⟩:=h; exact q.elim
 | exc n=>exact h.elim
theorem rep_dV {d:D} {z:V} (e:dV d=some z):Rep K B d z:=by
 cases d <;> first | (cases e; done) | (unfold Rep; exact (Option.some.inj e).symm)
theorem repV {d:D} {z:V} (e:dV d=some z):RepR K B H0 H (.val d) z:=rep_dV e
theorem xst {B1:Hp} {σ:St} {P:Str→Prop} (x:∀ n C B' H',Stp B H B' H'→clsOf K n C→P n→EX σ (.ref C) none H') (p:Stp B H B1 H1):∀ n C B' H',Stp B1 H1 B' H'→clsOf K n C→P n→EX σ (.ref C) none H':=fun n C B' H' q c h=>x n C B' H' (p.trans q) c h
theorem xno {σ:St} {P:Str→Prop} (h:∀ n,¬ P n):∀ n C B' H',Stp B H B' H'→clsOf K n C→P n→EX σ (.ref C) none H':=fun n _ _ _ _ _ q=>absurd q (h n)
def vVar (i:Nat):TV:=fun τ Q=>match τ[i]? with
 | some (some (.val d))=>Q (.val d)
 | some (some (.own d))=>Q (.peek d)
 | some (some (.peek d))=>Q (.val d)
 | _=>False
theorem rf_var {i:Nat}:RfE K EX (tVar i) (vVar i):=fun H0 B H τ σ Q Qd s S h _ k=>by
 unfold vVar at h
 split at h
 ·rename_i d e
  obtain ⟨v,q,rp⟩:=S.val i d e
  exact ⟨v,q,k (.val d) v B H (.refl s) rp h⟩
 ·rename_i d e
  obtain ⟨a,q,_,hb,ow⟩:=S.own i d e
  exact ⟨.ref a,q,k (.peek d) (.ref a) B H (.refl s) ⟨a,rfl,hb,ow⟩ h⟩
 ·rename_i d e
  obtain ⟨v,q,rp⟩:=S.fz i d e
  exact ⟨v,q,k (.val d) v B H (.refl s) rp.rep h⟩
 ·exact h.elim
theorem vv (i:Nat) (hN:X.N[i]?=some x:=by rfl) (hv:Vis X.env.scope x:=by first | exact Or.inl rfl | exact Or.inr (Or.inl rfl) | exact Or.inr (Or.inr rfl)) (hd:(x == ("__debug__" : Str))=false:=by decide)
  (hcd:(x == ("__classdict__" : Str))=false:=by decide):VE X EX (.Name x pos) (vVar i):=⟨_,qv i hN hv hd hcd,rf_var⟩
def vC (d:D):TV:=fun _ Q=>Q (.val d)
theorem rf_c {d:D} {z:V} (e:dV d=some z):RfE K EX (tC z) (vC d):=fun _ B H _ _ _ _ s _ h _ k=>k (.val d) z B H (.refl s) (rep_dV e) h
theorem ve_int {k:Int} {j:Nat}:VE X EX (.Constant (.int k) j pos) (vC (.int k)):=⟨_,qe_int,rf_c rfl⟩
theorem ve_bl {k:Bool} {j:Nat}:VE X EX (.Constant (.bool k) j pos) (vC (.bl k)):=⟨_,qe_bl,rf_c rfl⟩
theorem ve_non {j:Nat}:VE X EX (.Constant .none j pos) (vC .non):=⟨_,qe_non,rf_c rfl⟩
theorem ve_str {z:Str} {j:Nat}:VE X EX (.Constant (.str z) j pos) (vC (.str z)):=⟨_,qe_str,rf_c rfl⟩
theorem ve_globS {d:D} {z:V} {w:Value} (hg:Gl X x) (hm:X.mg x=some w) (r:RelV z w) (e:dV d=some z) (hd:(x == ("__debug__" : Str))=false:=by decide):VE X EX (.Name x pos) (vC d):=⟨_,qe_glob hg hm r hd,rf_c e⟩
theorem ve_globT {ds:List D} {xs:List V} {ad:Addr} (hg:Gl X x) (hm:X.mg x=some (.ref ad)) (h:SqT X.K (fun _=>none) ad xs∧D.str "" ∈ ds∧Reps X.K (fun _=>none) ds xs) (hd:(x == ("__debug__" : Str))=false:=by decide):VE X EX (.Name x pos) (vC (.tup ds)) :=
 ⟨_,qe_glob (v:=.ref ad) hg hm rfl hd,fun _ B H _ _ _ _ s _ q _ k=>k (.val _) _ B H (.refl s) (by show Rep X.K B (.tup ds) _; unfold Rep; exact ⟨ad,xs,rfl,.inr ⟨h.1,h.2.1⟩,h.2.2.same (Same.emp B)⟩) q⟩
theorem RepR.ok {Q:R→Prop} {k:Prop} (h:RepR K B H0 H r v) (q:exR r Q k):k:=by
 cases r with
 | exc n=>exact h.elim
 | val d=>exact q
 | own d=>exact q
 | peek d=>exact q
def vOp (rd:R→R→(R→Prop)→Prop) (ta tb:TV):TV:=fun τ Q=>ta τ fun rx=>exR rx Q (tb τ fun ry=>exR ry Q (rd rx ry Q))
theorem rf_op {rr:R2} {rd:R→R→(R→Prop)→Prop} {ea eb:TE} (hr:RfO K rr rd) (ha:RfE K EX ea ta) (hb:RfE K EX eb tb):RfE K EX (tOp rr ea eb) (vOp rd ta tb):=fun H0 B H τ σ Q Qd s S h xc k =>
 ha H0 B H τ σ _ _ s S h xc fun rx x B1 H1 p1 q1 h1=>hb H0 B1 H1 τ σ _ _ p1.s (S.step p1) (q1.ok h1) (xst xc p1) fun ry y B2 H2 p2 q2 h2 =>
  hr B2 H2 x y rx ry _ _ p2.s (q1.pk.step p2) q2.pk (q2.ok h2) fun r v B3 H3 p3 q3 h3=>k r v B3 H3 (p1.trans (p2.trans p3)) (q3.back (p1.trans p2).h) h3
theorem ve_op {op:Operator} {rd:R→R→(R→Prop)→Prop} (hr:VO X (binaryOp op) rd) (ha:VE X EX a ta) (hb:VE X EX b tb):VE X EX (.BinOp a op b pos) (vOp rd ta tb) :=
 let ⟨_,h1,h2⟩:=hr.u; let ⟨_,a1,a2⟩:=ha.u; let ⟨_,b1,b2⟩:=hb.u; ⟨_,qe_op h1 a1 b1,rf_op h2 a2 b2⟩
theorem ve_cmp {op:CmpOp} {rd:R→R→(R→Prop)→Prop} (hr:VO X (compareOp op) rd) (ha:VE X EX a ta) (hb:VE X EX b tb) (hm:behindInMarks op b=false:=by with_unfolding_all rfl):VE X EX (.Compare a [op] [b] pos) (vOp rd ta tb) :=
 let ⟨_,h1,h2⟩:=hr.u; let ⟨_,a1,a2⟩:=ha.u; let ⟨_,b1,b2⟩:=hb.u; ⟨_,qe_cmpR h1 a1 b1 hm,rf_op h2 a2 b2⟩
theorem ve_ix {rd:R→R→(R→Prop)→Prop} (hr:VX X rd) (ha:VE X EX a ta) (hb:VE X EX b tb) (hs:PlainIx b:=by exact fun _ _=>rfl):VE X EX (.Subscript a b pos) (vOp rd ta tb) :=
 let ⟨_,h1,h2⟩:=hr.u; let ⟨_,a1,a2⟩:=ha.u; let ⟨_,b1,b2⟩:=hb.u; ⟨_,qe_ix h1 a1 b1 hs,rf_op h2 a2 b2⟩
def vBl (t:TV):TVT:=fun τ Q=>t τ fun r=>match r.d with
 | .bl b=>Q b
 | _=>False
theorem rf_bl {ea:TE} (ha:RfE K EX ea ta):RfT K (tB ea) (vBl ta):=fun H0 B H τ σ Q Qd s S h k=>ha H0 B H τ σ _ _ s S h (xno fun _ q=>q) fun r v B' H' p q h1=>by
 split at h1
 ·rename_i bb e
  exact ⟨bb,q.pk.scal (by rw [e]; rfl),k bb B' H' p h1⟩
 ·exact h1.elim
theorem vt_val (ha:VE X EX e ta) (he:∀ whole,isTrue e X.env whole=(do let v ← whole; standAt e.pos; holding [v] (truthy v)):=by intro _; rfl):VT X EX e (vBl ta) :=
 let ⟨_,a1,a2⟩:=ha.u; ⟨_,qt_val a1 he,rf_bl a2⟩
theorem vt_cmp {op:CmpOp} {rd:R→R→(R→Prop)→Prop} (hr:VO X (compareOp op) rd) (ha:VE X EX a ta) (hb:VE X EX b tb) (hm:behindInMarks op b=false:=by with_unfolding_all rfl):VT X EX (.Compare a [op] [b] pos) (vBl (vOp rd ta tb)) :=
 let ⟨_,h1,h2⟩:=hr.u; let ⟨_,a1,a2⟩:=ha.u; let ⟨_,b1,b2⟩:=hb.u; ⟨_,qt_cmpR h1 a1 b1 hm,rf_bl (rf_op h2 a2 b2)⟩
def vAndT (t u:TVT):TVT:=fun τ Q=>t τ fun c=>if c=true then u τ Q else Q false
def vOrT (t u:TVT):TVT:=fun τ Q=>t τ fun c=>if c=true then Q true else u τ Q
def vNotT (t:TVT):TVT:=fun τ Q=>t τ fun c=>Q (!c)
theorem rf_not {e1:TT} (h1:RfT K e1 tT):RfT K (tNot e1) (vNotT tT):=fun H0 B H τ σ Q Qd s S h k=>h1 H0 B H τ σ _ _ s S h fun b B' H' p q=>k _ B' H' p q
theorem rf_and {e1 e2:TT} (h1:RfT K e1 tT) (h2:RfT K e2 tU):RfT K (tAnd e1 e2) (vAndT tT tU):=fun H0 B H τ σ Q Qd s S h k=>h1 H0 B H τ σ _ _ s S h fun b B' H' p q=>by
 cases b with
 | true=>exact iteT (h2 H0 B' H' τ σ _ _ p.s (S.step p) (by rw [if_pos rfl] at q; exact q) fun b2 B2 H2 p2 q2=>k b2 B2 H2 (p.trans p2) q2)
 | false=>exact iteF (k false B' H' p (by rw [if_neg Bool.false_ne_true] at q; exact q))
theorem rf_or {e1 e2:TT} (h1:RfT K e1 tT) (h2:RfT K e2 tU):RfT K (tOr e1 e2) (vOrT tT tU):=fun H0 B H τ σ Q Qd s S h k=>h1 H0 B H τ σ _ _ s S h fun b B' H' p q=>by
 cases b with
 | true=>exact iteT (k true B' H' p (by rw [if_pos rfl] at q; exact q))
 | false=>exact iteF (h2 H0 B' H' τ σ _ _ p.s (S.step p) (by rw [if_neg Bool.false_ne_true] at q; exact q) fun b2 B2 H2 p2 q2=>k b2 B2 H2 (p.trans p2) q2)
theorem vt_not (h:VT X EX a tT):VT X EX (.UnaryOp .Not a pos) (vNotT tT):=let ⟨_,a1,a2⟩:=h.u; ⟨_,qt_not a1,rf_not a2⟩
theorem vw_and1 (h:VT X EX a tT):VW X EX (.BoolOp .And [a] pos) tT:=let ⟨_,a1,a2⟩:=h.u; ⟨_,qw_and1 a1,a2⟩
theorem vw_or1 (h:VT X EX a tT):VW X EX (.BoolOp .Or [a] pos) tT:=let ⟨_,a1,a2⟩:=h.u; ⟨_,qw_or1 a1,a2⟩
theorem vw_and (ha:VT X EX a tT) (hb:VW X EX (.BoolOp .And (b :: es) pos) tU):VW X EX (.BoolOp .And (a :: b :: es) pos) (vAndT tT tU):=let ⟨_,a1,a2⟩:=ha.u; let ⟨_,b1,b2⟩:=hb.u; ⟨_,qw_and a1 b1,rf_and a2 b2⟩
theorem vw_or (ha:VT X EX a tT) (hb:VW X EX (.BoolOp .Or (b :: es) pos) tU):VW X EX (.BoolOp .Or (a :: b :: es) pos) (vOrT tT tU):=let ⟨_,a1,a2⟩:=ha.u; let ⟨_,b1,b2⟩:=hb.u; ⟨_,qw_or a1 b1,rf_or a2 b2⟩
theorem vw_t (h:VW X EX e tT):VT X EX e tT:=let ⟨_,a1,a2⟩:=h.u; ⟨_,qw_t a1,a2⟩
def vAndE (ta tb:TV):TV:=fun τ Q=>ta τ fun r=>match r.d with
 | .bl c=>if c=true then tb τ Q else Q (.val (.bl false))
 | _=>False
def vOrE (ta tb:TV):TV:=fun τ Q=>ta τ fun r=>match r.d with
 | .bl c=>if c=true then Q (.val (.bl true)) else tb τ Q
 | _=>False
def vNotE (ta:TV):TV:=fun τ Q=>ta τ fun r=>match r.d with
 | .bl c=>Q (.val (.bl (!c)))
 | _=>False
theorem ve_one {op:BoolOp} (h:VE X EX a ta):VE X EX (.BoolOp op [a] pos) ta:=let ⟨_,a1,a2⟩:=h.u; ⟨_,qe_one a1,a2⟩
theorem ve_and (ha:VE X EX a ta) (hb:VE X EX (.BoolOp .And (b :: es) pos) tb):VE X EX (.BoolOp .And (a :: b :: es) pos) (vAndE ta tb) :=
 let ⟨_,a1,a2⟩:=ha.u; let ⟨_,b1,b2⟩:=hb.u; ⟨_,qe_and a1 b1,fun H0 B H τ σ Q Qd s S h xc k=>a2 H0 B H τ σ _ _ s S h (xno fun _ q=>q) fun r v B' H' p q h1=>by
  split at h1
  ·rename_i c e
   refine ⟨c,q.pk.scal (by rw [e]; rfl),?_⟩
   cases c with
   | true=>exact iteT (b2 H0 B' H' τ σ _ _ p.s (S.step p) (by rw [if_pos rfl] at h1; exact h1) (xst xc p) fun r2 v2 B2 H2 p2 q2 h2=>k r2 v2 B2 H2 (p.trans p2) (q2.back p.h) h2)
   | false=>exact iteF (k (.val (.bl false)) _ B' H' p (repV (d:=.bl false) rfl) (by rw [if_neg Bool.false_ne_true] at h1; exact h1))
  ·exact h1.elim⟩
theorem ve_or (ha:VE X EX a ta) (hb:VE X EX (.BoolOp .Or (b :: es) pos) tb):VE X EX (.BoolOp .Or (a :: b :: es) pos) (vOrE ta tb) :=
 let ⟨_,a1,a2⟩:=ha.u; let ⟨_,b1,b2⟩:=hb.u; ⟨_,qe_or a1 b1,fun H0 B H τ σ Q Qd s S h xc k=>a2 H0 B H τ σ _ _ s S h (xno fun _ q=>q) fun r v B' H' p q h1=>by
  split at h1
  ·rename_i c e
   refine ⟨c,q.pk.scal (by rw [e]; rfl),?_⟩
   cases c with
   | true=>exact iteT (k (.val (.bl true)) _ B' H' p (repV (d:=.bl true) rfl) (by rw [if_pos rfl] at h1; exact h1))
   | false=>exact iteF (b2 H0 B' H' τ σ _ _ p.s (S.step p) (by rw [if_neg Bool.false_ne_true] at h1; exact h1) (xst xc p) fun r2 v2 B2 H2 p2 q2 h2=>k r2 v2 B2 H2 (p.trans p2) (q2.back p.h) h2)
  ·exact h1.elim⟩
def vIfE (tT:TVT) (ta tb:TV):TV:=fun τ Q=>tT τ fun c=>if c=true then ta τ Q else tb τ Q
theorem ve_ifExp (hc:VT X EX c tT) (ha:VE X EX a ta) (hb:VE X EX b tb):VE X EX (.IfExp c a b pos) (vIfE tT ta tb) :=
 let ⟨_,c1,c2⟩:=hc.u; let ⟨_,a1,a2⟩:=ha.u; let ⟨_,b1,b2⟩:=hb.u; ⟨_,qe_ifExp c1 a1 b1,fun H0 B H τ σ Q Qd s S h xc k=>c2 H0 B H τ σ _ _ s S h fun cb B' H' p q=>by
  cases cb with
  | true=>exact iteT (a2 H0 B' H' τ σ _ _ p.s (S.step p) (by rw [if_pos rfl] at q; exact q) (xst xc p) fun r2 v2 B2 H2 p2 q2 h2=>k r2 v2 B2 H2 (p.trans p2) (q2.back p.h) h2)
  | false=>exact iteF (b2 H0 B' H' τ σ _ _ p.s (S.step p) (by rw [if_neg Bool.false_ne_true] at q; exact q) (xst xc p) fun r2 v2 B2 H2 p2 q2 h2=>k r2 v2 B2 H2 (p.trans p2) (q2.back p.h) h2)⟩
def exA:AR→(R→Prop)→(List D→Prop)→Prop
 | .ok ds,_,k=>k ds
 | .exc n,Q,_=>Q (.exc n)
def vNil:TVA:=fun _ Q=>Q (.ok [])
def moreA (d:D):AR→AR
 | .ok ds=>.ok (d :: ds)
 | .exc n=>.exc n
def excA:R→(AR→Prop)→Prop→Prop
 | .exc n,Q,_=>Q (.exc n)
 | .val _,_,k=>k
 | .own _,_,k=>k
 | .peek _,_,k=>k
theorem RepR.okA {Q:AR→Prop} {k:Prop} (h:RepR K B H0 H r v) (q:excA r Q k):k:=by
 cases r with
 | exc n=>exact h.elim
 | val d=>exact q
 | own d=>exact q
 | peek d=>exact q
def vCons (te:TV) (tA:TVA):TVA:=fun τ Q=>te τ fun r=>excA r Q (pubR r fun d=>tA τ fun a=>Q (moreA d a))
theorem va_nil:VA X EX [] vNil:=⟨_,qa_nil,fun _ B H _ _ _ _ s _ h _ k=>k [] [] B H (.refl s) (by unfold Reps; rfl) h⟩
theorem vac (ha:VE X EX e te) (hr:VA X EX es tA) (hs:plainE e=true:=by rfl):VA X EX (e :: es) (vCons te tA) :=
 let ⟨_,a1,a2⟩:=ha.u; let ⟨_,b1,b2⟩:=hr.u; ⟨_,qac a1 b1 hs,fun H0 B H τ σ Q Qd s S h xc k=>a2 H0 B H τ σ _ _ s S h xc fun r v B1 H1 p q h1=>by
  obtain ⟨d,B2,p2,_,rp,h2⟩:=pub p q (q.okA h1)
  exact b2 H0 B2 H1 τ σ _ _ p2.s (S.step p2) h2 (xst xc p2) fun ds vs B3 H3 p3 q3 h3=>k (d :: ds) (v :: vs) B3 H3 (p2.trans p3) (by unfold Reps; exact ⟨v,vs,rfl,rp.same p3.b,q3⟩) h3⟩
def vTup (tA:TVA):TV:=fun τ Q=>tA τ fun a=>exA a Q fun ds=>ds.length≤sizeLine∧Q (.val (.tup ds))
def vLst (tA:TVA):TV:=fun τ Q=>tA τ fun a=>exA a Q fun ds=>ds.length≤sizeLine∧Q (.own (.lst ds))
theorem rep_newT {ds:List D} {xs:List V} {q:Addr} (h:Reps K B ds xs) (hb:B q=none):Rep K (upd B q (.tup xs)) (.tup ds) (.ref q):=by
 unfold Rep
 exact ⟨q,xs,rfl,.inl upd_same,h.same (same_upd hb _)⟩
theorem own_newL {ds:List D} {xs:List V} {q:Addr} (h:Reps K B ds xs):OwnAt K B (upd H q (.lst xs)) (.lst ds) q:=⟨xs,upd_same,h⟩
theorem ve_tup {k:Nat} (h:VA X EX es tA):VE X EX (.Tuple es k pos) (vTup tA) :=
 let ⟨_,a1,a2⟩:=h.u; ⟨_,qe_tup a1,fun H0 B H τ σ Q Qd s S h xc k=>a2 H0 B H τ σ _ _ s S h xc fun ds vs B1 H1 p q h1 =>
  ⟨by rw [← q.length]; exact h1.1,fun ad had=>k (.val (.tup ds)) _ (upd B1 ad (.tup vs)) _ (p.trans (.new p.s had)) (rep_newT q (p.s.free had)) h1.2⟩⟩
theorem ve_lst (h:VA X EX es tA):VE X EX (.List es pos) (vLst tA) :=
 let ⟨_,a1,a2⟩:=h.u; ⟨_,qe_lst a1,fun H0 B H τ σ Q Qd s S h xc k=>a2 H0 B H τ σ _ _ s S h xc fun ds vs B1 H1 p q h1 =>
  ⟨by rw [← q.length]; exact h1.1,fun ad had=>k (.own (.lst ds)) _ B1 _ (p.trans (.grow p.s (same_upd had _))) ⟨ad,rfl,p.h.free had,p.s.free had,own_newL q⟩ h1.2⟩⟩
abbrev DP:=List D→(R→Prop)→Prop
def spOf (K:PySem.W.Frag) (g:DP):Sp:=fun vs H Q E=>∃ ds B Qd,Same B H∧Reps K B ds vs∧g ds Qd∧(∀ n C B' H',Qd (.exc n)→Stp B H B' H'→clsOf K n C→E (.ref C) none H')∧∀ r v B' H',Qd r→Stp B H B' H'→RepR K B' H H' r v→Q v H'
def vCall (g:DP) (tA:TVA):TV:=fun τ Q=>tA τ fun a=>exA a Q fun ds=>g ds Q
def vCallN (g:DP) (tA:TVA):TV:=fun τ Q=>tA τ fun a=>exA a Q fun ds=>g ds fun r=>exR r (fun _=>False) (Q r)
theorem ve_cal {k:Nat} {ps:List Str} {g:DP} (C:Cal X.prog X.w X.K X.mg X.base k x ps (spOf X.K g)) (hr:Room k X.A) (hg:Gl X x) (ha:VA X EX (e :: es) tA) (hp:(e :: es).all plainE=true:=by rfl) (hdb:(x == ("__debug__" : Str))=false:=by decide) :
  VE X EX (.Call (.Name x p) (e :: es) [] pos) (vCallN g tA) :=
 let ⟨_,a1,a2⟩:=ha.u; ⟨_,qe_cal C hr hg a1 hp hdb,fun H0 B H τ σ Q Qd s S h xc k=>a2 H0 B H τ σ _ _ s S h xc fun ds vs B1 H1 p q h1 =>
  ⟨ds,B1,_,p.s,by rw [List.append_nil]; exact q,h1,fun n C B' H' hq _ _=>hq.elim,fun r v B2 H2 hq p2 q2=>k r v B2 H2 (p.trans p2) (q2.back p.h) (q2.ok hq)⟩⟩
def vF1 (rd:R→(R→Prop)→Prop) (te:TV):TV:=fun τ Q=>te τ fun r=>exR r Q (rd r Q)
theorem rf_f1 {rr:List V→Hp→VK→Prop} {rd:R→(R→Prop)→Prop} {ea:TE} (hr:RfC K rr rd) (ha:RfE K EX ea te):RfE K EX (tCB rr (tCons ea tNil)) (vF1 rd te):=fun H0 B H τ σ Q Qd s S h xc k =>
 ha H0 B H τ σ _ _ s S h xc fun rx x B1 H1 p1 q1 h1=>hr B1 H1 x rx _ _ p1.s q1.pk (q1.ok h1) fun r v B2 H2 p2 q2 h2=>k r v B2 H2 (p1.trans p2) (q2.back p1.h) h2
theorem ve_fb {id:String} {rd:R→(R→Prop)→Prop} (hc:VF X (.builtin id) rd) (hg:Gl X x) (hm:X.mg x=none) (hv:bootBuiltins x=some (.builtin id)) (ha:VE X EX e te) (hp:plainE e=true:=by rfl) (hn:x≠"__name__" := by decide)
  (hdb:(x == ("__debug__" : Str))=false:=by decide):VE X EX (.Call (.Name x p) [e] [] pos) (vF1 rd te) :=
 let ⟨_,c1,c2⟩:=hc.u; let ⟨_,a1,a2⟩:=ha.u; ⟨_,qcb c1 hg hm hv (qac a1 qa_nil hp) (by simp [hp]) hn hdb,rf_f1 c2 a2⟩
theorem ve_ft {T:String} {rd:R→(R→Prop)→Prop} (hc:VF X (.type T) rd) (hg:Gl X x) (hm:X.mg x=none) (hv:bootBuiltins x=some (.type T)) (ha:VE X EX e te) (hp:plainE e=true:=by rfl) (hn:x≠"__name__" := by decide)
  (hdb:(x == ("__debug__" : Str))=false:=by decide):VE X EX (.Call (.Name x p) [e] [] pos) (vF1 rd te) :=
 let ⟨_,c1,c2⟩:=hc.u; let ⟨_,a1,a2⟩:=ha.u; ⟨_,qct c1 hg hm hv (qac a1 qa_nil hp) (by simp [hp]) hn hdb,rf_f1 c2 a2⟩
end
end L2
namespace L2
open PySem PySem.Spec PyProof.Rows
section
variable {X:Cx} {EX:St→XK} {K:PySem.W.Frag} {B H B' H' H0:Hp}
theorem op_catP:OpR X (binaryOp .Add) (fun x y H Q=>∃ a b xs ys,x=.ref a∧y=.ref b∧SqT X.K H a xs∧SqT X.K H b ys∧xs.length+ys.length≤sizeLine∧(xs=[]→Q (.ref b) H)∧(xs≠[]→ys=[]→Q (.ref a) H) ∧
  (xs≠[]→ys≠[]→∀ p,H p=none→Q (.ref p) (upd H p (.tup (xs++ys))))):=by
 intro pins s σ H x y v u Q I rx ry h
 obtain ⟨a,b,xs,ys,rfl,rfl,ha,hb,hz,q1,q2,q3⟩:=h
 by_cases hx:xs=[]
 ·subst hx
  cases rx
  cases ry
  obtain ⟨its,r1,p1,_⟩:=I.tuple ha
  obtain ⟨its2,r2,p2,_⟩:=I.tuple hb
  obtain ⟨⟨cls,dd,data,sl⟩,ho,hc,n,hd⟩:=id p1
  obtain ⟨⟨cls2,dd2,data2,sl2⟩,ho2,hc2,n2,hd2⟩:=id p2
  simp only at hc hd hc2 hd2
  subst hc hd hc2 hd2
  have e1:its=[]:=r1.nil_iff.mpr rfl
  exact concat_meets ⟨_,ho,rfl⟩ ⟨_,ho2,rfl⟩ noFill_tuple_add seq_tuple_add PySem.F.slot_tuple_add PySem.F.entry_tuple_add (PySem.F.args_tuple_add_2 _ _)
   (tuple_addW0 a b its.toArray its2.toArray n n2 dd dd2 sl sl2 (by simp [e1])) ⟨ho,ho2,⟨.ref b,H,I,rfl,q1 rfl⟩⟩
 ·exact op_catT pins s σ H (.ref a) (.ref b) v u Q I rx ry ⟨a,b,xs,ys,rfl,rfl,ha,hb,hx,hz,fun e=>q2 hx e,fun e p hp=>q3 hx e p hp⟩
theorem sl_tupP:SlR X (fun x lo hi H Q=>∃ a xs,x=.ref a∧SqT X.K H a xs∧((HT.sIx xs.length 0 lo=0∧HT.sIx xs.length xs.length hi=xs.length)→Q (.ref a) H) ∧
  (¬ (HT.sIx xs.length 0 lo=0∧HT.sIx xs.length xs.length hi=xs.length)→∀ p,H p=none→Q (.ref p) (upd H p (.tup (cutV xs lo hi))))):=by
 intro pins s σ H x v vl vu lo hi sl Q I rx hs pl pu h
 obtain ⟨a,xs,rfl,hx,q1,q2⟩:=h
 by_cases hw:HT.sIx xs.length 0 lo=0∧HT.sIx xs.length xs.length hi=xs.length
 ·cases rx
  obtain ⟨its,r,ht,hz⟩:=I.tuple hx
  have hlen:its.toArray.size=xs.length:=by rw [List.size_toArray]; exact r.length.symm
  refine ⟨"tuple",_,PyProof.Rows.slot_tuple_getitem.lookup,ht.typeIs,?_⟩
  exact HT.getItem_tuple_whole ht hs pl pu (by rw [hlen]; exact hw) ⟨.ref a,H,I,rfl,q1 hw⟩
 ·exact sl_tup pins s σ H (.ref a) v vl vu lo hi sl Q I rx hs pl pu ⟨a,xs,rfl,hx,hw,q2 hw⟩
theorem Reps.append {ds es:List D} {xs ys:List V} (h1:Reps K B ds xs) (h2:Reps K B es ys):Reps K B (ds++es) (xs++ys):=by
 induction ds generalizing xs with
 | nil=>unfold Reps at h1; subst h1; exact h2
 | cons d ds ih =>
  unfold Reps at h1
  obtain ⟨x,r,rfl,q1,q2⟩:=h1
  show Reps K B (d :: (ds++es)) (x :: (r++ys))
  unfold Reps
  exact ⟨x,r++ys,rfl,q1,ih q2⟩
theorem Reps.nil:Reps K B [] []:=by unfold Reps; rfl
theorem Reps.cons {d:D} {ds:List D} {x:V} {xs:List V} (h1:Rep K B d x) (h2:Reps K B ds xs):Reps K B (d :: ds) (x :: xs):=by unfold Reps; exact ⟨x,xs,rfl,h1,h2⟩
theorem Reps.one {d:D} {x:V} (h:Rep K B d x):Reps K B [d] [x]:=.cons h .nil
theorem Reps.drop:∀ (n:Nat) {ds:List D} {xs:List V},Reps K B ds xs→Reps K B (ds.drop n) (xs.drop n)
 | 0,_,_,h=>h
 | n+1,[],_,h=>by unfold Reps at h; subst h; exact .nil
 | n+1,d :: ds,_,h=>by
  unfold Reps at h
  obtain ⟨x,r,rfl,q1,q2⟩:=h
  exact Reps.drop n q2
theorem Reps.take:∀ (n:Nat) {ds:List D} {xs:List V},Reps K B ds xs→Reps K B (ds.take n) (xs.take n)
 | 0,_,_,_=>.nil
 | n+1,[],_,h=>by unfold Reps at h; subst h; exact .nil
 | n+1,d :: ds,_,h=>by
  unfold Reps at h
  obtain ⟨x,r,rfl,q1,q2⟩:=h
  exact .cons q1 (Reps.take n q2)
theorem Reps.cut {ds:List D} {xs:List V} (lo hi:Option Int) (h:Reps K B ds xs):Reps K B (cutL ds lo hi) (cutV xs lo hi):=by
 unfold cutL cutV
 rw [h.length]
 exact (h.drop _).take _
theorem Reps.ints (ns:List Int):Reps K B (ns.map D.int) (ns.map V.int):=by
 induction ns with
 | nil=>exact .nil
 | cons n ns ih=>exact .cons (rep_dV (d:=.int n) rfl) ih
theorem Reps.strs:∀ {ss:List Str} {xs:List V},Reps K B (ss.map D.str) xs→xs=ss.map V.str
 | [],_,h=>by unfold Reps at h; exact h
 | s :: ss,_,h=>by
  have h':Reps K B (.str s :: ss.map D.str) _:=h
  unfold Reps at h'
  obtain ⟨x,r,rfl,q1,q2⟩:=h'
  unfold Rep at q1
  rw [q1,Reps.strs q2]
  rfl
theorem Reps.bls:∀ {ss:List Bool} {xs:List V},Reps K B (ss.map D.bl) xs→xs=ss.map V.bl
 | [],_,h=>by unfold Reps at h; exact h
 | s :: ss,_,h=>by
  have h':Reps K B (.bl s :: ss.map D.bl) _:=h
  unfold Reps at h'
  obtain ⟨x,r,rfl,q1,q2⟩:=h'
  unfold Rep at q1
  rw [q1,Reps.bls q2]
  rfl
theorem Reps.atI {ds:List D} {xs:List V} {i:Int} {d:D} (h:Reps K B ds xs) (e:L2.atI ds i=some d):∃ x,L2.atI xs i=some x∧Rep K B d x:=by
 unfold L2.atI at e ⊢
 rw [← h.length]
 cases q:ixN ds.length i with
 | none=>rw [q] at e; cases e
 | some j =>
  rw [q] at e
  exact h.at e
def vAdd (rx ry:R) (Q:R→Prop):Prop:=match rx.d,ry.d with
 | .int i,.int j=>Q (.val (.int (i+j)))
 | .str a,.str b=>a.length+b.length≤sizeLine∧Q (.val (.str (a++b)))
 | .tup a,.tup b=>a.length+b.length≤sizeLine∧Q (.val (.tup (a++b)))
 | .lst a,.lst b=>a.length+b.length≤sizeLine∧Q (.own (.lst (a++b)))
 | _,_=>False
theorem vo_add:VO X (binaryOp .Add) vAdd:=by
 refine ⟨_,op_add.or (op_add_str.or (op_catP.or op_cat)),fun B H x y rx ry Q Qd s px py h k=>?_⟩
 unfold vAdd at h
 split at h
 ·rename_i i j e1 e2
  exact .inl ⟨i,j,px.scal (by rw [e1]; rfl),py.scal (by rw [e2]; rfl),k _ _ B H (.refl s) (repV rfl) h⟩
 ·rename_i i j e1 e2
  exact .inr (.inl ⟨i,j,px.scal (by rw [e1]; rfl),py.scal (by rw [e2]; rfl),h.1,k _ _ B H (.refl s) (repV rfl) h.2⟩)
 ·rename_i ds es e1 e2
  obtain ⟨a,xs,rfl,h1,r1⟩:=px.tup e1
  obtain ⟨b,ys,rfl,h2,r2⟩:=py.tup e2
  refine .inr (.inr (.inl ⟨a,b,xs,ys,rfl,rfl,s.sqT h1.sq,s.sqT h2.sq,by rw [← r1.length,← r2.length]; exact h.1,fun z=>?_,fun _ z=>?_,fun _ _ p hp=>?_⟩))
  ·refine k _ _ B H (.refl s) ?_ h.2
   show Rep X.K B (.tup (ds++es)) _
   have e:ds=[]:=List.eq_nil_of_length_eq_zero (by rw [r1.length,z]; rfl)
   unfold Rep
   exact ⟨b,ys,rfl,by rw [e]; exact h2,by rw [e]; exact r2⟩
  ·refine k _ _ B H (.refl s) ?_ h.2
   show Rep X.K B (.tup (ds++es)) _
   have e:es=[]:=List.eq_nil_of_length_eq_zero (by rw [r2.length,z]; rfl)
   unfold Rep
   exact ⟨a,xs,rfl,by rw [e,List.append_nil]; exact h1,by rw [e,List.append_nil]; exact r1⟩
  ·exact k (.val (.tup (ds++es))) _ (upd B p (.tup (xs++ys))) _ (.new s hp) (rep_newT (r1.append r2) (s.free hp)) h.2
 ·rename_i ds es e1 e2
  obtain ⟨a,xs,rfl,h1,r1⟩:=px.lst s e1
  obtain ⟨b,ys,rfl,h2,r2⟩:=py.lst s e2
  exact .inr (.inr (.inr ⟨a,b,xs,ys,rfl,rfl,h1,h2,by rw [← r1.length,← r2.length]; exact h.1,fun p hp=>k (.own (.lst (ds++es))) _ B _ (.grow s (same_upd hp _)) ⟨p,rfl,hp,s.free hp,own_newL (r1.append r2)⟩ h.2⟩))
 ·exact h.elim
def vI2 (C:Int→Int→Prop) (f:Int→Int→D) (rx ry:R) (Q:R→Prop):Prop:=match rx.d,ry.d with
 | .int i,.int j=>C i j∧Q (.val (f i j))
 | _,_=>False
def vI2' (f:Int→Int→D) (rx ry:R) (Q:R→Prop):Prop:=match rx.d,ry.d with
 | .int i,.int j=>Q (.val (f i j))
 | _,_=>False
theorem vo_i2 {g:Value→Value→Sem Value} {C:Int→Int→Prop} {f:Int→Int→D} {f':Int→Int→V} (hf:∀ i j,dV (f i j)=some (f' i j)) (h:OpR X g (rI C f')):VO X g (vI2 C f):=by
 refine ⟨_,h,fun B H x y rx ry Q Qd s px py h k=>?_⟩
 unfold vI2 at h
 split at h
 ·rename_i i j e1 e2
  exact ⟨i,j,px.scal (by rw [e1]; rfl),py.scal (by rw [e2]; rfl),h.1,k _ _ B H (.refl s) (repV (hf i j)) h.2⟩
 ·exact h.elim
theorem vo_i2' {g:Value→Value→Sem Value} {f:Int→Int→D} {f':Int→Int→V} (hf:∀ i j,dV (f i j)=some (f' i j)) (h:OpR X g (rI0 f')):VO X g (vI2' f):=by
 refine ⟨_,h,fun B H x y rx ry Q Qd s px py h k=>?_⟩
 unfold vI2' at h
 split at h
 ·rename_i i j e1 e2
  exact ⟨i,j,px.scal (by rw [e1]; rfl),py.scal (by rw [e2]; rfl),k _ _ B H (.refl s) (repV (hf i j)) h⟩
 ·exact h.elim
abbrev vSub:=vI2' fun i j=>.int (i - j)
abbrev vMul:=vI2 CMul fun i j=>.int (i * j)
abbrev vDiv:=vI2 CDiv fun i j=>.int (i / j)
abbrev vMod:=vI2 (fun _ j=>0 < j) fun i j=>.int (i % j)
abbrev vPow:=vI2 CPow fun i j=>.int (i ^ j.toNat)
abbrev vLt:=vI2' fun i j=>.bl (decide (i < j))
abbrev vLe:=vI2' fun i j=>.bl (decide (i≤j))
abbrev vGt:=vI2' fun i j=>.bl (decide (j < i))
abbrev vGe:=vI2' fun i j=>.bl (decide (j≤i))
theorem vo_sub:VO X (binaryOp .Sub) vSub:=vo_i2' (fun _ _=>rfl) op_sub
theorem vo_mul:VO X (binaryOp .Mult) vMul:=vo_i2 (fun _ _=>rfl) op_mul
theorem vo_div:VO X (binaryOp .FloorDiv) vDiv:=vo_i2 (fun _ _=>rfl) op_fdiv
theorem vo_mod:VO X (binaryOp .Mod) vMod:=vo_i2 (fun _ _=>rfl) op_mod
theorem vo_pow:VO X (binaryOp .Pow) vPow:=vo_i2 (fun _ _=>rfl) op_pow
theorem vo_lt:VO X (compareOp .Lt) vLt:=vo_i2' (fun _ _=>rfl) op_lt
theorem vo_le:VO X (compareOp .LtE) vLe:=vo_i2' (fun _ _=>rfl) op_le
theorem vo_gt:VO X (compareOp .Gt) vGt:=vo_i2' (fun _ _=>rfl) op_gt
def vEq (rx ry:R) (Q:R→Prop):Prop:=cmpD rx.d ry.d=true∧depD rx.d≤50∧Q (.val (.bl (eqD rx.d ry.d)))
theorem vo_eq (hu:X.A.units+64 < cLine):VO X (compareOp .Eq) vEq :=
 ⟨_,op_eqD (by lia),fun B H x y rx ry Q Qd s px py h k=>⟨rx.d,ry.d,px.rep s,py.rep s,h.1,h.2.1,k _ _ B H (.refl s) (repV rfl) h.2.2⟩⟩
def vNe (rx ry:R) (Q:R→Prop):Prop:=match dV rx.d,dV ry.d with
 | some u,some w=>scal u w=true∧Q (.val (.bl (!decide (u=w))))
 | _,_=>False
def vSlR (rx:R) (lo hi:Option Int) (Q:R→Prop):Prop:=match rx.d with
 | .str z=>z.length≤sizeLine∧Q (.val (.str (Txt.slice z lo hi)))
 | .tup ds=>Q (.val (.tup (cutL ds lo hi)))
 | .lst ds=>Q (.own (.lst (cutL ds lo hi)))
 | .scr ns=>Q (.own (.lst ((cutL ns lo hi).map D.int)))
 | _=>False
abbrev TVO:=VSt→(Option Int→Prop)→Prop
def vNoPart:TVO:=fun _ Q=>Q none
def vPart (te:TV):TVO:=fun τ Q=>te τ fun r=>match r.d with
 | .int i=>Q (some i)
 | _=>False
def RfOp (K:PySem.W.Frag) (to:TO) (t:TVO):Prop:=∀ (H0 B H:Hp) (τ:VSt) (σ:St) (Q:Option Int→Hp→Prop) (Qd:Option Int→Prop),Same B H→Slots K H0 B H τ σ→t τ Qd→(∀ o B' H',Stp B H B' H'→Qd o→Q o H')→to σ H Q
structure VPt (X:Cx) (EX:St→XK) (e:Option Expr) (t:TVO):Prop where
 u:∃ to,QO X e to∧RfOp X.K to t
variable {e:Expr} {te ta:TV} {es:List Expr} {lo hi:Option Expr} {tl th:TVO} {pos p p2 apos cpos:Pos} {x:Str}
theorem vp_none:VPt X EX none vNoPart:=⟨_,qo_none,fun _ B H _ _ _ _ s _ h k=>k _ B H (.refl s) h⟩
theorem vp_some (h:VE X EX e te):VPt X EX (some e) (vPart te):=let ⟨_,a1,a2⟩:=h.u; ⟨_,qo_some a1,fun H0 B H τ σ Q Qd s S h k=>a2 H0 B H τ σ _ _ s S h (xno fun _ q=>q) fun r v B' H' p q h1=>by
  split at h1
  ·rename_i i e
   exact ⟨i,q.pk.scal (by rw [e]; rfl),k _ B' H' p h1⟩
  ·exact h1.elim⟩
def vSlice (te:TV) (tl th:TVO):TV:=fun τ Q=>te τ fun r=>exR r Q (tl τ fun l=>th τ fun u=>vSlR r l u Q)
theorem ve_slice (he:VE X EX e te) (hl:VPt X EX lo tl) (hh:VPt X EX hi th):VE X EX (.Subscript e (.Slice lo hi none p2) pos) (vSlice te tl th) :=
 let ⟨_,a1,a2⟩:=he.u; let ⟨_,b1,b2⟩:=hl.u; let ⟨_,c1,c2⟩:=hh.u; ⟨_,qe_slice (sl_str.or (sl_tupP.or sl_list)) a1 b1 c1,fun H0 B H τ σ Q Qd s S h xc k =>
  a2 H0 B H τ σ _ _ s S h xc fun r v B1 H1 p1 q1 h1=>b2 H0 B1 H1 τ σ _ _ p1.s (S.step p1) (q1.ok h1) fun l B2 H2 p2 h2=>c2 H0 B2 H2 τ σ _ _ p2.s (S.step (p1.trans p2)) h2 fun u B3 H3 p3 h3=>by
   have p12:=p1.trans p2
   have pp:=p12.trans p3
   have pk:=(q1.pk.step p2).step p3
   unfold vSlR at h3
   split at h3
   ·rename_i z ez
    cases pk.scal (z:=.str z) (by rw [ez]; rfl)
    exact .inl ⟨z,rfl,h3.1,k _ _ B3 H3 pp (repV rfl) h3.2⟩
   ·rename_i ds ed
    obtain ⟨a,xs,rfl,h1,r1⟩:=pk.tup ed
    refine .inr (.inl ⟨a,xs,rfl,p3.s.sqT h1.sq,fun w=>?_,fun w p hp=>?_⟩)
    ·refine k _ _ B3 H3 pp ?_ h3
     show Rep X.K B3 (.tup (cutL ds l u)) _
     unfold Rep
     have hc:cutL ds l u=ds:=by
      unfold cutL
      rw [r1.length,w.1,w.2,List.drop_zero,Nat.sub_zero,← r1.length,List.take_length]
     rw [hc]
     exact ⟨a,xs,rfl,h1,r1⟩
    ·exact k (.val (.tup (cutL ds l u))) _ (upd B3 p (.tup (cutV xs l u))) _ (pp.trans (.new p3.s hp)) (rep_newT (r1.cut l u) (p3.s.free hp)) h3
   ·rename_i ds ed
    obtain ⟨a,xs,rfl,h1,r1⟩:=pk.lst p3.s ed
    exact .inr (.inr ⟨a,xs,rfl,SqL.of h1,fun p hp=>k (.own _) _ B3 _ (pp.trans (.grow p3.s (same_upd hp _))) ⟨p,rfl,pp.h.free hp,p3.s.free hp,own_newL (r1.cut l u)⟩ h3⟩)
   ·rename_i ns en
    obtain ⟨a,rfl,h1⟩:=pk.scr p3.s en
    refine .inr (.inr ⟨a,_,rfl,h1,fun p hp=>k (.own _) _ B3 _ (pp.trans (.grow p3.s (same_upd hp _))) ⟨p,rfl,pp.h.free hp,p3.s.free hp,?_⟩ h3⟩)
    rw [cutV_map]
    exact own_newL (.ints _)
   ·exact h3.elim⟩
def vIxR (rx ry:R) (Q:R→Prop):Prop:=match rx.d,ry.d with
 | .str z,.int i=>z.length≤sizeLine∧∃ c,atI z.cps.toList i=some c∧Q (.val (.str ⟨#[c]⟩))
 | .tup ds,.int i=>∃ d,atI ds i=some d∧Q (.val d)
 | .lst ds,.int i=>∃ d,atI ds i=some d∧Q (.val d)
 | .scr ns,.int i=>∃ n,atI ns i=some n∧Q (.val (.int n))
 | _,_=>False
theorem vx_seq:VX X vIxR:=by
 refine ⟨_,ix_str.or (ix_tup.or ix_list),fun B H x y rx ry Q Qd s px py h k=>?_⟩
 unfold vIxR at h
 split at h
 ·rename_i z i e1 e2
  obtain ⟨hz,c,hc,q⟩:=h
  exact .inl ⟨z,i,c,px.scal (by rw [e1]; rfl),py.scal (by rw [e2]; rfl),hz,hc,k _ _ B H (.refl s) (repV rfl) q⟩
 ·rename_i ds i e1 e2
  obtain ⟨d,hd,q⟩:=h
  obtain ⟨a,xs,rfl,h1,r1⟩:=px.tup e1
  obtain ⟨w,hw,rw'⟩:=r1.atI hd
  exact .inr (.inl ⟨a,xs,i,w,rfl,py.scal (by rw [e2]; rfl),s.sqT h1.sq,hw,k (.val d) _ B H (.refl s) rw' q⟩)
 ·rename_i ds i e1 e2
  obtain ⟨d,hd,q⟩:=h
  obtain ⟨a,xs,rfl,h1,r1⟩:=px.lst s e1
  obtain ⟨w,hw,rw'⟩:=r1.atI hd
  exact .inr (.inr ⟨a,xs,i,w,rfl,py.scal (by rw [e2]; rfl),SqL.of h1,hw,k (.val d) _ B H (.refl s) rw' q⟩)
 ·rename_i ns i e1 e2
  obtain ⟨n,hn,q⟩:=h
  obtain ⟨a,rfl,h1⟩:=px.scr s e1
  exact .inr (.inr ⟨a,_,i,_,rfl,py.scal (by rw [e2]; rfl),h1,at_map hn,k _ _ B H (.refl s) (repV rfl) q⟩)
 ·exact h.elim
def vLen (rx:R) (Q:R→Prop):Prop:=match rx.d with
 | .str z=>z.length≤sizeLine∧Q (.val (.int z.length))
 | .tup ds=>Q (.val (.int ds.length))
 | .lst ds=>Q (.val (.int ds.length))
 | .scr ns=>Q (.val (.int ns.length))
 | _=>False
theorem vf_len:VF X (.builtin "len") vLen:=by
 refine ⟨_,call_len_str.or call_len_seq,fun B H x rx Q Qd s px h k=>?_⟩
 unfold vLen at h
 split at h
 ·rename_i z e1
  exact .inl ⟨z,by rw [px.scal (z:=.str z) (by rw [e1]; rfl)],h.1,k _ _ B H (.refl s) (repV rfl) h.2⟩
 ·rename_i ds e1
  obtain ⟨a,xs,rfl,h1,r1⟩:=px.tup e1
  exact .inr ⟨a,xs,rfl,.inr (s.sqT h1.sq),k _ _ B H (.refl s) (repV rfl) (by rw [r1.length] at h; exact h)⟩
 ·rename_i ds e1
  obtain ⟨a,xs,rfl,h1,r1⟩:=px.lst s e1
  exact .inr ⟨a,xs,rfl,.inl (SqL.of h1),k _ _ B H (.refl s) (repV rfl) (by rw [r1.length] at h; exact h)⟩
 ·rename_i ns e1
  obtain ⟨a,rfl,h1⟩:=px.scr s e1
  exact .inr ⟨a,_,rfl,.inl h1,k (.val (.int ns.length)) _ B H (.refl s) (by rw [List.length_map]; exact repV rfl) h⟩
 ·exact h.elim
def vList (rx:R) (Q:R→Prop):Prop:=match rx.d with
 | .tup ds=>Q (.own (.lst ds))
 | .lst ds=>Q (.own (.lst ds))
 | .scr ns=>Q (.own (.lst (ns.map D.int)))
 | _=>False
theorem vf_list:VF X (.type "list") vList:=by
 refine ⟨_,call_list_of,fun B H x rx Q Qd s px h k=>?_⟩
 unfold vList at h
 split at h
 ·rename_i ds e1
  obtain ⟨a,xs,rfl,h1,r1⟩:=px.tup e1
  exact ⟨a,xs,rfl,.inr (s.sqT h1.sq),fun p hp=>k (.own _) _ B _ (.grow s (same_upd hp _)) ⟨p,rfl,hp,s.free hp,own_newL r1⟩ h⟩
 ·rename_i ds e1
  obtain ⟨a,xs,rfl,h1,r1⟩:=px.lst s e1
  exact ⟨a,xs,rfl,.inl (SqL.of h1),fun p hp=>k (.own _) _ B _ (.grow s (same_upd hp _)) ⟨p,rfl,hp,s.free hp,own_newL r1⟩ h⟩
 ·rename_i ns e1
  obtain ⟨a,rfl,h1⟩:=px.scr s e1
  exact ⟨a,_,rfl,.inl h1,fun p hp=>k (.own _) _ B _ (.grow s (same_upd hp _)) ⟨p,rfl,hp,s.free hp,own_newL (.ints ns)⟩ h⟩
 ·exact h.elim
def vTuple (rx:R) (Q:R→Prop):Prop:=match rx.d with
 | .tup ds=>Q (.val (.tup ds))
 | .lst ds=>Q (.val (.tup ds))
 | _=>False
def vStr (rx:R) (Q:R→Prop):Prop:=match rx.d with
 | .int i=>i.natAbs.log2 < 1920∧Q (.val (.str (toString i)))
 | _=>False
theorem vf_str:VF X (.type "str") vStr:=by
 refine ⟨_,call_str_int,fun B H x rx Q Qd s px h k=>?_⟩
 unfold vStr at h
 split at h
 ·rename_i i e1
  exact ⟨i,by rw [px.scal (z:=.int i) (by rw [e1]; rfl)],h.1,k _ _ B H (.refl s) (repV rfl) h.2⟩
 ·exact h.elim
def vAll (g:List Bool→Bool) (rx:R) (Q:R→Prop):Prop:=∃ bs:List Bool,rx.d=.lst (bs.map D.bl)∧Q (.val (.bl (g bs)))
theorem vf_all (hc:X.calm=true):VF X (.builtin "all") (vAll fun bs=>bs.all id):=by
 refine ⟨_,call_allB hc,fun B H x rx Q Qd s px ⟨bs,e1,h⟩ k=>?_⟩
 obtain ⟨a,xs,rfl,h1,r1⟩:=px.lst s e1
 exact ⟨a,bs,rfl,SqL.of (by rw [h1,r1.bls]),k _ _ B H (.refl s) (repV rfl) h⟩
inductive Ty5 where
 | str | tuple | list | int | bool
def Ty5.nm:Ty5→String
 | .str=>"str" | .tuple=>"tuple" | .list=>"list" | .int=>"int" | .bool=>"bool"
def isTy:Ty5→D→Option Bool
 | _,.non=>some false
 | c,.bl _=>some (match c with | .bool=>true | .int=>true | _=>false)
 | c,.int _=>some (match c with | .int=>true | _=>false)
 | c,.str _=>some (match c with | .str=>true | _=>false)
 | c,.tup _=>some (match c with | .tuple=>true | _=>false)
 | c,.lst _=>some (match c with | .list=>true | _=>false)
 | _,_=>none
def nmTy:D→String
 | .non=>"NoneType" | .bl _=>"bool" | .int _=>"int" | .str _=>"str" | .tup _=>"tuple" | _=>"list"
theorem kit_isTy {d:D} {c:Ty5} {b:Bool} (h:isTy c d=some b):PySem.W.kitOne K (.type (nmTy d)) (.type c.nm)=some b:=by
 cases d <;> cases c <;> first | (cases h; with_unfolding_all rfl; done) | (cases h; exact kit_same; done) | (cases h; done)
theorem isinst_D {pins:List (Addr × Obj)} {s:Shared} {σ:St} {H:Hp} {v:V} {u:Value} {d:D} {c:Ty5} {b:Bool} {A:Around} {Q:Value→Shared→Prop} {E:Value→Shared→Prop} (I:Inv X pins σ H s) (rx:RelV v u) (h:Rep X.K H d v) (e:isTy c d=some b)
  (q:∀ tk,Q (.bool b) { s with toks:=tk }):wpAny (model X.prog X.w) A (call (.builtin "isinstance") [u,.type c.nm]) Q E s:=by
 have kt:=kit_isTy (K:=X.K) e
 cases d with
 | non=>unfold Rep at h; subst h; exact isinst_ok I rx .non kt q
 | bl b=>unfold Rep at h; subst h; exact isinst_ok I rx (.bl _) kt q
 | int b=>unfold Rep at h; subst h; exact isinst_ok I rx (.int _) kt q
 | str b=>unfold Rep at h; subst h; exact isinst_ok I rx (.str _) kt q
 | tup ds =>
  unfold Rep at h
  obtain ⟨a,xs,rfl,ha,_⟩:=h
  cases (show u=Value.ref a from rx)
  obtain ⟨its,_,⟨o,h1,h2,_⟩,_⟩:=I.tuple ha.sq
  exact PySem.W.kia_one PySem.W.kitx_tuple I.kIn ⟨o,h1,h2⟩ kt (fun z=>nomatch z) q
 | lst ds =>
  unfold Rep at h
  obtain ⟨a,xs,rfl,ha,_⟩:=h
  exact isinst_ok I rx (.lst ha) kt q
 | dT _ _=>cases e
 | dK _ _=>cases e
 | scr _=>cases e
 | kt _=>cases e
 | exc _=>cases e
 | io _ _=>cases e
 | ioT _ _ _=>cases e
theorem call_isD (c:Ty5):CallR X (.builtin "isinstance") (fun xs H Q=>∃ x d b,xs=[x,.ty c.nm]∧Rep X.K H d x∧isTy c d=some b∧Q (.bl b) H):=by
 intro pins s σ H xs us Q I r h
 obtain ⟨x,d,b,rfl,ty,e,q⟩:=h
 obtain ⟨u,v,rfl,ru,rv⟩:=vals2 r
 cases (show v=Value.type c.nm from rv)
 exact isinst_D I ru ty e fun tk=>⟨.bl b,H,I.tok tk,rfl,q⟩
def vIsin (c:Ty5) (ta:TV):TV:=fun τ Q=>ta τ fun r=>exR r (fun _=>False) <| match isTy c r.d with
 | some b=>Q (.val (.bl b))
 | none=>False
theorem ve_isin {a:Expr} {pb:Pos} {y:Str} (c:Ty5) (hg:Gl X "isinstance") (hm:X.mg "isinstance" = none) (hgy:Gl X y) (hmy:X.mg y=none) (hby:bootBuiltins y=some (.type c.nm)) (ha:VE X EX a ta) (hp:plainE a=true:=by rfl) (hny:y≠"__name__" := by decide) (hdy:(y == ("__debug__" : Str))=false:=by decide) :
  VE X EX (.Call (.Name "isinstance" p) [a,.Name y pb] [] pos) (vIsin c ta) :=
 let ⟨_,a1,a2⟩:=ha.u; ⟨_,qcb (call_isD c) hg hm PyProof.Rows.Boot.«isinstance» (qac a1 (qac (qe_bltn (v:=.ty c.nm) hgy hmy hby rfl hny hdy) qa_nil rfl) hp) (by rw [List.all_cons,hp]; rfl),fun H0 B H τ σ Q Qd s S h xc k=>a2 H0 B H τ σ _ _ s S h (xno fun _ q=>q) fun r v B1 H1 p1 q1 h1=>by
   have h1:=q1.ok h1
   split at h1
   ·rename_i b eb
    exact ⟨v,r.d,b,rfl,q1.pk.rep p1.s,eb,k _ _ B1 H1 p1 (repV rfl) h1⟩
   ·exact h1.elim⟩
end
end L2
namespace L2
open PySem PySem.Spec PyProof.Rows
section
variable {X:Cx} {EX:St→XK} {K:PySem.W.Frag} {B H B' H' H0 B0 B1 H1:Hp} {st:Stmt} {rest:List Stmt} {t u:TVS} {e a c o:Expr} {te ta:TV} {tT:TVT} {tA:TVA} {es:List Expr} {pos pos' p p2 apos cpos:Pos} {x:Str} {τ:VSt} {σ:St}
theorem Stp.base (p:Stp B0 H0 B1 H1) (q:Stp B1 H0 B' H'):Stp B0 H0 B' H':=⟨p.b.trans q.b,q.h,q.s,fun a h=>(q.d a h).elim (p.d a) .inr⟩
theorem Stp.here (p:Stp B0 H0 B1 H1):Stp B1 H0 B1 H1:=⟨Same.refl _,p.h,p.s,fun _ h=>.inl h⟩
theorem EndsOk.base {Dv:VEnds} {Dh:Ends} (E:EndsOk K EX B0 H0 Dv Dh) (p:Stp B0 H0 B1 H1):EndsOk K EX B1 H0 Dv Dh :=
 ⟨fun B H τ σ q=>E.nx B H τ σ (p.base q),fun r v B H q=>E.rt r v B H (p.base q),fun B H τ σ q=>E.bk B H τ σ (p.base q),fun B H τ σ q=>E.ct B H τ σ (p.base q),fun B H τ σ n C q=>E.xc B H τ σ n C (p.base q),fun r v B H τ σ q=>E.ro r v B H τ σ (p.base q)⟩
def exS (τ:VSt) (Dv:VEnds):R→Prop→Prop
 | .exc n,_=>Dv.xc τ n
 | .val _,k=>k
 | .own _,k=>k
 | .peek _,k=>k
theorem RepR.okS {r:R} {v:V} {τ:VSt} {Dv:VEnds} {k:Prop} (h:RepR K B H0 H r v) (q:exS τ Dv r k):k:=by
 cases r with
 | exc n=>exact h.elim
 | val d=>exact q
 | own d=>exact q
 | peek d=>exact q
theorem EndsOk.raised {Dv:VEnds} {Dh:Ends} (E:EndsOk K EX B0 H0 Dv Dh) (p:Stp B0 H0 B H) (S:Slots K H0 B H τ σ):∀ n C B' H',Stp B H B' H'→clsOf K n C→Dv.xc τ n→EX σ (.ref C) none H':=fun n C B' H' q c h=>E.xc B' H' τ σ n C (p.trans q) (S.step q) c h
def vNext:TVS:=fun Dv τ=>Dv.nx τ
def vSeq (t u:TVS):TVS:=fun Dv τ=>t { Dv with nx:=u Dv } τ
theorem vss_nil:VSs X EX [] vNext:=⟨_,qss_nil,fun B0 H0 B H τ σ Dv Dh p S h E=>E.nx B H τ σ p S h⟩
theorem vss_one (h:VS X EX st t):VSs X EX [st] t:=let ⟨_,a1,a2⟩:=h.u; ⟨_,qss_one a1,a2⟩
theorem vss_cons (h:VS X EX st t) (r:VSs X EX rest u):VSs X EX (st :: rest) (vSeq t u) :=
 let ⟨_,a1,a2⟩:=h.u; let ⟨_,b1,b2⟩:=r.u; ⟨_,qss_cons a1 b1,fun B0 H0 B H τ σ Dv Dh p S h E=>a2 B0 H0 B H τ σ _ _ p S h ⟨fun B H τ σ p S h=>b2 B0 H0 B H τ σ _ _ p S h E,E.rt,E.bk,E.ct,E.xc,E.ro⟩⟩
def vFrz (i:Nat) (t:TVS):TVS:=fun Dv τ=>t Dv (frz i τ)
theorem vss_frz (i:Nat) (h:VSs X EX rest t):VSs X EX rest (vFrz i t) :=
 let ⟨_,a1,a2⟩:=h.u; ⟨_,a1,fun B0 H0 B H τ σ Dv Dh p S h E=>by
  obtain ⟨B2,p2,_,S2⟩:=S.frz p i
  exact a2 B0 H0 B2 H _ σ _ _ p2 S2 h E⟩
def vIfS (c:TVT) (t u:TVS):TVS:=fun Dv τ=>c τ fun b=>if b=true then t Dv τ else u Dv τ
theorem vs_if {sa sb:List Stmt} (hc:VT X EX c tT) (ha:VSs X EX sa t) (hb:VSs X EX sb u):VS X EX (.If c sa sb pos) (vIfS tT t u) :=
 let ⟨_,c1,c2⟩:=hc.u; let ⟨_,a1,a2⟩:=ha.u; let ⟨_,b1,b2⟩:=hb.u; ⟨_,qs_if c1 a1 b1,fun B0 H0 B H τ σ Dv Dh p S h E=>c2 H0 B H τ σ _ _ p.s S h fun cb B' H' q hq=>by
  cases cb with
  | true=>exact iteT (a2 B0 H0 B' H' τ σ _ _ (p.trans q |> fun z=>⟨z.b,z.h,z.s,z.d⟩) (S.step q) (by rw [if_pos rfl] at hq; exact hq) E)
  | false=>exact iteF (b2 B0 H0 B' H' τ σ _ _ (p.trans q) (S.step q) (by rw [if_neg Bool.false_ne_true] at hq; exact hq) E)⟩
def vRet (te:TV):TVS:=fun Dv τ=>te τ fun r=>exS τ Dv r (pubR r fun _=>Dv.rt r)
theorem vs_ret (h:VE X EX e te):VS X EX (.Return (some e) pos) (vRet te) :=
 let ⟨_,a1,a2⟩:=h.u; ⟨_,qs_ret a1,fun B0 H0 B H τ σ Dv Dh p S h E=>a2 H0 B H τ σ _ _ p.s S h (E.raised p S) fun r v B' H' q hr hq=>by
  cases r with
  | val d=>exact E.rt (.val d) v B' H' (p.trans q) hr hq
  | own d=>exact E.rt (.own d) v B' H' (p.trans q) (hr.back p.h) hq
  | peek d=>exact hq.elim
  | exc n=>exact hr.elim⟩
def vRetO (i:Nat):TVS:=fun Dv τ=>match τ[i]? with
 | some (some (.own d))=>Dv.rt (.own d)
 | some (some (.val d))=>Dv.rt (.val d)
 | _=>False
theorem vs_retO (i:Nat) (hN:X.N[i]?=some x:=by rfl) (hv:Vis X.env.scope x:=by first | exact Or.inl rfl | exact Or.inr (Or.inl rfl) | exact Or.inr (Or.inr rfl)) (hd:(x == ("__debug__" : Str))=false:=by decide)
  (hcd:(x == ("__classdict__" : Str))=false:=by decide):VS X EX (.Return (some (.Name x pos')) pos) (vRetO i) :=
 ⟨_,qs_ret (qv i hN hv hd hcd),fun B0 H0 B H τ σ Dv Dh p S h E=>by
  unfold vRetO at h
  split at h
  ·rename_i d e
   obtain ⟨a,q,h0,hb,ow⟩:=S.own i d e
   exact ⟨.ref a,q,E.rt (.own d) _ B H p ⟨a,rfl,h0,hb,ow⟩ h⟩
  ·rename_i d e
   obtain ⟨v,q,rp⟩:=S.val i d e
   exact ⟨v,q,E.rt (.val d) _ B H p rp h⟩
  ·exact h.elim⟩
def vRetN:TVS:=fun Dv _=>Dv.rt (.val .non)
def vDrop (te:TV):TVS:=fun Dv τ=>te τ fun r=>exS τ Dv r (Dv.nx τ)
def vSet (i:Nat) (te:TV):TVS:=fun Dv τ=>te τ fun r=>exS τ Dv r (pubR r fun d=>Dv.nx (τ.set i (some (.val d))))
theorem rf_set {i:Nat} {ee:TE} (h:RfE K EX ee te):RfS K EX (tAsg ee (gName i)) (vSet i te):=fun B0 H0 B H τ σ Dv Dh p S hh E=>h H0 B H τ σ _ _ p.s S hh (E.raised p S) fun r v B' H' q hr hq=>by
 obtain ⟨d,B2,q2,_,rp,hd⟩:=pub q hr (hr.okS hq)
 exact E.nx B2 H' _ _ (p.trans q2) ((S.step q2).setVal i rp) hd
def vSetO (i:Nat) (te:TV):TVS:=fun Dv τ=>te τ fun r=>exS τ Dv r (pubR r fun _=>Dv.nx (τ.set i (some r)))
theorem rf_setO {i:Nat} {ee:TE} (h:RfE K EX ee te):RfS K EX (tAsg ee (gName i)) (vSetO i te):=fun B0 H0 B H τ σ Dv Dh p S hh E=>h H0 B H τ σ _ _ p.s S hh (E.raised p S) fun r v B' H' q hr hq=>by
 cases r with
 | val d=>exact E.nx B' H' _ _ (p.trans q) ((S.step q).setVal i hr) hq
 | own d =>
  obtain ⟨a,rfl,h0,hb,ow⟩:=hr
  refine E.nx B' H' _ _ (p.trans q) ((S.step q).setOwn i (p.h.free h0) hb ow fun j e he z=>?_) hq
  obtain ⟨c,qc,_,_,oc⟩:=S.own j e he
  rw [z] at qc
  cases qc
  exact oc.some h0
 | peek d=>exact hq.elim
 | exc n=>exact hr.elim
theorem vs_set {i:Nat} (hN:X.N.Nodup) (hi:X.N[i]?=some x) (hx:Loc X.env.scope x) (h:VE X EX e te) (hs:swapsWith e (some (.Name x pos')) pos.line X.env=pure false:=by rfl)
  (hf:X.fn x=true∨X.env.scope.names.lookup x=some .local:=by first | exact .inl rfl | exact .inr rfl | assumption):VS X EX (.Assign [.Name x pos'] e pos) (vSet i te):=let ⟨_,a1,a2⟩:=h.u; ⟨_,qs_set hN hi hx a1 hs hf,rf_set a2⟩
theorem vs_setO {i:Nat} (hN:X.N.Nodup) (hi:X.N[i]?=some x) (hx:Loc X.env.scope x) (h:VE X EX e te) (hs:swapsWith e (some (.Name x pos')) pos.line X.env=pure false:=by rfl)
  (hf:X.fn x=true∨X.env.scope.names.lookup x=some .local:=by first | exact .inl rfl | exact .inr rfl | assumption):VS X EX (.Assign [.Name x pos'] e pos) (vSetO i te):=let ⟨_,a1,a2⟩:=h.u; ⟨_,qs_set hN hi hx a1 hs hf,rf_setO a2⟩
def vgName (i:Nat):TVG:=fun d τ Q=>Q (τ.set i (some (.val d)))
theorem kp_set {i:Nat} {d:D} {v:V}:Kp τ σ (τ.set i (some (.val d))) (σ.set i (some v)):=fun j e h=>by
 rcases getSet h with ⟨rfl,z,l⟩ | ⟨n,h⟩
 ·cases z
 ·exact ⟨h,List.getElem?_set_ne n⟩
theorem Kp.trans {τ1 τ2 τ3:VSt} {σ1 σ2 σ3:St} (h1:Kp τ1 σ1 τ2 σ2) (h2:Kp τ2 σ2 τ3 σ3):Kp τ1 σ1 τ3 σ3:=fun j e h=>let ⟨a,b⟩:=h2 j e h; let ⟨c,d⟩:=h1 j e a; ⟨c,b.trans d⟩
theorem vg_name {i:Nat} (hN:X.N.Nodup) (hi:X.N[i]?=some x) (hx:Loc X.env.scope x) (hf:X.fn x=true∨X.env.scope.names.lookup x=some .local:=by first | exact .inl rfl | exact .inr rfl | assumption):VG X (.Name x pos) (vgName i) :=
 ⟨_,qg_name hN hi hx hf,fun H0 B H τ σ v d Q Qd s S rp h k=>k _ _ (S.setVal i rp) kp_set h⟩
def vgNil:List D→VSt→(VSt→Prop)→Prop:=fun ds τ Q=>ds=[]∧Q τ
def vgCons (g:TVG) (gs:List D→VSt→(VSt→Prop)→Prop):List D→VSt→(VSt→Prop)→Prop:=fun ds τ Q=>match ds with
 | d :: r=>g d τ fun τ'=>gs r τ' Q
 | []=>False
theorem vgs_nil:VGs X [] vgNil:=⟨_,qgs_nil,fun H0 B H τ σ xs ds Q Qd s S rp h k=>by
 obtain ⟨rfl,h⟩:=h
 unfold Reps at rp
 exact ⟨rp,k τ σ S (fun j e h=>⟨h,rfl⟩) h⟩⟩
theorem vgs_cons {g:TVG} {gs:List D→VSt→(VSt→Prop)→Prop} (h1:VG X e g) (h2:VGs X es gs) (hs:(assignEach (e :: es) X.env).map (·.2)=assign e X.env :: (assignEach es X.env).map (·.2):=by rfl):VGs X (e :: es) (vgCons g gs) :=
 let ⟨_,a1,a2⟩:=h1.u; let ⟨_,b1,b2⟩:=h2.u; ⟨_,qgs_cons a1 b1 hs,fun H0 B H τ σ xs ds Q Qd s S rp h k=>by
  cases ds with
  | nil=>exact h.elim
  | cons d ds =>
   unfold Reps at rp
   obtain ⟨v,r,rfl,r1,r2⟩:=rp
   exact ⟨v,r,rfl,a2 H0 B H τ σ v d _ _ s S r1 h fun τ' σ' S' kp h'=>b2 H0 B H τ' σ' r ds _ _ s S' r2 h' fun τ2 σ2 S2 kp2 h2=>k τ2 σ2 S2 (kp.trans kp2) h2⟩⟩
def vgTup (n:Nat) (gs:List D→VSt→(VSt→Prop)→Prop):TVG:=fun d τ Q=>match d with
 | .tup ds=>ds.length=n∧gs ds τ Q
 | _=>False
theorem vg_tup {k:Nat} {gs:List D→VSt→(VSt→Prop)→Prop} {n:Nat} (hc:X.calm=true) (h:VGs X es gs) (hn:(assignEach es X.env).length=n:=by rfl) (hst:(assignEach es X.env).findIdx? (·.1)=none:=by rfl):VG X (.Tuple es k pos) (vgTup n gs) :=
 let ⟨_,a1,a2⟩:=h.u; ⟨_,qg_tup hc a1 hn hst,fun H0 B H τ σ v d Q Qd s S rp h k=>by
  cases d with
  | tup ds =>
   unfold Rep at rp
   obtain ⟨a,xs,rfl,ha,r⟩:=rp
   exact ⟨a,xs,rfl,s.sqT ha.sq,by rw [← r.length]; exact h.1,a2 H0 B H τ σ xs ds _ _ s S r h.2 k⟩
  | _=>exact h.elim⟩
def vAsg (te:TV) (g:TVG):TVS:=fun Dv τ=>te τ fun r=>exS τ Dv r (pubR r fun d=>g d τ Dv.nx)
end
section
variable {X:Cx} {tg l e:Expr}
def iAny (K:PySem.W.Frag) (tl:TE):TI:=fun σ H R=>tl σ H fun x H1=>(∃ a,x=.ref a∧(∃ xs,SqL K H1 a xs)∧R (Itl K a) H1)∨(∃ a,x=.ref a∧(∃ xs,SqT K H1 a xs)∧R (Itt K a) H1)∨∃ z,x=.str z∧R (Its z) H1
theorem pi_any {tl:TE} (hl:PE X l tl):PI X tg l (iAny X.K tl):=by
 intro pins s σ H R I h
 refine thn (hl pins s σ H _ I h) fun v s1 ⟨x,H1,I1,r1,q1⟩=>?_
 rcases q1 with ⟨a,rfl,⟨xs,hq⟩,q⟩ | ⟨a,rfl,⟨xs,hq⟩,q⟩ | ⟨z,rfl,q⟩
 ·cases r1
  obtain ⟨its,rv,pl,hz⟩:=I1.list hq
  refine wpAny_pyIter_list pl.isList ⟨s1.heap.objs.size,[s1.heap.objs.size],_,_,H1,rfl,I1.kept (t':=s1.toks) fun b o e=>Heap.get?_push_of_some _ e,turn_list a _,⟨_,Heap.get?_push_size _ rfl,rfl,rfl⟩,fun b hb=>?_,q⟩
  cases (by simpa using hb:b=s1.heap.objs.size)
  exact I1.fpOk (Nat.le_refl _) (I1.hok.fresh (Nat.le_refl _))
 ·cases r1
  obtain ⟨its,rv,pl,hz⟩:=I1.tuple hq
  refine wpAny_pyIter_tuple (show s1.heap.IsTuple a its.toArray from pl) ⟨s1.heap.objs.size,[s1.heap.objs.size],_,_,H1,rfl,I1.kept (t':=s1.toks) fun b o e=>Heap.get?_push_of_some _ e,turn_tuple a _,⟨_,Heap.get?_push_size _ rfl,rfl,rfl⟩,fun b hb=>?_,q⟩
  cases (by simpa using hb:b=s1.heap.objs.size)
  exact I1.fpOk (Nat.le_refl _) (I1.hok.fresh (Nat.le_refl _))
 ·obtain ⟨t,rfl⟩:=r1
  have fp:∀ b∈[s1.heap.objs.size],FpOk X pins H1 b:=fun b hb=>by
   cases (by simpa using hb:b=s1.heap.objs.size)
   exact I1.fpOk (Nat.le_refl _) (I1.hok.fresh (Nat.le_refl _))
  cases ha:z.cps.all (· < 128)
  ·exact wpAny_pyIter_wide ha ⟨s1.heap.objs.size,[s1.heap.objs.size],_,_,H1,rfl,I1.kept (t':=s1.toks) fun b o e=>Heap.get?_push_of_some _ e,turn_wide _ z t,⟨_,Heap.get?_push_size _ rfl,rfl,rfl⟩,fp,q⟩
  ·exact wpAny_pyIter_ascii ha ⟨s1.heap.objs.size,[s1.heap.objs.size],_,_,H1,rfl,I1.kept (t':=s1.toks) fun b o e=>Heap.get?_push_of_some _ e,turn_ascii _ z t,⟨_,Heap.get?_push_size _ rfl,rfl,rfl⟩,fp,q⟩
theorem qi_any {tl:TE} (h:QE X e tl):QI X tg e (iAny X.K tl):=⟨pi_any h.u⟩
end
section
variable {X:Cx} {EX:St→XK} {K:PySem.W.Frag} {B H B' H' H0 B0 B1 H1:Hp} {st:Stmt} {rest:List Stmt} {t u:TVS} {e a c o:Expr} {te ta:TV} {tT:TVT} {tA:TVA} {es:List Expr} {pos pos' p p2 apos cpos:Pos} {x:Str} {τ:VSt} {σ:St}
def vItems (te:TV):TVA:=fun τ Q=>te τ fun r=>excA r Q <| pubR r fun d=>match d with
 | .lst ds=>Q (.ok ds)
 | .tup ds=>Q (.ok ds)
 | .scr ns=>Q (.ok (ns.map D.int))
 | .str z=>Q (.ok (z.cps.toList.map fun c=>.str ⟨#[c]⟩))
 | _=>False
theorem it_listV {ad:Addr} {ds:List D} {xs:List V} (h:SqL K B ad xs) (r:Reps K B ds xs):ItOk K B (Itl K ad) ds:=fun i B2 H sb s2=>by
 have s:=sb.trans s2
 refine ⟨fun d e=>?_,fun e=>⟨xs,s.seq h,by rw [← r.length]; exact List.getElem?_eq_none_iff.mp e⟩⟩
 obtain ⟨w,hw,rw'⟩:=r.at e
 refine ⟨⟨xs,w,s.seq h,hw⟩,fun y H' q=>⟨B2,by rw [q.1]; exact .refl s2,?_⟩⟩
 have:=q.2 xs (s.seq h)
 rw [hw] at this
 cases this
 exact rw'.same sb
theorem it_tup {ad:Addr} {ds:List D} {xs:List V} (h:SqT K B ad xs) (r:Reps K B ds xs):ItOk K B (Itt K ad) ds:=fun i B2 H sb s2=>by
 have s:=sb.trans s2
 refine ⟨fun d e=>?_,fun e=>⟨xs,s.sqT h,by rw [← r.length]; exact List.getElem?_eq_none_iff.mp e⟩⟩
 obtain ⟨w,hw,rw'⟩:=r.at e
 refine ⟨⟨xs,w,s.sqT h,hw⟩,fun y H' q=>⟨B2,by rw [q.1]; exact .refl s2,?_⟩⟩
 have:=q.2 xs (s.sqT h)
 rw [hw] at this
 cases this
 exact rw'.same sb
theorem it_str (z:Str):ItOk K B (Its z) (z.cps.toList.map fun c=>.str ⟨#[c]⟩):=fun i B2 H sb s2=>by
 have s:=sb.trans s2
 refine ⟨fun d e=>?_,fun e=>?_⟩
 ·rw [List.getElem?_map] at e
  cases hc:z.cps.toList[i]? with
  | none=>rw [hc] at e; cases e
  | some ch =>
   rw [hc] at e
   cases e
   have hc':z.cps[i]?=some ch:=by simpa using hc
   refine ⟨?_,fun y H' q=>⟨B2,by rw [q.1]; exact .refl s2,?_⟩⟩
   ·show i < z.cps.size
    exact (Array.getElem?_eq_some_iff.mp hc').1
   ·obtain ⟨c2,h2,rfl⟩:=q.2
    rw [hc'] at h2
    cases h2
    exact rep_dV (d:=.str ⟨#[ch]⟩) rfl
 ·show z.cps.size≤i
  have:=List.getElem?_eq_none_iff.mp e
  simpa using this
theorem vi_any {tg:Expr} (h:VE X EX e te):VI X EX tg e (vItems te) :=
 let ⟨_,a1,a2⟩:=h.u; ⟨_,qi_any a1,fun H0 B H τ σ Q Qd s S h xc k=>a2 H0 B H τ σ _ _ s S h xc fun r v B' H' q hr hq=>by
  obtain ⟨d,B2,q2,_,rp,hd⟩:=pub q hr (hr.okA hq)
  split at hd
  ·unfold Rep at rp
   obtain ⟨ad,xs,rfl,ha,r1⟩:=rp
   exact .inl ⟨ad,rfl,⟨xs,SqL.of (q2.s _ _ ha)⟩,k _ _ B2 H' q2 (it_listV (SqL.of ha) r1) hd⟩
  ·unfold Rep at rp
   obtain ⟨ad,xs,rfl,ha,r1⟩:=rp
   exact .inr (.inl ⟨ad,rfl,⟨xs,q2.s.sqT ha.sq⟩,k _ _ B2 H' q2 (it_tup ha.sq r1) hd⟩)
  ·unfold Rep at rp
   obtain ⟨ad,rfl,ha⟩:=rp
   exact .inl ⟨ad,rfl,⟨_,q2.s.seq ha⟩,k _ _ B2 H' q2 (it_listV ha (.ints _)) hd⟩
  ·rename_i z
   unfold Rep at rp
   exact .inr (.inr ⟨z,rp,k _ _ B2 H' q2 (it_str z) hd⟩)
  ·exact hd.elim⟩
def rngL (lo:Int) (n:Nat):List D:=(List.range n).map fun (i:Nat)=>.int (lo+i)
theorem it_rng (lo:Int) (n:Nat):ItOk K B (Itr lo n) (rngL lo n):=fun i B2 H sb s2=>by
 unfold rngL
 refine ⟨fun d e=>?_,fun e=>?_⟩
 ·rw [List.getElem?_map] at e
  by_cases hi:i < n
  ·rw [List.getElem?_range hi] at e
   cases e
   exact ⟨hi,fun y H' q=>⟨B2,by rw [q.1]; exact .refl s2,by rw [q.2]; exact rep_dV (d:=.int (lo+(i:Nat))) rfl⟩⟩
  ·rw [List.getElem?_eq_none (by rw [List.length_range]; lia)] at e
   cases e
 ·have:=List.getElem?_eq_none_iff.mp e
  rw [List.length_map,List.length_range] at this
  exact this
def vRng1 (te:TV):TVA:=fun τ Q=>te τ fun r=>match r.d with
 | .int j=>-(2 ^ 62)≤j∧j < 2 ^ 62∧Q (.ok (rngL 0 j.toNat))
 | _=>False
theorem vi_rng1 {tg:Expr} (hg:Gl X "range") (hm:X.mg "range" = none) (h:VE X EX a ta) (hp:plainE a=true:=by rfl):VI X EX tg (.Call (.Name "range" p) [a] [] pos) (vRng1 ta) :=
 let ⟨_,a1,a2⟩:=h.u; ⟨_,qrng1 hg hm (qac a1 qa_nil hp) hp,fun H0 B H τ σ Q Qd s S h xc k=>a2 H0 B H τ σ _ _ s S h (xno fun _ q=>q) fun r v B' H' q hr hq=>by
  split at hq
  ·rename_i j ej
   exact ⟨j,by rw [hr.pk.scal (z:=.int j) (by rw [ej]; rfl)],hq.1,hq.2.1,k _ _ B' H' q (it_rng 0 j.toNat) hq.2.2⟩
  ·exact hq.elim⟩
def vRng2 (ta tb:TV):TVA:=fun τ Q=>ta τ fun rx=>exR rx (fun _=>False) <| tb τ fun ry=>match rx.d,ry.d with
 | .int i,.int j=>(-(2 ^ 62)≤i∧i < 2 ^ 62∧-(2 ^ 62)≤j∧j < 2 ^ 62)∧Q (.ok (rngL i (j - i).toNat))
 | _,_=>False
theorem vi_rng2 {tg b:Expr} {tb:TV} (hg:Gl X "range") (hm:X.mg "range" = none) (h:VE X EX a ta) (hb:VE X EX b tb) (hp:plainE a=true:=by rfl) (hp2:plainE b=true:=by rfl):VI X EX tg (.Call (.Name "range" p) [a,b] [] pos) (vRng2 ta tb) :=
 let ⟨_,a1,a2⟩:=h.u; let ⟨_,b1,b2⟩:=hb.u; ⟨_,qrng2 hg hm (qac a1 (qac b1 qa_nil hp2) hp) hp hp2,fun H0 B H τ σ Q Qd s S h xc k=>a2 H0 B H τ σ _ _ s S h (xno fun _ q=>q) fun r v B' H' q hr hq=>b2 H0 B' H' τ σ _ _ q.s (S.step q) (hr.ok hq) (xno fun _ q=>by revert q; cases r.d <;> exact fun z=>z) fun r2 v2 B2 H2 q2 hr2 hq2=>by
  split at hq2
  ·rename_i i j ei ej
   exact ⟨i,j,by rw [hr.pk.scal (z:=.int i) (by rw [ei]; rfl),hr2.pk.scal (z:=.int j) (by rw [ej]; rfl)],hq2.1,k _ _ B2 H2 (q.trans q2) (it_rng i (j - i).toNat) hq2.2⟩
  ·exact hq2.elim⟩
def forW (g:TVG) (tb:TVS) (Dv:VEnds):List D→VSt→Prop
 | [],τ=>Dv.nx τ
 | d :: ds,τ=>g d τ fun τ'=>tb { Dv with nx:=forW g tb Dv ds,ct:=forW g tb Dv ds,bk:=Dv.nx } τ'
def exI (τ:VSt) (Dv:VEnds):AR→(List D→Prop)→Prop
 | .ok ds,k=>k ds
 | .exc n,_=>Dv.xc τ n
def vFor (vi:TVA) (g:TVG) (tb:TVS):TVS:=fun Dv τ=>vi τ fun a=>exI τ Dv a fun ds=>forW g tb Dv ds τ
theorem rf_for {wi:TI} {g:TG} {tb:TS} {vi:TVA} {gv:TVG} {bv:TVS} (hi:RfI K EX wi vi) (hg:RfG K g gv) (hb:RfS K EX tb bv):RfS K EX (tFor wi g tb) (vFor vi gv bv):=fun B0 H0 B H τ σ Dv Dh p S h E =>
 hi H0 B H τ σ _ _ p.s S h (E.raised p S) fun J ds B1 H1 q ok hw=>by
  have pq:=p.trans q
  have E1:=E.base pq
  refine ⟨fun i m σ H=>m=ds.length - i∧i≤ds.length∧∃ B2 τ,Stp B1 H0 B2 H∧Slots K H0 B2 H τ σ∧forW gv bv Dv (ds.drop i) τ,⟨ds.length,by lia,Nat.zero_le _,B1,τ,pq.here,S.step q,hw⟩,?_⟩
  rintro i m σ2 H2 ⟨rfl,hi,B2,τ2,p2,S2,w⟩
  by_cases hlt:i < ds.length
  ·have ei:ds[i]?=some ds[i]:=List.getElem?_eq_getElem hlt
   rw [List.drop_eq_getElem_cons hlt] at w
   obtain ⟨go,yl⟩:=(ok i B2 H2 p2.b p2.s).1 _ ei
   refine .inr ⟨go,fun σ' H'=>∃ B2 τ,Stp B1 H0 B2 H'∧Slots K H0 B2 H' τ σ'∧forW gv bv Dv (ds.drop (i+1)) τ,fun σ' H' ⟨B3,τ3,a1,a2,a3⟩=>⟨ds.length - (i+1),by lia,rfl,by lia,B3,τ3,a1,a2,a3⟩,fun y H' hy=>?_⟩
   obtain ⟨B3,q3,rp⟩:=yl y H' hy
   refine hg H0 B3 H' τ2 σ2 y _ _ _ q3.s (S2.step q3) rp w fun τ' σ' S' _ h'=>?_
   exact hb B1 H0 B3 H' τ' σ' _ _ (p2.trans q3) S' h' ⟨fun B H τ σ a1 a2 a3=>⟨B,τ,a1,a2,a3⟩,E1.rt,fun B H τ σ a1 a2 a3=>E1.nx B H τ σ a1 a2 a3,fun B H τ σ a1 a2 a3=>⟨B,τ,a1,a2,a3⟩,E1.xc,E1.ro⟩
  ·have ei:ds[i]?=none:=List.getElem?_eq_none (by lia)
   rw [List.drop_eq_nil_of_le (by lia)] at w
   exact .inl ⟨(ok i B2 H2 p2.b p2.s).2 ei,E1.nx B2 H2 τ2 σ2 p2 S2 w⟩
theorem vs_for {tg iter:Expr} {body:List Stmt} {vi:TVA} {g:TVG} (hp:PassesOwn (model X.prog X.w) X.A X.env X.xe) (hc:X.calm=true) (hi:VI X EX tg iter vi) (hg:VG X tg g) (hb:VSs X EX body t)
  (hs:∀ x,foldedSetIterable iter X.env x=pure x:=by intro _; rfl):VS X EX (.For tg iter body [] pos) (vFor vi g t) :=
 let ⟨_,a1,a2⟩:=hi.u; let ⟨_,b1,b2⟩:=hg.u; let ⟨_,c1,c2⟩:=hb.u; ⟨_,qs_for hp hc a1 b1 c1 hs,rf_for a2 b2 c2⟩
def vWhile (c:TVT) (tb:TVS):TVS:=fun Dv τ=>∃ W:Nat→VSt→Prop,(∃ m,W m τ)∧∀ m τ,W m τ→c τ fun b=>if b=true then tb { Dv with nx:=fun τ'=>∃ m',m' < m∧W m' τ',ct:=fun τ'=>∃ m',m' < m∧W m' τ',bk:=Dv.nx } τ else Dv.nx τ
theorem vs_while {body:List Stmt} (hp:PassesOwn (model X.prog X.w) X.A X.env X.xe) (hc:VT X EX c tT) (hb:VSs X EX body t):VS X EX (.While c body [] pos) (vWhile tT t) :=
 let ⟨_,a1,a2⟩:=hc.u; let ⟨_,b1,b2⟩:=hb.u; ⟨_,qs_while hp a1 b1,fun B0 H0 B H τ σ Dv Dh p S h E=>by
  obtain ⟨W,⟨m0,w0⟩,turn⟩:=h
  refine ⟨fun m σ H=>∃ B2 τ,Stp B0 H0 B2 H∧Slots X.K H0 B2 H τ σ∧W m τ,⟨m0,B,τ,p,S,w0⟩,?_⟩
  rintro m σ2 H2 ⟨B2,τ2,p2,S2,w⟩
  refine a2 H0 B2 H2 τ2 σ2 _ _ p2.s S2 (turn m τ2 w) fun b B3 H3 q hq=>?_
  cases b with
  | true =>
   refine iteT ⟨fun σ' H'=>∃ m',m' < m∧∃ B2 τ,Stp B0 H0 B2 H'∧Slots X.K H0 B2 H' τ σ'∧W m' τ,fun σ' H' z=>z,?_⟩
   rw [if_pos rfl] at hq
   exact b2 B0 H0 B3 H3 τ2 σ2 _ _ (p2.trans q) (S2.step q) hq ⟨fun B H τ σ a1 a2 ⟨m',l,a3⟩=>⟨m',l,B,τ,a1,a2,a3⟩,E.rt,fun B H τ σ a1 a2 a3=>E.nx B H τ σ a1 a2 a3,fun B H τ σ a1 a2 ⟨m',l,a3⟩=>⟨m',l,B,τ,a1,a2,a3⟩,E.xc,E.ro⟩
  | false =>
   rw [if_neg Bool.false_ne_true] at hq
   exact iteF (E.nx B3 H3 τ2 σ2 (p2.trans q) (S2.step q) hq)⟩
theorem vfs_nil:VFs X EX [] (fun _ Q=>Q true):=⟨_,qif_nil,fun H0 B H τ σ Y N Qd s S h k=>by have:=k true B H (.refl s) h; rw [if_pos rfl] at this; exact this⟩
theorem vfs_one (h:VT X EX c tT):VFs X EX [c] tT:=let ⟨_,a1,a2⟩:=h.u; ⟨_,qif_one a1,fun H0 B H τ σ Y N Qd s S h k=>a2 H0 B H τ σ _ _ s S h k⟩
def compW (τ:VSt) (k:Nat) (g:TVG) (ti:TVT) (te:TV) (Q:R→Prop):List D→List D→Prop
 | [],acc=>Q (.own (.lst acc))
 | d :: ds,acc=>g d (τ++List.replicate k none) fun τ2=>(τ2.take τ.length=τ∧τ2.length=τ.length+k)∧ti τ2 fun b=>if b=true then te τ2 fun r=>pubR r fun d'=>acc.length < sizeLine∧compW τ k g ti te Q ds (acc++[d']) else compW τ k g ti te Q ds acc
def vComp (vi:TVA) (g:TVG) (ti:TVT) (te:TV) (k:Nat):TV:=fun τ Q=>vi τ fun a=>exA a Q fun ds=>compW τ k g ti te Q ds []
theorem Slots.more (S:Slots K H0 B H τ σ) (k:Nat):Slots K H0 B H (τ++List.replicate k none) (σ++List.replicate k none):=by
 have get:∀ (i:Nat) (r:R),(τ++List.replicate k none)[i]?=some (some r)→τ[i]?=some (some r)∧(σ++List.replicate k (none:Option V))[i]?=σ[i]?:=fun i r h=>by
  by_cases l:i < τ.length
  ·rw [List.getElem?_append_left l] at h
   exact ⟨h,List.getElem?_append_left (by rw [S.len]; exact l)⟩
  ·rw [List.getElem?_append_right (by lia)] at h
   by_cases l2:i - τ.length < k
   ·rw [List.getElem?_replicate_of_lt l2] at h; cases h
   ·rw [List.getElem?_eq_none (by rw [List.length_replicate]; lia)] at h; cases h
 refine ⟨by rw [List.length_append,List.length_append,S.len,List.length_replicate,List.length_replicate],fun i d h=>?_,fun i d h=>?_,fun i d h=>?_,fun i j d e a h1 h2 h3 h4=>?_⟩
 ·obtain ⟨g1,g2⟩:=get i _ h
  rw [g2]
  exact S.val i d g1
 ·obtain ⟨g1,g2⟩:=get i _ h
  rw [g2]
  exact S.fz i d g1
 ·obtain ⟨g1,g2⟩:=get i _ h
  rw [g2]
  exact S.own i d g1
 ·obtain ⟨g1,g2⟩:=get i _ h1
  obtain ⟨g3,g4⟩:=get j _ h2
  rw [g2] at h3
  rw [g4] at h4
  exact S.sep i j d e a g1 g3 h3 h4
theorem Slots.less {τ2:VSt} {k:Nat} (S:Slots K H0 B H τ2 σ) (h1:τ2.take τ.length=τ) (h2:τ2.length=τ.length+k):Slots K H0 B H (τ++List.replicate k none) σ∧∀ (j:Nat) (e:D),(τ++List.replicate k none)[j]?=some (some (R.own e))→τ2[j]?=some (some (R.own e)):=by
 have get:∀ (i:Nat) (r:R),(τ++List.replicate k none)[i]?=some (some r)→τ2[i]?=some (some r):=fun i r h=>by
  by_cases l:i < τ.length
  ·rw [List.getElem?_append_left l,← h1,List.getElem?_take_of_lt l] at h
   exact h
  ·rw [List.getElem?_append_right (by lia)] at h
   by_cases l2:i - τ.length < k
   ·rw [List.getElem?_replicate_of_lt l2] at h; cases h
   ·rw [List.getElem?_eq_none (by rw [List.length_replicate]; lia)] at h; cases h
 exact ⟨⟨by rw [S.len,h2,List.length_append,List.length_replicate],fun i d h=>S.val i d (get i _ h),fun i d h=>S.fz i d (get i _ h),fun i d h=>S.own i d (get i _ h),fun i j d e a q1 q2=>S.sep i j d e a (get i _ q1) (get j _ q2)⟩,fun j e=>get j _⟩
theorem Slots.heap (S:Slots K H0 B H τ σ) (h:∀ (i:Nat) (d:D) (a:Addr),τ[i]?=some (some (R.own d))→σ[i]?=some (some (.ref a))→H' a=H a):Slots K H0 B H' τ σ :=
 ⟨S.len,S.val,S.fz,fun i d e=>let ⟨a,q1,q2,q3,q4⟩:=S.own i d e; ⟨a,q1,q2,q3,q4.step (Same.refl _) (h i d a e q1)⟩,S.sep⟩
abbrev EX0:St→XK:=fun _ _ _ _=>False
theorem rf_comp {wi:TI} {g:TG} {ti:TF} {ee:TE} {vi:TVA} {gv:TVG} {tv:TVT} {k:Nat} (hi:RfI K EX wi vi) (hg:RfG K g gv) (hf:RfF K ti tv) (he:RfE K EX0 ee te):RfE K EX (tComp wi g ti ee k) (vComp vi gv tv te k):=fun H0 B H τ σ Q Qd s S h xc kk =>
 hi H0 B H τ σ _ _ s S h xc fun J ds B1 H1 q ok hw p hp=>by
  have S1:=S.step q
  refine ⟨fun i m σ' xs H'=>m=ds.length - i∧i≤ds.length∧∃ B2 acc,Stp B1 H1 B2 H'∧H' p=some (.lst xs)∧B2 p=none∧Reps K B2 acc xs∧Slots K H0 B2 H' (τ++List.replicate k none) σ' ∧
    (∀ (j:Nat) (e:D),(τ++List.replicate k none)[j]?=some (some (R.own e))→σ'[j]?≠some (some (.ref p)))∧compW τ k gv tv te Qd (ds.drop i) acc,
   ⟨ds.length,by lia,Nat.zero_le _,B1,[],.grow q.s (same_upd hp _),upd_same,q.s.free hp,.nil,(S1.more k).heap fun i d a h1 h2=>?_,fun j e h1 h2=>?_,hw⟩,?_⟩
  ·obtain ⟨c,q1,_,_,ow⟩:=(S1.more k).own i d h1
   rw [h2] at q1
   cases q1
   exact upd_ne fun z=>ow.some (z ▸ hp)
  ·obtain ⟨c,q1,_,_,ow⟩:=(S1.more k).own j e h1
   rw [h2] at q1
   cases q1
   exact ow.some hp
  rintro i m σ2 xs H2 ⟨rfl,hle,B2,acc,p2,hx,hb,rp,S2,fr,w⟩
  by_cases hlt:i < ds.length
  ·have ei:ds[i]?=some ds[i]:=List.getElem?_eq_getElem hlt
   rw [List.drop_eq_getElem_cons hlt] at w
   obtain ⟨go,yl⟩:=(ok i B2 H2 p2.b p2.s).1 _ ei
   refine .inr ⟨go,fun y H' hy=>?_⟩
   obtain ⟨B3,q3,ry⟩:=yl y H' hy
   replace hb:=q3.keep hb (by rw [hx]; exact fun z=>by cases z) (by rw [hx]; exact fun _ z=>by cases z)
   replace hx:=q3.h _ _ hx
   replace rp:=rp.same q3.b
   replace p2:=p2.trans q3
   replace S2:=S2.step q3
   clear q3
   refine hg H0 B3 H' _ σ2 y _ _ _ p2.s S2 ry w fun τ3 σ3 S3 kp h3=>?_
   obtain ⟨⟨e1,e2⟩,h3⟩:=h3
   obtain ⟨S3',ow3⟩:=S3.less e1 e2
   have fr3:∀ (j:Nat) (e:D),(τ++List.replicate k none)[j]?=some (some (R.own e))→σ3[j]?≠some (some (.ref p)):=fun j e h z=>by
    obtain ⟨g1,g2⟩:=kp j e (ow3 j e h)
    rw [g2] at z
    exact fr j e g1 z
   refine hf H0 B3 H' τ3 σ3 _ _ _ p2.s S3 h3 fun b B4 H4 q4 hq4=>?_
   have hx4:H4 p=some (.lst xs):=q4.h _ _ hx
   have hb4:B4 p=none:=q4.keep hb (by rw [hx]; exact fun z=>by cases z) (by rw [hx]; exact fun _ z=>by cases z)
   cases b with
   | false =>
    rw [if_neg Bool.false_ne_true] at hq4 ⊢
    exact ⟨ds.length - (i+1),by lia,rfl,by lia,B4,acc,p2.trans q4,hx4,hb4,rp.same q4.b,S3'.step q4,fr3,hq4⟩
   | true =>
    rw [if_pos rfl] at hq4 ⊢
    refine he H0 B4 H4 τ3 σ3 _ _ q4.s (S3.step q4) hq4 (xno fun _ q=>q) fun r v B5 H5 q5 hr hq5=>?_
    obtain ⟨d',B6,q6,_,rd,hz,hq6⟩:=pub q5 hr hq5
    have hx6:H5 p=some (.lst xs):=q6.h _ _ hx4
    have hb6:B6 p=none:=q6.keep hb4 (by rw [hx4]; exact fun z=>by cases z) (by rw [hx4]; exact fun _ z=>by cases z)
    have qq:=q4.trans q6
    refine ⟨hx6,by rw [← rp.length]; exact hz,ds.length - (i+1),by lia,rfl,by lia,B6,acc++[d'],(p2.trans qq).upd hp hb6,upd_same,hb6,(rp.same qq.b).append (.one rd),(S3'.step qq).heap fun j d a h1 h2=>?_,fr3,hq6⟩
    exact upd_ne fun z=>fr3 j d h1 (z ▸ h2)
  ·have ei:ds[i]?=none:=List.getElem?_eq_none (by lia)
   rw [List.drop_eq_nil_of_le (by lia)] at w
   exact .inl ⟨(ok i B2 H2 p2.b p2.s).2 ei,kk (.own (.lst acc)) _ B2 H2 (q.trans p2) ⟨p,rfl,q.h.free hp,hb,xs,hx,rp⟩ w⟩
def canE (K:PySem.W.Frag) (t:TV):TE:=fun σ H Q=>∃ H0 B τ Qd,Same B H∧Slots K H0 B H τ σ∧t τ Qd∧(∀ n C B' H',Stp B H B' H'→clsOf K n C→Qd (.exc n)→EX0 σ (.ref C) none H')∧∀ r v B' H',Stp B H B' H'→RepR K B' H H' r v→Qd r→Q v H'
def canG (K:PySem.W.Frag) (g:TVG):TG:=fun v σ H Q=>∃ H0 B τ d Qd,Same B H∧Slots K H0 B H τ σ∧Rep K B d v∧g d τ Qd∧∀ τ' σ',Slots K H0 B H τ' σ'→Kp τ σ τ' σ'→Qd τ'→Q σ' H
def canF (K:PySem.W.Frag) (t:TVT):TF:=fun σ H Y N=>∃ H0 B τ Qd,Same B H∧Slots K H0 B H τ σ∧t τ Qd∧∀ b B' H',Stp B H B' H'→Qd b→if b=true then Y H' else N H'
theorem VE.can (h:VE X EX0 e te):QE X e (canE X.K te):=let ⟨_,a1,a2⟩:=h.u; ⟨fun pins s σ H Q I ⟨H0,B,τ,Qd,q1,q2,q3,q4,q5⟩=>a1.u pins s σ H Q I (a2 H0 B H τ σ Q Qd q1 q2 q3 q4 q5)⟩
theorem VG.can {g:TVG} (h:VG X e g):QG X e (canG X.K g):=let ⟨_,a1,a2⟩:=h.u; ⟨fun pins s σ H v u Q I r ⟨H0,B,τ,d,Qd,q1,q2,q3,q4,q5⟩=>a1.u pins s σ H v u Q I r (a2 H0 B H τ σ v d Q Qd q1 q2 q3 q4 q5)⟩
theorem VFs.can (h:VFs X EX es tT):QF X es (canF X.K tT):=let ⟨_,a1,a2⟩:=h.u; ⟨fun pins s σ H Y N I ⟨H0,B,τ,Qd,q1,q2,q3,q4⟩=>a1.u pins s σ H Y N I (a2 H0 B H τ σ Y N Qd q1 q2 q3 q4)⟩
theorem vc_comp {tg iter elt:Expr} {ifs:List Expr} {csc:Scope} {NB M:List Str} {vi:TVA} {g:TVG} {ti:TVT} (hi:VI X EX tg iter vi) (hc:X.calm=true) (S:CompScope X.env.scope X.N NB M csc)
  (hg:∀ cl C s₀ H₀ fp pn,VG (cxC X NB csc cl C s₀ H₀ fp pn) tg g) (hf:∀ cl C s₀ H₀ fp pn,VFs (cxC X NB csc cl C s₀ H₀ fp pn) EX0 ifs ti)
  (he:∀ cl C s₀ H₀ fp pn,VE (cxC X NB csc cl C s₀ H₀ fp pn) EX0 elt te) (hs:∀ x,foldedSetIterable iter X.env x=pure x:=by intro _; rfl):VC X EX (.ListComp elt [⟨tg,iter,ifs,0⟩] csc pos) (vComp vi g ti te M.length) :=
 let ⟨_,a1,a2⟩:=hi.u; ⟨_,qc_comp (g:=canG X.K g) (ti:=canF X.K ti) (te:=canE X.K te) a1 hc S (fun cl C s₀ H₀ fp pn=>(hg cl C s₀ H₀ fp pn).can) (fun cl C s₀ H₀ fp pn=>(hf cl C s₀ H₀ fp pn).can) (fun cl C s₀ H₀ fp pn=>(he cl C s₀ H₀ fp pn).can) hs,
  rf_comp a2 (fun H0 B H τ σ v d Q Qd q1 q2 q3 q4 q5=>⟨H0,B,τ,d,Qd,q1,q2,q3,q4,q5⟩) (fun H0 B H τ σ Y N Qd q1 q2 q3 q4=>⟨H0,B,τ,Qd,q1,q2,q3,q4⟩) (fun H0 B H τ σ Q Qd q1 q2 q3 q4 q5=>⟨H0,B,τ,Qd,q1,q2,q3,q4,q5⟩)⟩
theorem vc_e (h:VC X EX e te):VE X EX e te:=let ⟨_,a1,a2⟩:=h.u; ⟨_,qc_e a1,a2⟩
def ownL (τ:VSt) (i:Nat) (Q:List D→Prop):Prop:=match τ[i]? with
 | some (some (.own (.lst ds)))=>Q ds
 | _=>False
theorem ownL_of {i:Nat} {Q:List D→Prop} (h:ownL τ i Q):∃ ds,τ[i]?=some (some (.own (.lst ds)))∧Q ds:=by
 unfold ownL at h
 split at h
 ·exact ⟨_,by assumption,h⟩
 ·exact h.elim
theorem Slots.lst {i:Nat} {ds es:List D} {ad:Addr} {ys:List V} (S:Slots K H0 B H τ σ) (p:Stp B0 H0 B H) (hi:τ[i]?=some (some (.own (.lst ds)))) (ha:σ[i]?=some (some (.ref ad))) (r:Reps K B es ys) :
  Stp B0 H0 B (L2.upd H ad (.lst ys))∧Slots K H0 B (L2.upd H ad (.lst ys)) (τ.set i (some (.own (.lst es)))) σ:=by
 obtain ⟨c,q,h0,hb,_⟩:=S.own i _ hi
 rw [ha] at q
 cases q
 exact ⟨p.upd h0 hb,S.upd hi ha (own_newL r)⟩
theorem Slots.ownL {i:Nat} {Q:List D→Prop} (S:Slots K H0 B H τ σ) (h:L2.ownL τ i Q):∃ ds ad xs,τ[i]?=some (some (.own (.lst ds)))∧Q ds∧σ[i]?=some (some (.ref ad))∧H ad=some (.lst xs)∧Reps K B ds xs:=by
 obtain ⟨ds,e,q⟩:=ownL_of h
 obtain ⟨a,q1,_,_,xs,q2,q3⟩:=S.own i _ e
 exact ⟨ds,a,xs,e,q,q1,q2,q3⟩
def vAppend (i:Nat) (te:TV):TVS:=fun Dv τ=>ownL τ i fun ds=>te τ fun r=>exS τ Dv r (pubR r fun d=>ds.length < sizeLine∧Dv.nx (τ.set i (some (.own (.lst (ds++[d]))))))
theorem vs_append (i:Nat) (h:VE X EX e te) (hN:X.N[i]?=some x:=by rfl) (hv:Vis X.env.scope x:=by first | exact Or.inl rfl | exact Or.inr (Or.inl rfl) | exact Or.inr (Or.inr rfl)) (hd:(x == ("__debug__" : Str))=false:=by decide)
  (hcd:(x == ("__classdict__" : Str))=false:=by decide) (hp:plainE e=true:=by rfl)
  (hbase:attributeBase (.Name x p) "append" X.env (eval (.Name x p) X.env)=eval (.Name x p) X.env:=by rfl) (hline:(apos.endLine == cpos.line)=true:=by rfl)
  (hs:swapsWith (.Call (.Attribute (.Name x p) "append" apos) [e] [] cpos) none pos.line X.env=pure false:=by rfl) :
  VS X EX (.Expr (.Call (.Attribute (.Name x p) "append" apos) [e] [] cpos) pos) (vAppend i te) :=
 let ⟨_,a1,a2⟩:=h.u; ⟨_,qs_expr (qbm PySem.F.plainAttrs_list PySem.F.slot_list_append PySem.F.type_list_append mt_append (qv i hN hv hd hcd) (qac a1 qa_nil hp) (by simp [hp]) rfl hbase hline) hs,fun B0 H0 B H τ σ Dv Dh p S h E=>by
  obtain ⟨ds,ad,xs,e1,h,e2,e3,_⟩:=S.ownL h
  refine ⟨.ref ad,e2,.inl ⟨rfl,xs,SqL.of e3⟩,a2 H0 B H τ σ _ _ p.s S h (E.raised p S) fun r v B' H' q hr hq=>?_⟩
  obtain ⟨d,B2,q2,_,rp,hz,hn⟩:=pub q hr (hr.okS hq)
  have S2:=S.step q2
  obtain ⟨a',q1,_,_,xs2,q4,q3⟩:=S2.own i _ e1
  rw [e2] at q1
  cases q1
  refine ⟨ad,xs2,v,rfl,rfl,q4,by rw [← q3.length]; exact hz,?_⟩
  obtain ⟨p3,S3⟩:=S2.lst (p.trans q2) e1 e2 (q3.append (.one rp))
  exact E.nx B2 _ _ σ p3 S3 hn⟩
def startD (N:List Str) (ds:List D):VSt:=ds.map (fun d=>some (R.val d))++List.replicate (N.length - ds.length) none
theorem reps_slots:∀ {ds:List D} {vs:List V},Reps K B ds vs→Slots K H0 B H (ds.map fun d=>some (R.val d)) (vs.map some)
 | [],_,h=>by
  unfold Reps at h
  subst h
  exact ⟨rfl,fun i d e=>by simp at e,fun i d e=>by simp at e,fun i d e=>by simp at e,fun i j d e a h=>by simp at h⟩
 | d :: ds,_,h=>by
  unfold Reps at h
  obtain ⟨v,vs,rfl,h1,h2⟩:=h
  have S:=reps_slots h2
  refine ⟨by have:=S.len; simp at this ⊢; exact this,fun i f e=>?_,fun i f e=>?_,fun i f e=>?_,fun i j f g ad e=>?_⟩
  ·cases i with
   | zero=>simp at e; subst e; exact ⟨v,rfl,h1⟩
   | succ i=>simpa using S.val i f (by simpa using e)
  ·cases i with
   | zero=>simp at e
   | succ i=>simpa using S.fz i f (by simpa using e)
  ·cases i with
   | zero=>simp at e
   | succ i=>simpa using S.own i f (by simpa using e)
  ·cases i with
   | zero=>simp at e
   | succ i =>
    simp at e
theorem Fun.okV {P:Program} {w:World} {mg:Str→Option Value} {base:Heap} {x qual:Str} {st:Stmt} {f:Addr} {fd:FuncData} {N ps:List Str} {k:Nat} {g:DP} (F:Fun K x qual st f fd) (S:FnScope N ps (defScope st)) (len:∀ ds Q,g ds Q→ds.length=ps.length)
  (hbody:∀ (cdv:Value) (A:Around) (outer:List Env) (s:Shared) (H:Hp) (E:XK),Room k (A.deeper (envOfC qual (defScope st) s.heap.objs.size f cdv)) →
   ∃ t,VSs (cxOf CX0 P w K mg base N qual (defScope st) f cdv A outer s H E).nox EX0 (defBody st) t∧∀ ds Q,g ds Q→t { nx:=fun _=>Q (.val .non),rt:=Q } (startD N ds)):FnOk P w K mg base CX0 (k+1) f fd ps (spOf K g):=by
 refine F.okQ S (fun vs H Q E h=>?_) (fun cdv A outer s H vs Q E hr h=>?_)
 ·obtain ⟨ds,B,Qd,_,rp,hg,_,_⟩:=h
  rw [← rp.length]
  exact len ds Qd hg
 ·obtain ⟨ds,B,Qd,sm,rp,hg,_,kk⟩:=h
  obtain ⟨t,⟨ts,q1,q2⟩,ht⟩:=hbody cdv A outer s H E hr
  refine ⟨ts,q1,q2 B H B H (startD N ds) (start N vs) _ _ (.refl sm) ?_ (ht ds Qd hg) ⟨fun B' H' τ σ p S h=>kk (.val .non) .non B' H' h p (repV rfl),fun r v B' H' p hr h=>kk r v B' H' h p hr,fun _ _ _ _ _ _ h=>h.elim,fun _ _ _ _ _ _ h=>h.elim,fun _ _ _ _ _ _ _ _ _ h=>h.elim,fun _ _ _ _ _ _ _ _ _ _ h=>h.elim⟩⟩
  unfold startD start
  rw [rp.length]
  exact (reps_slots rp).more _
end
end L2
namespace L2
open PySem PySem.Spec PyProof.Rows
section
variable {X:Cx} {EX:St→XK} {K:PySem.W.Frag} {e a b c o:Expr} {te ta tb tc to:TV} {pos p apos cpos:Pos} {x:Str}
def vNeg (ta:TV):TV:=fun τ Q=>ta τ fun r=>match r.d with
 | .int i=>Q (.val (.int (-i)))
 | _=>False
theorem ve_neg (ha:VE X EX a ta):VE X EX (.UnaryOp .USub a pos) (vNeg ta) :=
 let ⟨_,a1,a2⟩:=ha.u; ⟨_,qe_un un_neg a1,fun H0 B H τ σ Q Qd s S h xc k=>a2 H0 B H τ σ _ _ s S h (xno fun _ q=>q) fun r v B' H' p q h1=>by
  split at h1
  ·rename_i i e
   exact ⟨i,q.pk.scal (by rw [e]; rfl),k (.val (.int (-i))) _ B' H' p (repV rfl) h1⟩
  ·exact h1.elim⟩
def vIsN (g:Bool→Bool) (rx ry:R) (Q:R→Prop):Prop:=match ry.d with
 | .non=>Q (.val (.bl (g (match rx.d with | .non=>true | _=>false))))
 | _=>False
theorem pk_non {B H:Hp} {r:R} {v:V} (h:Pk K B H r v):decide (v=.non)=(match r.d with | .non=>true | _=>false):=by
 have key:∀ d,Rep K B d v→decide (v=.non)=(match d with | .non=>true | _=>false):=fun d h=>by
  cases d <;> unfold Rep at h <;> first | (subst h; rfl) | (obtain ⟨_,_,rfl,_⟩:=h; rfl) | (obtain ⟨_,rfl,_⟩:=h; rfl)
 have key2:∀ d,(∃ a,v=.ref a∧B a=none∧OwnAt K B H d a)→decide (v=.non)=(match d with | .non=>true | _=>false):=fun d ⟨a,e,_,ow⟩=>by
  subst e
  cases d <;> first | rfl | exact ow.elim
 cases r with
 | val d=>exact key d h
 | own d=>exact key2 d h
 | peek d=>exact key2 d h
 | exc n=>exact h.elim
theorem vo_is:VO X (compareOp .Is) (vIsN id):=by
 refine ⟨_,op_isN,fun B H x y rx ry Q Qd s px py h k=>?_⟩
 unfold vIsN at h
 split at h
 ·rename_i e
  refine ⟨py.scal (by rw [e]; rfl),?_⟩
  rw [pk_non px]
  exact k _ _ B H (.refl s) (repV rfl) h
 ·exact h.elim
def vChain (rd rd':R→R→(R→Prop)→Prop) (ta tb tc:TV):TV:=fun τ Q=>ta τ fun rx=>exR rx (fun _=>False) <| tb τ fun ry=>exR ry (fun _=>False) <| rd rx ry fun rz=>match rz.d with
 | .bl k=>if k=true then tc τ fun rw=>exR rw (fun _=>False) (rd' ry rw Q) else Q (.val (.bl false))
 | _=>False
theorem mt_joinT:MtM X "str.join" (fun x vs H Q=>∃ (sep:Str) (l:Addr) (ys:List Str),x=.str sep∧vs=[.ref l]∧SqT X.K H l (ys.map V.str)∧(ys.map (·.length)).sum+ys.length * sep.length≤16777216∧Q (.str (glue sep ys)) H):=by
 intro pins s σ H x vs v us Q I rx rv h
 obtain ⟨sep,l,ys,rfl,rfl,hq,hz,q⟩:=h
 obtain ⟨t,rfl⟩:=rx
 obtain ⟨u,rfl,ru⟩:=rv.one
 cases ru
 obtain ⟨its,r,pl,_⟩:=I.tuple hq
 obtain ⟨ts,rfl,rfl⟩:=strs_of r
 have fit:Builtin.Str.tooLong ((ts.map (·.1)).toArray.foldl (·+·.length+sep.length) 0)=false:=by
  rw [StrLaws.joinTotal]
  unfold Builtin.Str.tooLong
  rw [sizeLine_eq]
  exact decide_eq_false (by lia)
 exact call_meets F.slot_str_join (typeIs_str _ _ _) F.entry_str_join (F.args_str_join_2 _ _) (meets_str_join_tuple sep t l ts fit) ⟨(let ⟨o,h1,h2,n,h3⟩:=pl; ⟨o,n,h1,h2,h3⟩),post_join ts ⟨joinFit_length fit,fun t' k=>⟨.str (glue sep (ts.map (·.1))),H,I.tok k,⟨t',rfl⟩,q⟩⟩⟩
def vJoin (to te:TV):TV:=fun τ Q=>to τ fun rs=>match rs.d with
 | .str sep=>te τ fun rl=>∃ ys:List Str,(rl.d=.lst (ys.map D.str)∨rl.d=.tup (ys.map D.str))∧(ys.map (·.length)).sum+ys.length * sep.length≤16777216∧Q (.val (.str (glue sep ys)))
 | _=>False
theorem ve_join (ho:VE X EX o to) (h:VE X EX e te) (hp:plainE e=true:=by rfl)
  (hbase:attributeBase o "join" X.env (eval o X.env)=eval o X.env:=by rfl) (hline:(apos.endLine == cpos.line)=true:=by rfl):VE X EX (.Call (.Attribute o "join" apos) [e] [] cpos) (vJoin to te) :=
 let ⟨_,o1,o2⟩:=ho.u; let ⟨_,a1,a2⟩:=h.u; ⟨_,qbm PySem.F.plainAttrs_str PySem.F.slot_str_join PySem.F.type_str_join (MtR.or mt_join mt_joinT) o1 (qac a1 qa_nil hp) (by simp [hp]) rfl hbase hline,fun H0 B H τ σ Q Qd s S h xc k =>
  o2 H0 B H τ σ _ _ s S h (xno fun _ q=>q) fun rs vs B1 H1 p1 q1 h1=>by
   split at h1
   ·rename_i sep es
    cases q1.pk.scal (z:=.str sep) (by rw [es]; rfl)
    refine ⟨rfl,a2 H0 B1 H1 τ σ _ _ p1.s (S.step p1) h1 (xno fun _ ⟨_,q,_⟩=>by rcases q with q | q <;> cases q) fun rl vl B2 H2 p2 q2 h2=>?_⟩
    obtain ⟨ys,el,hz,hq⟩:=h2
    rcases el with el | el
    ·obtain ⟨ad,xs,rfl,hx,rx⟩:=q2.pk.lst p2.s el
     exact .inl ⟨sep,ad,ys,rfl,rfl,SqL.of (by rw [hx,rx.strs]),hz,k _ _ B2 H2 (p1.trans p2) (repV rfl) hq⟩
    ·obtain ⟨ad,xs,rfl,hx,rx⟩:=q2.pk.tup el
     cases rx.strs
     exact .inr ⟨sep,ad,ys,rfl,rfl,p2.s.sqT hx.sq,hz,k _ _ B2 H2 (p1.trans p2) (repV rfl) hq⟩
   ·exact h1.elim⟩
theorem rf_chain {r r':R2} {rd rd':R→R→(R→Prop)→Prop} {ea eb ec:TE} (hr:RfO K r rd) (hr':RfO K r' rd') (ha:RfE K EX ea ta) (hb:RfE K EX eb tb) (hc:RfE K EX ec tc):RfE K EX (tChain r r' ea eb ec) (vChain rd rd' ta tb tc):=fun H0 B H τ σ Q Qd s S h xc k =>
 ha H0 B H τ σ _ _ s S h (xno fun _ q=>q) fun rx x B1 H1 p1 q1 h1=>hb H0 B1 H1 τ σ _ _ p1.s (S.step p1) (q1.ok h1) (xno fun _ q=>q) fun ry y B2 H2 p2 q2 h2 =>
  hr B2 H2 x y rx ry _ _ p2.s (q1.pk.step p2) q2.pk (q2.ok h2) fun rz z B3 H3 p3 q3 h3=>by
   split at h3
   ·rename_i kk ek
    refine ⟨kk,q3.pk.scal (by rw [ek]; rfl),?_⟩
    have p13:=p1.trans (p2.trans p3)
    cases kk with
    | true =>
     rw [if_pos rfl] at h3 ⊢
     exact hc H0 B3 H3 τ σ _ _ p3.s (S.step p13) h3 (xno fun _ q=>q) fun rw' w B4 H4 p4 q4 h4=>hr' B4 H4 y w ry rw' _ _ p4.s ((q2.pk.step p3).step p4) q4.pk (q4.ok h4) fun r v B5 H5 p5 q5 h5=>k r v B5 H5 (p13.trans (p4.trans p5)) (q5.back (p13.trans p4).h) h5
    | false =>
     rw [if_neg Bool.false_ne_true] at h3 ⊢
     exact k (.val (.bl false)) _ B3 H3 p13 (repV rfl) h3
   ·exact h3.elim
theorem vt_chain {op op':CmpOp} {rd rd':R→R→(R→Prop)→Prop} (hr:VO X (compareOp op) rd) (hr':VO X (compareOp op') rd') (ha:VE X EX a ta) (hb:VE X EX b tb) (hc:VE X EX c tc) (hm:lastMarks [op,op'] [b,c]=false:=by with_unfolding_all rfl) :
  VT X EX (.Compare a [op,op'] [b,c] pos) (vBl (vChain rd rd' ta tb tc)) :=
 let ⟨_,r1,r2⟩:=hr.u; let ⟨_,s1,s2⟩:=hr'.u; let ⟨_,a1,a2⟩:=ha.u; let ⟨_,b1,b2⟩:=hb.u; let ⟨_,c1,c2⟩:=hc.u; ⟨_,qt_chain r1 s1 a1 b1 c1 hm,rf_bl (rf_chain r2 s2 a2 b2 c2)⟩
def strsOf:List D→Option (List Str)
 | []=>some []
 | .str s :: ds=>(strsOf ds).map (s :: ·)
 | _ :: _=>none
theorem strsOf_map (ss:List Str):strsOf (ss.map D.str)=some ss:=by
 induction ss with
 | nil=>rfl
 | cons s ss ih=>rw [List.map_cons,strsOf,ih]; rfl
theorem strsOf_eq:∀ {ds:List D} {ss:List Str},strsOf ds=some ss→ds=ss.map D.str
 | [],ss,h=>by cases h; rfl
 | d :: ds,ss,h=>by
  cases d <;> first | (unfold strsOf at h; cases h; done) | skip
  rename_i s
  unfold strsOf at h
  cases q:strsOf ds with
  | none=>rw [q] at h; cases h
  | some r =>
   rw [q] at h
   cases h
   rw [strsOf_eq q]
   rfl
def vIn (g:Bool→Bool) (rx ry:R) (Q:R→Prop):Prop:=match rx.d,ry.d with
 | .str x,.str y=>Q (.val (.bl (g (!(Builtin.Str.occurrences y x 0 y.length 1).isEmpty))))
 | .str x,.tup ds=>∃ ss,strsOf ds=some ss∧Q (.val (.bl (g (decide (x∈ss)))))
 | .str x,.lst ds=>∃ ss,strsOf ds=some ss∧Q (.val (.bl (g (decide (x∈ss)))))
 | .str x,.kt ss=>Q (.val (.bl (g (decide (x∈ss)))))
 | _,_=>False
theorem inV_strs (x:Str):∀ (ss:List Str),inV (.str x) (ss.map V.str)=decide (x∈ss)
 | []=>rfl
 | y :: ss=>by
  have:=inV_strs x ss
  unfold inV at this ⊢
  rw [List.map_cons,List.any_cons,this]
  apply bool_iff
  rw [Bool.or_eq_true,decide_eq_true_iff,decide_eq_true_iff,List.mem_cons]
  rw [show eqV (V.str y) (V.str x)=(y == x) from rfl,beq_iff_eq]
  exact ⟨fun h=>h.imp Eq.symm id,fun h=>h.imp Eq.symm id⟩
theorem flat_strs (ss:List Str):(ss.map V.str).all flatV=true:=by rw [List.all_map]; simp [flatV]
theorem Pk.kt {B H:Hp} {r:R} {v:V} {ss:List Str} (h:Pk K B H r v) (e:r.d=.kt ss):∃ a,v=.ref a∧SqT K (fun _=>none) a (ss.map V.str):=by
 cases r with
 | val d =>
  cases (show d=_ from e)
  have h':Rep K B (.kt ss) v:=h
  unfold Rep at h'
  exact h'
 | own d=>cases (show d=_ from e); obtain ⟨_,_,_,q⟩:=h; exact q.elim
 | peek d=>cases (show d=_ from e); obtain ⟨_,_,_,q⟩:=h; exact q.elim
 | exc n=>exact h.elim
theorem vo_in:VO X (compareOp .In) (vIn id):=by
 refine ⟨_,op_in_str.or op_in_seq,fun B H x y rx ry Q Qd s px py h k=>?_⟩
 unfold vIn at h
 split at h
 ·rename_i u w e1 e2
  exact .inl ⟨u,w,px.scal (by rw [e1]; rfl),py.scal (by rw [e2]; rfl),k _ _ B H (.refl s) (repV rfl) h⟩
 ·rename_i u ds e1 e2
  obtain ⟨ss,hs,q⟩:=h
  cases strsOf_eq hs
  cases px.scal (z:=.str u) (by rw [e1]; rfl)
  obtain ⟨a,xs,rfl,h1,r1⟩:=py.tup e2
  cases r1.strs
  have q':Qd (.val (.bl (decide (u∈ss)))):=q
  rw [← inV_strs] at q'
  exact .inr ⟨a,_,rfl,.inr (s.sqT h1.sq),rfl,flat_strs ss,k _ _ B H (.refl s) (repV rfl) q'⟩
 ·rename_i u ds e1 e2
  obtain ⟨ss,hs,q⟩:=h
  cases strsOf_eq hs
  cases px.scal (z:=.str u) (by rw [e1]; rfl)
  obtain ⟨a,xs,rfl,h1,r1⟩:=py.lst s e2
  cases r1.strs
  have q':Qd (.val (.bl (decide (u∈ss)))):=q
  rw [← inV_strs] at q'
  exact .inr ⟨a,_,rfl,.inl (SqL.of h1),rfl,flat_strs ss,k _ _ B H (.refl s) (repV rfl) q'⟩
 ·rename_i u ss e1 e2
  cases px.scal (z:=.str u) (by rw [e1]; rfl)
  obtain ⟨a,rfl,h1⟩:=py.kt e2
  have q':Qd (.val (.bl (decide (u∈ss)))):=h
  rw [← inV_strs] at q'
  exact .inr ⟨a,_,rfl,.inr ((Same.emp H).sqT h1),rfl,flat_strs ss,k _ _ B H (.refl s) (repV rfl) q'⟩
 ·exact h.elim
end
end L2
namespace L2
open PySem PySem.Spec PyProof.Rows
theorem v_cut {t u:TVS} {Dv:VEnds} {τ:VSt} (Pv:VSt→Prop) (rest:∀ τ,Pv τ→u Dv τ) (now:∀ nx:VSt→Prop,(∀ τ,Pv τ→nx τ)→t { nx:=nx,rt:=Dv.rt,bk:=Dv.bk,ct:=Dv.ct,xc:=Dv.xc,ro:=Dv.ro } τ):vSeq t u Dv τ:=now (u Dv) rest
section
variable {g:TVG} {tb:TVS} {Dv:VEnds} {τ:VSt}
theorem for_inv {ds:List D} (Pv:Nat→VSt→Prop) (h0:Pv 0 τ) (hn:∀ (i:Nat) (d:D) (τ:VSt),ds[i]?=some d→Pv i τ→∀ nx:VSt→Prop,(∀ τ',Pv (i+1) τ'→nx τ')→g d τ fun τ'=>tb { nx:=nx,rt:=Dv.rt,bk:=Dv.nx,ct:=nx,xc:=Dv.xc,ro:=Dv.ro } τ')
  (he:∀ τ,Pv ds.length τ→Dv.nx τ):forW g tb Dv ds τ:=by
 have key:∀ (n i:Nat) (τ:VSt),ds.length - i=n→i≤ds.length→Pv i τ→forW g tb Dv (ds.drop i) τ:=fun n=>by
  induction n with
  | zero =>
   intro i τ h1 h2 h3
   have e:i=ds.length:=by lia
   subst e
   rw [List.drop_length]
   exact he τ h3
  | succ n ih =>
   intro i τ h1 h2 h3
   have l:i < ds.length:=by lia
   rw [List.drop_eq_getElem_cons l]
   exact hn i ds[i] τ (List.getElem?_eq_getElem l) h3 _ fun τ' h=>ih (i+1) τ' (by lia) (by lia) h
 have:=key ds.length 0 τ (by lia) (Nat.zero_le _) h0
 rw [List.drop_zero] at this
 exact this
theorem for_map {α:Type} {f:α→D} {xs:List α} (Pv:Nat→VSt→Prop) (h0:Pv 0 τ) (hn:∀ (i:Nat) (x:α) (τ:VSt),xs[i]?=some x→Pv i τ→∀ nx:VSt→Prop,(∀ τ',Pv (i+1) τ'→nx τ')→g (f x) τ fun τ'=>tb { nx:=nx,rt:=Dv.rt,bk:=Dv.nx,ct:=nx,xc:=Dv.xc,ro:=Dv.ro } τ')
  (he:∀ τ,Pv xs.length τ→Dv.nx τ):forW g tb Dv (xs.map f) τ:=by
 refine for_inv Pv h0 (fun i d τ e=>?_) (by rw [List.length_map]; exact he)
 rw [List.getElem?_map] at e
 cases q:xs[i]? with
 | none=>rw [q] at e; cases e
 | some x =>
  rw [q] at e
  cases e
  exact hn i x τ q
theorem for_rng {lo:Int} {n:Nat} (Pv:Nat→VSt→Prop) (h0:Pv 0 τ) (hn:∀ (i:Nat) (τ:VSt),i < n→Pv i τ→∀ nx:VSt→Prop,(∀ τ',Pv (i+1) τ'→nx τ')→g (.int (lo+i)) τ fun τ'=>tb { nx:=nx,rt:=Dv.rt,bk:=Dv.nx,ct:=nx,xc:=Dv.xc,ro:=Dv.ro } τ')
  (he:∀ τ,Pv n τ→Dv.nx τ):forW g tb Dv (rngL lo n) τ:=by
 unfold rngL
 refine for_map Pv h0 (fun i x τ e=>?_) (by rw [List.length_range]; exact he)
 by_cases l:i < n
 ·rw [List.getElem?_range l] at e
  cases e
  exact hn i τ l
 ·rw [List.getElem?_eq_none (by rw [List.length_range]; lia)] at e
  cases e
end
theorem filter_yes {α:Type} (xs:List α):xs.filter (fun _=>true)=xs:=List.filter_eq_self.mpr fun _ _=>rfl
section
variable {α:Type} {f:α→D} {τ:VSt} {k:Nat} {g:TVG} {ti:TVT} {te:TV} {Q:R→Prop}
theorem comp_rel (P:α→D→Prop) (p:α→Bool) (xs:List α) (hz:xs.length≤sizeLine)
  (ok:∀ x∈xs,∀ (Y:R→Prop) (N:Prop),(p x=true→∀ d,P x d→Y (.val d))→(p x=false→N)→g (f x) (τ++List.replicate k none) fun τ2=>(τ2.take τ.length=τ∧τ2.length=τ.length+k)∧ti τ2 fun b=>if b=true then te τ2 Y else N)
  (fin:∀ es:List D,es.length=(xs.filter p).length→(∀ (j:Nat) (x:α) (e:D),(xs.filter p)[j]?=some x→es[j]?=some e→P x e)→Q (.own (.lst es))):compW τ k g ti te Q (xs.map f) []:=by
 have key:∀ (ys zs:List α) (acc:List D),xs=zs++ys→acc.length=(zs.filter p).length→(∀ (j:Nat) (x:α) (e:D),(zs.filter p)[j]?=some x→acc[j]?=some e→P x e)→compW τ k g ti te Q (ys.map f) acc:=by
  intro ys
  induction ys with
  | nil =>
   intro zs acc e h1 h2
   rw [List.append_nil] at e
   subst e
   exact fin acc h1 h2
  | cons y ys ih =>
   intro zs acc e h1 h2
   have hl:acc.length < sizeLine:=by
    have h3:=List.length_filter_le p zs
    have h4:xs.length=zs.length+(ys.length+1):=by rw [e,List.length_append,List.length_cons]
    lia
   refine ok y (by rw [e]; simp) _ _ (fun hp d hd=>⟨hl,ih (zs++[y]) (acc++[d]) (by rw [e]; simp) ?_ fun j x e' q1 q2=>?_⟩) (fun hp=>ih (zs++[y]) acc (by rw [e]; simp) ?_ fun j x e' q1 q2=>?_)
   ·rw [List.filter_append,List.length_append,List.length_append,h1]
    simp [hp]
   ·rw [List.filter_append] at q1
    have ef:[y].filter p=[y]:=by simp [hp]
    rw [ef] at q1
    by_cases l:j < (zs.filter p).length
    ·rw [List.getElem?_append_left l] at q1
     rw [List.getElem?_append_left (by lia)] at q2
     exact h2 j x e' q1 q2
    ·rw [List.getElem?_append_right (by lia)] at q1
     rw [List.getElem?_append_right (by lia)] at q2
     have ej:j - (zs.filter p).length=0:=by
      have:=(List.getElem?_eq_some_iff.mp q1).1
      simp at this
      lia
     rw [ej] at q1
     rw [h1,ej] at q2
     cases q1
     cases q2
     exact hd
   ·rw [List.filter_append,List.length_append,h1]
    simp [hp]
   ·rw [List.filter_append] at q1
    have ef:[y].filter p=[]:=by simp [hp]
    rw [ef,List.append_nil] at q1
    exact h2 j x e' q1 q2
 exact key xs [] [] rfl rfl (fun j x e q=>by simp at q)
theorem comp_filter (h:α→D) (p:α→Bool) (xs:List α) (hz:xs.length≤sizeLine)
  (ok:∀ x∈xs,∀ (Y:R→Prop) (N:Prop),(p x=true→Y (.val (h x)))→(p x=false→N)→g (f x) (τ++List.replicate k none) fun τ2=>(τ2.take τ.length=τ∧τ2.length=τ.length+k)∧ti τ2 fun b=>if b=true then te τ2 Y else N)
  (fin:Q (.own (.lst ((xs.filter p).map h)))):compW τ k g ti te Q (xs.map f) []:=by
 refine comp_rel (fun x d=>d=h x) p xs hz (fun x hx Y N h1 h2=>ok x hx Y N (fun z=>h1 z _ rfl) h2) fun es hl he=>?_
 have:es=(xs.filter p).map h:=List.ext_getElem (by rw [hl,List.length_map]) fun j h1 h2=>by
  rw [List.length_map] at h2
  rw [List.getElem_map]
  exact he j _ _ (List.getElem?_eq_getElem h2) (List.getElem?_eq_getElem h1)
 rw [this]
 exact fin
theorem comp_map (h:α→D) (xs:List α) (hz:xs.length≤sizeLine)
  (ok:∀ x∈xs,∀ (Y:R→Prop) (N:Prop),Y (.val (h x))→g (f x) (τ++List.replicate k none) fun τ2=>(τ2.take τ.length=τ∧τ2.length=τ.length+k)∧ti τ2 fun b=>if b=true then te τ2 Y else N)
  (fin:Q (.own (.lst (xs.map h)))):compW τ k g ti te Q (xs.map f) []:=by
 refine comp_filter h (fun _=>true) xs hz (fun x hx Y N h1 _=>ok x hx Y N (h1 rfl)) ?_
 rw [filter_yes]
 exact fin
theorem comp_all (P:D→Prop) (xs:List α) (hz:xs.length≤sizeLine)
  (ok:∀ x∈xs,∀ (Y:R→Prop) (N:Prop),(∀ d,P d→Y (.val d))→g (f x) (τ++List.replicate k none) fun τ2=>(τ2.take τ.length=τ∧τ2.length=τ.length+k)∧ti τ2 fun b=>if b=true then te τ2 Y else N)
  (fin:∀ es:List D,es.length=xs.length→(∀ e∈es,P e)→Q (.own (.lst es))):compW τ k g ti te Q (xs.map f) []:=by
 refine comp_rel (fun _ d=>P d) (fun _=>true) xs hz (fun x hx Y N h1 _=>ok x hx Y N (h1 rfl)) fun es hl he=>fin es ?_ fun e hm=>?_
 ·rw [filter_yes] at hl
  exact hl
 ·obtain ⟨j,hj⟩:=List.mem_iff_getElem?.mp hm
  have l:=(List.getElem?_eq_some_iff.mp hj).1
  exact he j _ e (List.getElem?_eq_getElem (by rw [← hl]; exact l)) hj
end
def wayD (ws:List Str):D:=.tup (ws.map D.str)
def strsD (ws:List Str):D:=.lst (ws.map D.str)
theorem cmp_strs:∀ (ss ts:List Str),cmpDs (ss.map D.str) (ts.map D.str)=true
 | [],_=>by unfold cmpDs; rfl
 | _ :: _,[]=>by unfold cmpDs; rfl
 | s :: ss,t :: ts=>by
  show cmpDs (.str s :: ss.map D.str) (.str t :: ts.map D.str)=true
  unfold cmpDs
  rw [cmp_strs ss ts]
  rfl
theorem dep_strs:∀ (ss:List Str),depDs (ss.map D.str)=0
 | []=>rfl
 | s :: ss=>by
  show depDs (.str s :: ss.map D.str)=0
  unfold depDs
  rw [dep_strs ss]
  rfl
theorem map_str_inj {ss ts:List Str} (h:ss.map D.str=ts.map D.str):ss=ts:=by
 induction ss generalizing ts with
 | nil=>cases ts with
  | nil=>rfl
  | cons t ts=>cases h
 | cons s ss ih=>cases ts with
  | nil=>cases h
  | cons t ts =>
   injection h with h1 h2
   injection h1 with h1
   rw [h1,ih h2]
theorem eq_int (i j:Int):eqD (.int i) (.int j)=decide (i=j):=bool_iff (by
 rw [eqD_iff,decide_eq_true_iff]
 exact ⟨fun h=>D.int.inj h,fun h=>h ▸ rfl⟩)
theorem eq_str (i j:Str):eqD (.str i) (.str j)=decide (i=j):=bool_iff (by
 rw [eqD_iff,decide_eq_true_iff]
 exact ⟨fun h=>D.str.inj h,fun h=>h ▸ rfl⟩)
theorem cmp_int (i j:Int):cmpD (.int i) (.int j)=true:=rfl
theorem cmp_str (i j:Str):cmpD (.str i) (.str j)=true:=rfl
theorem dep_int (i:Int):depD (.int i)=0:=rfl
theorem dep_str (i:Str):depD (.str i)=0:=rfl
theorem atI_map {α β:Type} (f:α→β) (xs:List α) (k:Int):atI (xs.map f) k=(atI xs k).map f:=by
 unfold atI
 rw [List.length_map]
 cases ixN xs.length k with
 | none=>rfl
 | some j=>simp
theorem cutL_map {α β:Type} (f:α→β) (xs:List α) (lo hi:Option Int):cutL (xs.map f) lo hi=(cutL xs lo hi).map f:=by
 unfold cutL
 rw [List.length_map,List.map_take,List.map_drop]
theorem spOf_law {K:PySem.W.Frag} {H:Hp} {a:Addr} {ns:List Int} {g:DP} (h:g [.scr ns] (fun r=>r=.val (.bl true))) (hS:SqL K H a (ns.map V.int)) {E:XK}:spOf K g [.ref a] H (fun v _=>v=.bl true) E :=
 ⟨[.scr ns],H,_,Same.refl H,.one (by unfold Rep; exact ⟨a,rfl,hS⟩),h,(fun n C B' H' e _ _=>by cases e),fun r v B' H' e p rr=>by
  subst e
  have rr':Rep K B' (.bl true) v:=rr
  unfold Rep at rr'
  exact rr'⟩
theorem map_str_iff (ss ts:List Str):(ss.map D.str=ts.map D.str)=(ss=ts):=propext ⟨map_str_inj,fun h=>h ▸ rfl⟩
theorem map_int_iff (ss ts:List Int):(ss.map D.int=ts.map D.int)=(ss=ts):=propext ⟨fun h=>by
 induction ss generalizing ts with
 | nil=>cases ts with
  | nil=>rfl
  | cons t ts=>cases h
 | cons s ss ih=>cases ts with
  | nil=>cases h
  | cons t ts =>
   injection h with h1 h2
   injection h1 with h1
   rw [h1,ih _ h2],fun h=>h ▸ rfl⟩
theorem map_snoc {α:Type} (f:α→D) (xs:List α) (x:α):xs.map f++[f x]=(xs++[x]).map f:=by rw [List.map_append]; rfl
theorem snoc_str (xs:List Str) (x:Str):xs.map D.str++[.str x]=(xs++[x]).map D.str:=map_snoc _ xs x
theorem snoc_int (xs:List Int) (x:Int):xs.map D.int++[.int x]=(xs++[x]).map D.int:=map_snoc _ xs x
theorem cat_str (xs ys:List Str):xs.map D.str++ys.map D.str=(xs++ys).map D.str:=(List.map_append ..).symm
theorem drop_str (xs:List Str):(xs.map D.str).dropLast=xs.dropLast.map D.str:=by
 rw [← cutL_last,← cutL_last,cutL_map]
theorem pub_val (d:D) (Q:D→Prop):pubR (.val d) Q=Q d:=rfl
theorem pub_own (d:D) (Q:D→Prop):pubR (.own d) Q=Q d:=rfl
theorem take_str (k:Nat) (xs:List Str):(xs.map D.str).take k=(xs.take k).map D.str:=(List.map_take ..).symm
theorem dropn_str (k:Nat) (xs:List Str):(xs.map D.str).drop k=(xs.drop k).map D.str:=(List.map_drop ..).symm
theorem atI_lit {α:Type} (xs:List α) (n:Nat):atI xs (no_index (OfNat.ofNat n:Int))=xs[n]?:=by
 show atI xs (n:Int)=xs[n]?
 unfold atI ixN
 rw [if_pos (by lia)]
 by_cases h:(n:Int) < xs.length
 ·rw [if_pos h]
  simp
 ·rw [if_neg h]
  simp
  lia
theorem atI_neg1 {α:Type} (xs:List α):atI xs (-1)=xs.getLast?:=by
 unfold atI ixN
 rw [if_neg (by decide)]
 cases xs with
 | nil=>rfl
 | cons x xs =>
  rw [if_pos (by rw [List.length_cons]; lia)]
  rw [List.getLast?_eq_getElem?]
  show (x :: xs)[(-1+((x :: xs).length:Int)).toNat]?=_
  congr 1
  lia
theorem ex_val (d:D) (Q:R→Prop) (k:Prop):exR (.val d) Q k=k:=rfl
theorem ex_own (d:D) (Q:R→Prop) (k:Prop):exR (.own d) Q k=k:=rfl
theorem ex_peek (d:D) (Q:R→Prop) (k:Prop):exR (.peek d) Q k=k:=rfl
theorem ex_exc (n:Str) (Q:R→Prop) (k:Prop):exR (.exc n) Q k=Q (.exc n):=rfl
theorem exA_val (d:D) (Q:AR→Prop) (k:Prop):excA (.val d) Q k=k:=rfl
theorem exA_own (d:D) (Q:AR→Prop) (k:Prop):excA (.own d) Q k=k:=rfl
theorem exA_peek (d:D) (Q:AR→Prop) (k:Prop):excA (.peek d) Q k=k:=rfl
theorem exA_exc (n:Str) (Q:AR→Prop) (k:Prop):excA (.exc n) Q k=Q (.exc n):=rfl
theorem exS_val (τ:VSt) (Dv:VEnds) (d:D) (k:Prop):exS τ Dv (.val d) k=k:=rfl
theorem exS_own (τ:VSt) (Dv:VEnds) (d:D) (k:Prop):exS τ Dv (.own d) k=k:=rfl
theorem exS_peek (τ:VSt) (Dv:VEnds) (d:D) (k:Prop):exS τ Dv (.peek d) k=k:=rfl
theorem exS_exc (τ:VSt) (Dv:VEnds) (n:Str) (k:Prop):exS τ Dv (.exc n) k=Dv.xc τ n:=rfl
theorem exA_ok (ds:List D) (Q:R→Prop) (k:List D→Prop):exA (.ok ds) Q k=k ds:=rfl
theorem exA_raise (n:Str) (Q:R→Prop) (k:List D→Prop):exA (.exc n) Q k=Q (.exc n):=rfl
theorem exI_ok (τ:VSt) (Dv:VEnds) (ds:List D) (k:List D→Prop):exI τ Dv (.ok ds) k=k ds:=rfl
theorem exI_exc (τ:VSt) (Dv:VEnds) (n:Str) (k:List D→Prop):exI τ Dv (.exc n) k=Dv.xc τ n:=rfl
theorem more_ok (d:D) (ds:List D):moreA d (.ok ds)=.ok (d :: ds):=rfl
theorem more_exc (d:D) (n:Str):moreA d (.exc n)=.exc n:=rfl
theorem rd_val (d:D):(R.val d).d=d:=rfl
theorem rd_own (d:D):(R.own d).d=d:=rfl
theorem rd_peek (d:D):(R.peek d).d=d:=rfl
theorem rd_exc (n:Str):(R.exc n).d=.scr []:=rfl
theorem v_seq {t u:TVS} {Dv:VEnds} {τ:VSt} (h:t { nx:=u Dv,rt:=Dv.rt,bk:=Dv.bk,ct:=Dv.ct,xc:=Dv.xc,ro:=Dv.ro } τ):vSeq t u Dv τ:=h
end L2
namespace L2
open PySem PySem.Spec PyProof.Rows
def lkD:List (List Str)→List D→List Str→Option D
 | k :: ks,d :: ds,w=>if k=w then some d else lkD ks ds w
 | _,_,_=>none
def lkK:List Str→List D→Str→Option D
 | k :: ks,d :: ds,w=>if k=w then some d else lkK ks ds w
 | _,_,_=>none
def rpD:List (List Str)→List D→List Str→D→List D
 | k :: ks,e :: ds,w,d=>(if k=w then d else e) :: rpD ks ds w d
 | _,_,_,_=>[]
def putD (ks:List (List Str)) (ds:List D) (w:List Str) (d:D):D:=if w∈ks then .dT ks (rpD ks ds w d) else .dT (ks++[w]) (ds++[d])
theorem wK_inj {a b:List Str} (h:wK a=wK b):a=b:=by
 unfold wK at h
 induction a generalizing b with
 | nil=>cases b with
  | nil=>rfl
  | cons _ _=>cases h
 | cons x a ih=>cases b with
  | nil=>cases h
  | cons y b =>
   injection h with h1 h2
   injection h1 with h1
   rw [h1,ih h2]
theorem wK_kV (w:List Str):(wK w).map kV=w.map V.str:=by
 unfold wK
 rw [List.map_map]
 rfl
section
variable {K:PySem.W.Frag} {B H:Hp} {d:D} {r:R} {v:V}
theorem DGet.tR {H:Hp} {a b:Addr} {kvs:List (List Key × V)} {k:List Key} (e:Rd H a (.dT kvs)) (eb:H b=some (.tup (k.map kV))):DGet H a (.ref b) (valV kvs k):=.inr ⟨kvs,k,b,e,rfl,eb,rfl⟩
theorem Pk.dT {ks:List (List Str)} {ds:List D} (s:Same B H) (h:Pk K B H r v) (e:r.d=.dT ks ds):∃ a kvs,v=.ref a∧Rd H a (.dT kvs)∧kvs.map (·.1)=ks.map wK∧Reps K B ds (kvs.map (·.2)):=by
 cases r with
 | val d =>
  cases (show d=_ from e)
  have h':Rep K B (.dT ks ds) v:=h
  unfold Rep at h'
  obtain ⟨a,xs,rfl,q,k,rp⟩:=h'
  exact ⟨a,xs,rfl,q.elim (fun q=>.inl (s _ _ q)) fun ⟨o,q⟩=>.inr ⟨o,s _ _ q⟩,k,rp⟩
 | own d=>cases (show d=_ from e); obtain ⟨a,rfl,_,xs,q,k,rp⟩:=h; exact ⟨a,xs,rfl,.inl q,k,rp⟩
 | peek d=>cases (show d=_ from e); obtain ⟨a,rfl,_,xs,q,k,rp⟩:=h; exact ⟨a,xs,rfl,.inl q,k,rp⟩
 | exc n=>exact h.elim
theorem Pk.dK {ks:List Str} {ds:List D} (s:Same B H) (h:Pk K B H r v) (e:r.d=.dK ks ds):∃ a kvs,v=.ref a∧H a=some (.dK kvs)∧kvs.map (·.1)=ks.map Sum.inr∧Reps K B ds (kvs.map (·.2)):=by
 cases r with
 | val d =>
  cases (show d=_ from e)
  have h':Rep K B (.dK ks ds) v:=h
  unfold Rep at h'
  obtain ⟨a,xs,rfl,q,k,rp⟩:=h'
  exact ⟨a,xs,rfl,s _ _ q,k,rp⟩
 | own d=>cases (show d=_ from e); obtain ⟨a,rfl,_,xs,q,k,rp⟩:=h; exact ⟨a,xs,rfl,q,k,rp⟩
 | peek d=>cases (show d=_ from e); obtain ⟨a,rfl,_,xs,q,k,rp⟩:=h; exact ⟨a,xs,rfl,q,k,rp⟩
 | exc n=>exact h.elim
theorem Pk.way {w:List Str} (h:Pk K B H r v) (e:r.d=.tup (w.map D.str)) (n:("" : Str)∉w):∃ a,v=.ref a∧B a=some (.tup (w.map V.str)):=by
 obtain ⟨a,xs,rfl,t,rp⟩:=h.tup e
 refine ⟨a,rfl,?_⟩
 rw [← rp.strs]
 rcases t with t | ⟨_,t⟩
 ·exact t
 ·obtain ⟨z,hz,ez⟩:=List.mem_map.mp t
  cases ez
  exact absurd hz n
theorem lk_rel:∀ {ks:List (List Str)} {ds:List D} {kvs:List (List Key × V)} (w:List Str),kvs.map (·.1)=ks.map wK→Reps K B ds (kvs.map (·.2))→(lkD ks ds w=none∧valV kvs (wK w)=none)∨∃ d v,lkD ks ds w=some d∧valV kvs (wK w)=some v∧Rep K B d v
 | [],ds,kvs,w,h1,h2=>by
  have e:kvs=[]:=by simpa using h1
  subst e
  exact .inl ⟨by unfold lkD; rfl,rfl⟩
 | k :: ks,ds,[],w,h1,h2=>by cases h1
 | k :: ks,[],p :: kvs,w,h1,h2=>by
  unfold Reps at h2
  cases h2
 | k :: ks,d :: ds,p :: kvs,w,h1,h2=>by
  injection h1 with e1 e2
  have e1:p.1=wK k:=e1
  unfold Reps at h2
  obtain ⟨x,r,q,r1,r2⟩:=h2
  injection q with q1 q2
  subst q1 q2
  unfold lkD
  by_cases e:k=w
  ·rw [if_pos e,valV_pos (by rw [e1,e])]
   exact .inr ⟨d,p.2,rfl,rfl,r1⟩
  ·rw [if_neg e,valV_neg (fun z=>e (wK_inj (e1.symm.trans z)))]
   exact lk_rel w e2 r2
theorem lk_relK:∀ {ks:List Str} {ds:List D} {kvs:List (Key × V)} (w:Str),kvs.map (·.1)=ks.map Sum.inr→Reps K B ds (kvs.map (·.2))→(lkK ks ds w=none∧valV kvs (Sum.inr w)=none)∨∃ d v,lkK ks ds w=some d∧valV kvs (Sum.inr w)=some v∧Rep K B d v
 | [],ds,kvs,w,h1,h2=>by
  have e:kvs=[]:=by simpa using h1
  subst e
  exact .inl ⟨by unfold lkK; rfl,rfl⟩
 | k :: ks,ds,[],w,h1,h2=>by cases h1
 | k :: ks,[],p :: kvs,w,h1,h2=>by
  unfold Reps at h2
  cases h2
 | k :: ks,d :: ds,p :: kvs,w,h1,h2=>by
  injection h1 with e1 e2
  have e1:p.1=Sum.inr k:=e1
  unfold Reps at h2
  obtain ⟨x,r,q,r1,r2⟩:=h2
  injection q with q1 q2
  subst q1 q2
  unfold lkK
  by_cases e:k=w
  ·rw [if_pos e,valV_pos (by rw [e1,e])]
   exact .inr ⟨d,p.2,rfl,rfl,r1⟩
  ·rw [if_neg e,valV_neg (fun z=>e (Sum.inr.inj (e1.symm.trans z)))]
   exact lk_relK w e2 r2
theorem put_rel {ks:List (List Str)} {ds:List D} {kvs:List (List Key × V)} (w:List Str) {d:D} {v:V} (h1:kvs.map (·.1)=ks.map wK) (h2:Reps K B ds (kvs.map (·.2))) (hd:Rep K B d v) :
  ∃ ks' ds',putD ks ds w d=.dT ks' ds'∧(putK kvs (wK w) v).map (·.1)=ks'.map wK∧Reps K B ds' ((putK kvs (wK w) v).map (·.2)):=by
 have hany:(kvs.any fun kv=>decide (kv.1=wK w))=decide (w∈ks):=by
  apply bool_iff
  rw [List.any_eq_true,decide_eq_true_iff]
  constructor
  ·rintro ⟨p,hp,e⟩
   have:p.1∈kvs.map (·.1):=List.mem_map_of_mem hp
   rw [h1,of_decide_eq_true e] at this
   obtain ⟨k,hk,ek⟩:=List.mem_map.mp this
   rw [← wK_inj ek]
   exact hk
  ·intro hw
   have:wK w∈kvs.map (·.1):=by rw [h1]; exact List.mem_map_of_mem hw
   obtain ⟨p,hp,e⟩:=List.mem_map.mp this
   exact ⟨p,hp,decide_eq_true e⟩
 unfold putD putK
 rw [hany]
 by_cases hw:w∈ks
 ·rw [if_pos hw,if_pos (decide_eq_true hw)]
  refine ⟨ks,_,rfl,?_,?_⟩
  ·rw [← h1,List.map_map]
   refine List.map_congr_left fun p _=>?_
   show (if p.1=wK w then (p.1,v) else p).1=p.1
   split <;> rfl
  ·clear hany hw
   induction kvs generalizing ks ds with
   | nil =>
    have e:ks=[]:=by simpa using h1.symm
    subst e
    unfold rpD
    exact .nil
   | cons p kvs ih =>
    cases ks with
    | nil=>cases h1
    | cons k ks =>
     cases ds with
     | nil=>unfold Reps at h2; cases h2
     | cons e ds =>
      injection h1 with e1 e2
      have e1:p.1=wK k:=e1
      unfold Reps at h2
      obtain ⟨x,r,q,r1,r2⟩:=h2
      injection q with q1 q2
      subst q1 q2
      unfold rpD
      refine .cons ?_ (ih e2 r2)
      by_cases ek:k=w
      ·rw [if_pos ek]
       show Rep K B d (if p.1=wK w then (p.1,v) else p).2
       rw [if_pos (by rw [e1,ek])]
       exact hd
      ·rw [if_neg ek]
       show Rep K B e (if p.1=wK w then (p.1,v) else p).2
       rw [if_neg (fun z=>ek (wK_inj (e1.symm.trans z)))]
       exact r1
 ·rw [if_neg hw,if_neg (by simpa using hw)]
  refine ⟨_,_,rfl,?_,?_⟩
  ·rw [List.map_append,List.map_append,h1]
   rfl
  ·rw [List.map_append]
   exact h2.append (.one hd)
end
section
variable {X:Cx} {EX:St→XK} {e a o i:Expr} {te ta to ti:TV} {pos pos' p p2 apos cpos:Pos} {x:Str} {f:Expr} {tf:TV}
def vDGet (to ti:TV):TV:=fun τ Q=>to τ fun rx=>exR rx (fun _=>False) <| ti τ fun ry=>match rx.d,ry.d with
 | .dT ks ds,.tup es=>∃ w d,es=w.map D.str∧("" : Str)∉w∧lkD ks ds w=some d∧Q (.val d)
 | .dK ks ds,.str z=>∃ d,lkK ks ds z=some d∧Q (.val d)
 | _,_=>False
theorem ve_dget (hu:X.A.units+64 < cLine) (ho:VE X EX o to) (hi:VE X EX i ti) (hs:NoSl i:=by exact fun _ _=>rfl):VE X EX (.Subscript o i pos) (vDGet to ti) :=
 let ⟨_,a1,a2⟩:=ho.u; let ⟨_,b1,b2⟩:=hi.u; ⟨_,qe_dget (by lia) a1 b1 hs,fun H0 B H τ σ Q Qd s S h xc k=>a2 H0 B H τ σ _ _ s S h (xno fun _ q=>q) fun rx x B1 H1 p1 q1 h1=>b2 H0 B1 H1 τ σ _ _ p1.s (S.step p1) (q1.ok h1) (xno fun _ q=>by revert q; cases rx.d <;> exact fun z=>z) fun ry y B2 H2 p2 q2 h2=>by
  have px:=q1.pk.step p2
  split at h2
  ·rename_i ks ds es e1 e2
   obtain ⟨w,d,rfl,hn,hl,hq⟩:=h2
   obtain ⟨ad,kvs,rfl,hd,hk,hr⟩:=px.dT p2.s e1
   obtain ⟨b,rfl,hb⟩:=q2.pk.way e2 hn
   rcases lk_rel w hk hr with ⟨z,_⟩ | ⟨d',v,z,hv,rp⟩
   ·rw [z] at hl; cases hl
   ·rw [z] at hl; cases hl
    exact ⟨ad,v,rfl,hv ▸ DGet.tR hd (by rw [wK_kV]; exact p2.s _ _ hb),k (.val d) _ B2 H2 (p1.trans p2) rp hq⟩
  ·rename_i ks ds z e1 e2
   obtain ⟨d,hl,hq⟩:=h2
   obtain ⟨ad,kvs,rfl,hd,hk,hr⟩:=px.dK p2.s e1
   cases q2.pk.scal (z:=.str z) (by rw [e2]; rfl)
   rcases lk_relK z hk hr with ⟨w,_⟩ | ⟨d',v,w,hv,rp⟩
   ·rw [w] at hl; cases hl
   ·rw [w] at hl; cases hl
    exact ⟨ad,v,rfl,hv ▸ DGet.k (k:=Sum.inr z) hd,k (.val d) _ B2 H2 (p1.trans p2) rp hq⟩
  ·exact h2.elim⟩
def vDIn (g:Bool→Bool) (ti to:TV):TV:=fun τ Q=>ti τ fun ry=>exR ry (fun _=>False) <| to τ fun rx=>match rx.d,ry.d with
 | .dT ks ds,.tup es=>∃ w,es=w.map D.str∧("" : Str)∉w∧Q (.val (.bl (g (lkD ks ds w).isSome)))
 | .dK ks ds,.str z=>Q (.val (.bl (g (lkK ks ds z).isSome)))
 | _,_=>False
theorem lk_isSome {K:PySem.W.Frag} {B:Hp} {ks:List (List Str)} {ds:List D} {kvs:List (List Key × V)} (w:List Str) (h1:kvs.map (·.1)=ks.map wK) (h2:Reps K B ds (kvs.map (·.2))):(valV kvs (wK w)).isSome=(lkD ks ds w).isSome:=by
 rcases lk_rel w h1 h2 with ⟨z,y⟩ | ⟨d',v,z,y,_⟩ <;> rw [z,y] <;> rfl
theorem lk_isSomeK {K:PySem.W.Frag} {B:Hp} {ks:List Str} {ds:List D} {kvs:List (Key × V)} (w:Str) (h1:kvs.map (·.1)=ks.map Sum.inr) (h2:Reps K B ds (kvs.map (·.2))):(valV kvs (Sum.inr w)).isSome=(lkK ks ds w).isSome:=by
 rcases lk_relK w h1 h2 with ⟨z,y⟩ | ⟨d',v,z,y,_⟩ <;> rw [z,y] <;> rfl
theorem rf_din {K:PySem.W.Frag} {eo ei:TE} (g:Bool→Bool) (ho:RfE K EX eo to) (hi:RfE K EX ei ti):RfE K EX (fun σ H Q=>ei σ H fun y H1=>eo σ H1 fun x H2=>∃ a o,x=.ref a∧DGet H2 a y o∧Q (.bl (g o.isSome)) H2) (vDIn g ti to):=fun H0 B H τ σ Q Qd s S h xc k =>
 hi H0 B H τ σ _ _ s S h (xno fun _ q=>q) fun ry y B1 H1 p1 q1 h1=>ho H0 B1 H1 τ σ _ _ p1.s (S.step p1) (q1.ok h1) (xno fun _ q=>q) fun rx x B2 H2 p2 q2 h2=>by
  have py:=q1.pk.step p2
  split at h2
  ·rename_i ks ds es e1 e2
   obtain ⟨w,rfl,hn,hq⟩:=h2
   obtain ⟨ad,kvs,rfl,hd,hk,hr⟩:=q2.pk.dT p2.s e1
   obtain ⟨b,rfl,hb⟩:=py.way e2 hn
   refine ⟨ad,_,rfl,DGet.tR (k:=wK w) hd (by rw [wK_kV]; exact p2.s _ _ hb),?_⟩
   rw [lk_isSome w hk hr]
   exact k _ _ B2 H2 (p1.trans p2) (repV rfl) hq
  ·rename_i ks ds z e1 e2
   obtain ⟨ad,kvs,rfl,hd,hk,hr⟩:=q2.pk.dK p2.s e1
   cases py.scal (z:=.str z) (by rw [e2]; rfl)
   refine ⟨ad,_,rfl,DGet.k (k:=Sum.inr z) hd,?_⟩
   rw [lk_isSomeK z hk hr]
   exact k _ _ B2 H2 (p1.trans p2) (repV rfl) h2
  ·exact h2.elim
theorem vt_din (hu:X.A.units+64 < cLine) (hi:VE X EX i ti) (ho:VE X EX o to) (hm:behindInMarks .In o=false:=by with_unfolding_all rfl):VT X EX (.Compare i [.In] [o] pos) (vBl (vDIn id ti to)) :=
 let ⟨_,a1,a2⟩:=ho.u; let ⟨_,b1,b2⟩:=hi.u; ⟨_,qt_din (by lia) b1 a1 hm,rf_bl (rf_din id a2 b2)⟩
theorem vt_dnotin (hu:X.A.units+64 < cLine) (hi:VE X EX i ti) (ho:VE X EX o to) (hm:behindInMarks .NotIn o=false:=by with_unfolding_all rfl):VT X EX (.Compare i [.NotIn] [o] pos) (vBl (vDIn (!·) ti to)) :=
 let ⟨_,a1,a2⟩:=ho.u; let ⟨_,b1,b2⟩:=hi.u; ⟨_,qt_dnotin (by lia) b1 a1 hm,rf_bl (rf_din (!·) a2 b2)⟩
def vDGet1 (to ti:TV):TV:=fun τ Q=>to τ fun rx=>match rx.d with
 | .dT ks ds=>ti τ fun ry=>∃ w,ry.d=.tup (w.map D.str)∧("" : Str)∉w∧Q (.val ((lkD ks ds w).getD .non))
 | .dK ks ds=>ti τ fun ry=>∃ z,ry.d=.str z∧Q (.val ((lkK ks ds z).getD .non))
 | _=>False
theorem ve_dget1 (hu:X.A.units+64 < cLine) (ho:VE X EX o to) (hi:VE X EX e ti) (m:M1 X o "get" apos e cpos:=by exact ⟨rfl,rfl,rfl,rfl⟩):VE X EX (.Call (.Attribute o "get" apos) [e] [] cpos) (vDGet1 to ti) :=
 let ⟨_,a1,a2⟩:=ho.u; let ⟨_,b1,b2⟩:=hi.u; ⟨_,qe_dget1 (by lia) a1 b1 m,fun H0 B H τ σ Q Qd s S h xc k=>a2 H0 B H τ σ _ _ s S h (xno fun _ q=>q) fun rx x B1 H1 p1 q1 h1=>by
  split at h1
  ·rename_i ks ds e1
   obtain ⟨ad,kvs,rfl,hd,_,_⟩:=q1.pk.dT p1.s e1
   refine ⟨ad,rfl,.inr ⟨kvs,hd⟩,b2 H0 B1 H1 τ σ _ _ p1.s (S.step p1) h1 (xno fun _ ⟨_,q,_⟩=>by cases q) fun ry y B2 H2 p2 q2 h2=>?_⟩
   obtain ⟨w,e2,hn,hq⟩:=h2
   obtain ⟨ad',kvs',ea,hd',hk,hr⟩:=(q1.pk.step p2).dT p2.s e1
   cases ea
   obtain ⟨b,rfl,hb⟩:=q2.pk.way e2 hn
   refine ⟨_,DGet.tR (k:=wK w) hd' (by rw [wK_kV]; exact p2.s _ _ hb),?_⟩
   rcases lk_rel w hk hr with ⟨z,y⟩ | ⟨d',v,z,y,rp⟩
   ·rw [y]; rw [z] at hq
    exact k (.val .non) _ B2 H2 (p1.trans p2) (repV rfl) hq
   ·rw [y]; rw [z] at hq
    exact k (.val d') _ B2 H2 (p1.trans p2) rp hq
  ·rename_i ks ds e1
   obtain ⟨ad,kvs,rfl,hd,_,_⟩:=q1.pk.dK p1.s e1
   refine ⟨ad,rfl,.inl ⟨kvs,.inl hd⟩,b2 H0 B1 H1 τ σ _ _ p1.s (S.step p1) h1 (xno fun _ ⟨_,q,_⟩=>by cases q) fun ry y B2 H2 p2 q2 h2=>?_⟩
   obtain ⟨w,e2,hq⟩:=h2
   obtain ⟨ad',kvs',ea,hd',hk,hr⟩:=(q1.pk.step p2).dK p2.s e1
   cases ea
   cases q2.pk.scal (z:=.str w) (by rw [e2]; rfl)
   refine ⟨_,DGet.k (k:=Sum.inr w) hd',?_⟩
   rcases lk_relK w hk hr with ⟨z,y⟩ | ⟨d',v,z,y,rp⟩
   ·rw [y]; rw [z] at hq
    exact k (.val .non) _ B2 H2 (p1.trans p2) (repV rfl) hq
   ·rw [y]; rw [z] at hq
    exact k (.val d') _ B2 H2 (p1.trans p2) rp hq
  ·exact h1.elim⟩
def vDNewT:TV:=fun _ Q=>Q (.own (.dT [] []))
theorem ve_dnewT:VE X EX (.Dict [] [] pos) vDNewT:=⟨_,qe_dnewT,fun _ B H _ _ _ _ s _ h _ k p hp=>k (.own (.dT [] [])) _ B _ (.grow s (same_upd hp _)) ⟨p,rfl,hp,s.free hp,[],upd_same,rfl,.nil⟩ h⟩
def ownT (τ:VSt) (i:Nat) (Q:List (List Str)→List D→Prop):Prop:=match τ[i]? with
 | some (some (.own (.dT ks ds)))=>Q ks ds
 | _=>False
theorem ownT_of {τ:VSt} {i:Nat} {Q:List (List Str)→List D→Prop} (h:ownT τ i Q):∃ ks ds,τ[i]?=some (some (.own (.dT ks ds)))∧Q ks ds:=by
 unfold ownT at h
 split at h
 ·exact ⟨_,_,by assumption,h⟩
 ·exact h.elim
def vDPut (i:Nat) (tk te:TV):TVS:=fun Dv τ=>ownT τ i fun ks ds=>te τ fun r=>exS τ Dv r <| pubR r fun d=>tk τ fun rk=>match rk.d with
 | .tup es=>∃ w,es=w.map D.str∧("" : Str)∉w∧ks.length < sizeLine∧Dv.nx (τ.set i (some (.own (putD ks ds w d))))
 | _=>False
theorem vs_dput {ek:Expr} {tk:TV} (i:Nat) (hu:X.A.units+64 < cLine) (hk:VE X EX ek tk) (h:VE X EX e te) (hN:X.N[i]?=some x:=by rfl) (hv:Vis X.env.scope x:=by first | exact Or.inl rfl | exact Or.inr (Or.inl rfl) | exact Or.inr (Or.inr rfl)) (hd:(x == ("__debug__" : Str))=false:=by decide)
  (hcd:(x == ("__classdict__" : Str))=false:=by decide) (hs:swapsWith e (some (.Subscript (.Name x p) ek p2)) pos.line X.env=pure false:=by rfl):VS X EX (.Assign [.Subscript (.Name x p) ek p2] e pos) (vDPut i tk te) :=
 let ⟨_,a1,a2⟩:=h.u; let ⟨_,b1,b2⟩:=hk.u; ⟨_,qs_dput (by lia) (qv i hN hv hd hcd) b1 a1 hs,fun B0 H0 B H τ σ Dv Dh p S h E=>by
  obtain ⟨ks,ds,e1,h⟩:=ownT_of h
  obtain ⟨ad,e2,_,_,_⟩:=S.own i _ e1
  refine a2 H0 B H τ σ _ _ p.s S h (E.raised p S) fun r v B' H' q hr hq=>?_
  obtain ⟨d,B2,q2,_,rp,hn⟩:=pub q hr (hr.okS hq)
  refine ⟨.ref ad,e2,b2 H0 B2 H' τ σ _ _ q2.s (S.step q2) hn (xno fun _ q=>q) fun rk vk B3 H3 q3 hk hh=>?_⟩
  split at hh
  ·rename_i es ek
   obtain ⟨w,rfl,hne,hz,hn⟩:=hh
   obtain ⟨b,rfl,hb⟩:=hk.pk.way ek hne
   have qq:=q2.trans q3
   have S3:=S.step qq
   obtain ⟨a',f1,h0,hbb,kvs,f4,f5,f6⟩:=S3.own i _ e1
   rw [e2] at f1
   cases f1
   have hl:kvs.length < sizeLine:=by
    have:kvs.length=ks.length:=by simpa using congrArg List.length f5
    lia
   refine ⟨ad,_,rfl,DPut.t (k:=wK w) f4 (by rw [wK_kV]; exact q3.s _ _ hb) hl,?_⟩
   obtain ⟨ks',ds',ep,g1,g2⟩:=put_rel w f5 f6 (rp.same q3.b)
   rw [ep] at hn
   exact E.nx B3 _ _ σ ((p.trans qq).upd h0 hbb) (S3.upd (d:=.dT ks' ds') e1 e2 ⟨_,upd_same,g1,g2⟩) hn
  ·exact hh.elim⟩
end
def dictD (kds:List (List Str × D)):D:=.dT (kds.map (·.1)) (kds.map (·.2))
def lkP (kds:List (List Str × D)) (w:List Str):Option D:=(kds.find? fun p=>decide (p.1=w)).map (·.2)
def insP (kds:List (List Str × D)) (w:List Str) (d:D):List (List Str × D):=if w∈kds.map (·.1) then kds.map (fun p=>if p.1=w then (p.1,d) else p) else kds++[(w,d)]
theorem lkD_pairs (kds:List (List Str × D)) (w:List Str):lkD (kds.map (·.1)) (kds.map (·.2)) w=lkP kds w:=by
 induction kds with
 | nil=>unfold lkP; simp [lkD]
 | cons p kds ih =>
  rw [List.map_cons,List.map_cons]
  unfold lkD
  unfold lkP at ih ⊢
  by_cases e:p.1=w
  ·rw [if_pos e,List.find?_cons,decide_eq_true e]
   rfl
  ·rw [if_neg e,ih,List.find?_cons,decide_eq_false e]
theorem putD_pairs (kds:List (List Str × D)) (w:List Str) (d:D):putD (kds.map (·.1)) (kds.map (·.2)) w d=dictD (insP kds w d):=by
 unfold putD insP dictD
 by_cases h:w∈kds.map (·.1)
 ·rw [if_pos h,if_pos h]
  congr 1
  ·rw [List.map_map]
   refine (List.map_congr_left fun p _=>?_).symm
   show (if p.1=w then (p.1,d) else p).1=p.1
   split <;> rfl
  ·clear h
   induction kds with
   | nil=>rfl
   | cons p kds ih =>
    rw [List.map_cons,List.map_cons,List.map_cons,List.map_cons]
    unfold rpD
    rw [ih]
    congr 1
    split <;> rfl
 ·rw [if_neg h,if_neg h,List.map_append,List.map_append]
  rfl
end L2
namespace PySem
open PySem Calls PyProof.Rows PyProof.V PySem.Spec
def RawD (h:Heap) (d:Addr) (es:Array DictEntry) (ep:Nat):Prop:=∃ o,h.get? d=some o∧o.ExactDict∧o.data=.dict es ep
section
variable {prog:Program} {w:World} {A:Around} {E:Value→Shared→Prop} {s:Shared} {d it:Addr} {es:Array DictEntry} {ep i:Nat}
theorem RawD.typeIs (x:RawD s.heap d es ep):s.TypeIs (.ref d) "dict" := let ⟨o,h1,h2,_⟩:=x; ⟨o,h1,h2.1⟩
theorem RawD.keep {h h':Heap} (x:RawD h d es ep) (k:∀ o,h.get? d=some o→h'.get? d=some o):RawD h' d es ep:=let ⟨o,h1,r⟩:=x; ⟨o,k o h1,r⟩
theorem raw_iter {Q:Value→Shared→Prop} (no:(d == sysModules)=false) (x:RawD s.heap d es ep)
  (fin:Q (.ref s.heap.objs.size) { s with heap:=s.heap.push { cls:=.type "dict_keyiterator",data:=.fields #[.ref d,.int 0 0,.int es.size 0,.int ep 0] } }):wpAny (model prog w) A (pyIter (.ref d)) Q E s:=by
 have T:=x.typeIs
 obtain ⟨o,h1,_,h2⟩:=x
 refine wpAny_pyIter_slot T F.slot_dict_iter (wpAny_call_entry F.slot_dict_iter T F.entry_dict_iter ?_ (F.args_dict_iter_1 _))
 unfold Builtin.«dict.__iter__» Builtin.Dict.dictSlotNone
 refine wpAny_bind (wpAny_bind (wpAny_notOrdered_dict T (show wpAny _ _ (pure (Value.ref d)) _ _ s from wpAny_pure ?_)))
 show wpAny _ _ (Builtin.Dict.showsAll d >>= fun _=>_) _ _ s
 unfold Builtin.Dict.showsAll
 rw [no,if_neg Bool.false_ne_true]
 refine wpAny_bind (wpAny_pure (wpAny_bind (wpAny_dictEntries h1 h2 (wpAny_bind (wpAny_dictEpoch h1 h2 (wpAny_bind (wpAny_newObj_type (wpAny_pure ⟨_,rfl,"dict_keyiterator",_,⟨_,Heap.get?_push_size _ rfl,rfl⟩,F.slot_dict_keyiterator_next.lookup,?_⟩))))))))
 simpa [rawInt] using fin
theorem first_name {Q:String→Shared→Prop} (h:s.TypeIs (.ref it) "dict_keyiterator") (q:Q "dict_keyiterator" s):wpAny (model prog w) A (typeNameOfWhole (.ref it)) Q E s:=wpAny_typeNameOfWhole_keyiter h q
theorem raw_item {Q:Option Value→Shared→Prop} {ky:Value} (K:s.heap.IsKeyIter it d i es.size ep) (x:RawD s.heap d es ep) (hk:es[i]?.map (·.key)=some ky)
  (fin:∀ h',h'.IsKeyIter it d (i+1) es.size ep→Heap.SameBut it s.heap h'→Q (some ky) { s with heap:=h' }):wpAny (model prog w) A (pyNext (.ref it)) Q E s:=by
 have T:=K.typeIs
 obtain ⟨oi,g1,g2,g3⟩:=K
 obtain ⟨o,h1,_,h2⟩:=x
 have lt:i < es.size:=by
  apply Classical.byContradiction
  intro z
  rw [Array.getElem?_eq_none (by lia)] at hk
  cases hk
 have ek:es[i].key=ky:=by
  rw [Array.getElem?_eq_getElem lt] at hk
  exact Option.some.inj hk
 have no:Builtin.Dict_items.ownsTuple "dict_keyiterator" = false:=by decide
 unfold pyNext
 refine wpAny_bind (wpAny_attempt (wpAny_callSpecial?_slot (name:=Str.ofString "__next__") T F.slot_dict_keyiterator_next (wpAny_call_entry F.slot_dict_keyiterator_next T F.entry_dict_keyiterator_next (wpAny_bind (wpAny_pure (wpAny_bind (wpAny_bind ?_)))) (F.args_dict_keyiterator_next_1 _))))
 refine wpAny_bind (first_name T (wpAny_pure (wpAny_bind (wpAny_fieldsOf g1 g3 ?_))))
 simp only [no,Bool.false_eq_true,if_false]
 show wpAny _ _ (ite ((Value.ref d == Value.none)=true) _ _) _ _ s
 rw [if_neg (show ¬ (Value.ref d == Value.none)=true from fun z=>by cases z)]
 refine wpAny_bind (wpAny_pure (wpAny_bind (wpAny_dictEntries h1 h2 ?_)))
 rw [if_neg (fun z=>by simp at z)]
 refine wpAny_bind (wpAny_pure (wpAny_bind (wpAny_dictEpoch h1 h2 ?_)))
 rw [if_neg (fun z=>by simp at z)]
 refine wpAny_pure ?_
 simp only [show ¬ (i:Int) < 0 from by lia,if_false,Int.toNat_natCast,Array.getElem?_eq_getElem lt]
 refine wpAny_bind (wpAny_bind (first_name T (wpAny_pure (wpAny_bind (wpAny_isOneOf_keyiter T ?_)))))
 show wpAny _ _ (setField (.ref it) 1 (rawInt ((i:Int)+1)) >>= fun _=>_) _ _ s
 have K2:(s.heap.update it (Obj.mapFields (·.setIfInBounds 1 (rawInt ((i:Int)+1))))).IsKeyIter it d (i+1) es.size ep:=⟨_,Heap.get?_update_self _ g1 (Obj.isFreed_of_fields (Obj.data_mapFields g3 _)),(Obj.cls_mapFields ..).trans g2,by
  rw [Obj.data_mapFields g3]
  simp [rawInt]⟩
 refine wpAny_bind (wpAny_setField g1 g3 (by simp) (wpAny_bind (wpAny_holding (wpAny_bind (wpAny_isOneOf_keyiter (s:={ s with heap:=s.heap.update it (Obj.mapFields (·.setIfInBounds 1 (rawInt ((i:Int)+1)))) }) K2.typeIs ?_)))))
 show wpAny _ _ (pure (es[i].key)) _ _ _
 rw [ek]
 exact wpAny_pure (wpAny_pure ⟨_,rfl,wpAny_pure (fin _ K2 (Heap.SameBut.update ..))⟩)
theorem raw_end {Q:Option Value→Shared→Prop} (hh:A.handled=none) (K:s.heap.IsKeyIter it d i es.size ep) (x:RawD s.heap d es ep) (ge:es.size≤i) (fin:∀ h',Heap.ExtBut it s.heap h'→Q none { s with heap:=h' }) :
  wpAny (model prog w) A (pyNext (.ref it)) Q E s:=by
 have T:=K.typeIs
 obtain ⟨oi,g1,g2,g3⟩:=K
 obtain ⟨o,h1,_,h2⟩:=x
 have no:Builtin.Dict_items.ownsTuple "dict_keyiterator" = false:=by decide
 unfold pyNext
 refine wpAny_bind (wpAny_attempt (wpAny_callSpecial?_slot (name:=Str.ofString "__next__") T F.slot_dict_keyiterator_next (wpAny_call_entry F.slot_dict_keyiterator_next T F.entry_dict_keyiterator_next (wpAny_bind (wpAny_pure (wpAny_bind (wpAny_bind ?_)))) (F.args_dict_keyiterator_next_1 _))))
 refine wpAny_bind (first_name T (wpAny_pure (wpAny_bind (wpAny_fieldsOf g1 g3 ?_))))
 simp only [no,Bool.false_eq_true,if_false]
 show wpAny _ _ (ite ((Value.ref d == Value.none)=true) _ _) _ _ s
 rw [if_neg (show ¬ (Value.ref d == Value.none)=true from fun z=>by cases z)]
 refine wpAny_bind (wpAny_pure (wpAny_bind (wpAny_dictEntries h1 h2 ?_)))
 rw [if_neg (fun z=>by simp at z)]
 refine wpAny_bind (wpAny_pure (wpAny_bind (wpAny_dictEpoch h1 h2 ?_)))
 rw [if_neg (fun z=>by simp at z)]
 refine wpAny_pure ?_
 simp only [show ¬ (i:Int) < 0 from by lia,if_false,Int.toNat_natCast,Array.getElem?_eq_none ge]
 refine wpAny_bind (wpAny_bind (first_name T (wpAny_pure ?_)))
 show wpAny _ _ (setField (.ref it) 0 .none >>= fun _=>_) _ _ s
 refine wpAny_bind (wpAny_setField g1 g3 (by simp) ?_)
 show wpAny _ _ (newExc (.type "StopIteration") [] >>= fun _=>_) _ _ _
 refine wpAny_bind ?_
 simp only [newExc,newTuple]
 refine wpAny_bind (wpAny_newObj_type (wpAny_bind (m:=firstArgMember _ _) (wpAny_of_eq (a:=Value.none) (by first | rfl | (simp only [firstArgMember]; rfl)) (wpAny_newObj_type ?_ (by size_fits)))) (by size_fits))
 simp only [raiseNew]
 refine (wpAny_bind (wpAny_handled ?_))
 rw [(show A.in1.handled=none from hh)]
 refine (wpAny_bind (wpAny_pure (wpAny_throw ?_)))
 exact wpAny_bind (wpAny_isInstance (T:="StopIteration") (b:=true) ⟨_,Heap.get?_push_size _ rfl,rfl⟩ isSubtype_stop (wpAny_pure (fin _ (((Heap.SameBut.update ..).extBut.push _).push _))))
theorem walks_raw (hh:A.handled=none) (I d:Addr) (ne:d≠I) (es:Array DictEntry) (ep:Nat) :
  Walks prog w A I [I,d] [I] es.size (fun i v=>es[i]?.map (·.key)=some v) (fun i h=>h.IsKeyIter I d i es.size ep∧RawD h d es ep) where
 sub:=fun b hb=>by
  cases List.mem_singleton.mp hb
  exact List.mem_cons_self ..
 frame:=fun _ _ _ st k=>⟨st.1.at fun o e=>k I (List.mem_cons_self ..) o e,st.2.keep fun o e=>k d (by simp) o e⟩
 item:=fun i s Q E lt st fin=>by
  have e:es[i]?.map (·.key)=some es[i].key:=by rw [Array.getElem?_eq_getElem lt]; rfl
  exact raw_item st.1 st.2 e fun h' K' sb=>fin _ h' s.toks e ⟨K',st.2.keep fun o z=>sb.extBut d o ne z⟩ fun b o nb z=>sb.extBut b o (fun y=>nb (by simp [y])) z
 done:=fun s Q E st fin=>raw_end hh st.1 st.2 (Nat.le_refl _) fun h' x=>fin h' s.toks fun b o nb z=>x b o (fun y=>nb (by simp [y])) z
 self:=fun _ _ _ _ st q=>wpAny_pyIter_keyiter st.1 q
theorem src_raw (no:(d == sysModules)=false):PySem.W.KdlSrc prog w "dict" d d es.size (fun i v=>es[i]?.map (·.key)=some v) (fun h=>RawD h d es ep) where
 type:=fun _ x=>x.typeIs
 there:=fun _ x=>let ⟨_,e,_⟩:=x; ⟨Heap.lt_size e,Heap.lt_size e⟩
 keep:=fun _ _ x k=>x.keep fun o e=>k d (.inl rfl) o e
 notList:=by decide
 notTuple:=by decide
 hint:=fun _ _ _ _ x q=>PySem.W.kdl_hint_dict x.typeIs q
 iter:=fun _ _ hh x=>⟨_,_,(fun _ _ q=>raw_iter no x q),walks_raw hh _ d (let ⟨_,e,_⟩:=x; Nat.ne_of_lt (Heap.lt_size e)) es ep,⟨⟨_,Heap.get?_push_size _ rfl,rfl,rfl⟩,x.keep fun _ e=>Heap.get?_push_of_some _ e⟩⟩
end
end PySem
namespace L2
open PySem PySem.Spec PyProof.Rows
section
variable {X:Cx}
theorem paired_at {α β:Type} {F:α→β→Prop}:∀ {l:List α} {m:List β} {i:Nat} {b:β},Paired F l m→m[i]?=some b→∃ a,l[i]?=some a∧F a b
 | _,_,_,_,.nil,e=>by simp at e
 | _,_,0,_,.cons h _,e=>by
  have e':=Option.some.inj e
  subst e'
  exact ⟨_,rfl,h⟩
 | _,_,i+1,b,.cons _ t,e=>by
  obtain ⟨a,h1,h2⟩:=paired_at (i:=i) (b:=b) t (by simpa using e)
  exact ⟨a,by simpa using h1,h2⟩
theorem dt_raw {P:Program} {w:World} {H:Hp} {h:Heap} {a:Addr} {kvs:List (List Key × V)} (ok:HOk P w H h) (e:Rd H a (.dT kvs)):kvs.length≤sizeLine∧(a == sysModules)=false∧∃ es ep,RawD h a es ep∧es.size=kvs.length ∧
  ∀ (i:Nat) (u:Value),es[i]?.map (·.key)=some u→∃ (b:Addr) (k:List Key),u=.ref b∧kvs[i]?.map (·.1)=some k∧H b=some (.tup (k.map kV)):=by
 obtain ⟨z,y,xs,r,o,es,ep,h1,h2,h3,h4,_⟩:=dt_rd ok e
 have hl:es.size=xs.length:=by rw [← Array.length_toList,h4,List.length_map]
 refine ⟨z,y,es,ep,⟨o,h1,h2,h3⟩,by rw [hl,← Paired.length r],fun i u q=>?_⟩
 have ei:es[i]?=(xs[i]?).map (entryOfKey (tupleKind (mixKind P w))):=by rw [← Array.getElem?_toList,h4,List.getElem?_map]
 rw [ei] at q
 cases hx:xs[i]? with
 | none=>rw [hx] at q; cases q
 | some p =>
  rw [hx] at q
  have eu:Value.ref p.2.1=u:=Option.some.inj q
  obtain ⟨kv,hkv,e1,e2,_⟩:=paired_at r hx
  exact ⟨p.2.1,kv.1,eu.symm,by rw [hkv]; rfl,by rw [e1] at e2 ⊢; exact e2⟩
theorem call_list_dT (hh:X.A.handled=none):CallR X (.type "list") (fun xs H Q=>∃ a kvs,xs=[.ref a]∧Rd H a (.dT kvs)∧∀ (l:Addr) (bs:List Addr),H l=none→bs.length=kvs.length →
  (∀ (i:Nat) (b:Addr),bs[i]?=some b→∃ k,kvs[i]?.map (·.1)=some k∧H b=some (.tup (k.map kV)))→Q (.ref l) (upd H l (.lst (bs.map V.ref)))):=by
 intro pins s σ H xs us Q I r h
 obtain ⟨a,kvs,rfl,e,q⟩:=h
 obtain ⟨u,rfl,ru⟩:=vals1 r
 cases ru
 obtain ⟨z,no,es,ep,raw,hs,hk⟩:=dt_raw I.hok e
 refine PySem.W.kdl_call (src_raw (ep:=ep) (es:=es) no) hh raw (by rw [hs]; exact z) fun h' tk acc c keep new its=>?_
 have refs:∀ vs:List Value,(∀ v∈vs,∃ b,v=Value.ref b)→∃ bs:List Addr,vs=bs.map Value.ref:=fun vs=>by
  induction vs with
  | nil=>exact fun _=>⟨[],rfl⟩
  | cons v vs ih =>
   intro hv
   obtain ⟨b,rfl⟩:=hv v (List.mem_cons_self ..)
   obtain ⟨bs,rfl⟩:=ih fun y hy=>hv y (List.mem_cons_of_mem _ hy)
   exact ⟨b :: bs,rfl⟩
 obtain ⟨hsz,hP⟩:=its
 obtain ⟨bs,hbs⟩:=refs acc.toList fun v hv=>by
  obtain ⟨j,hj⟩:=List.mem_iff_getElem?.mp hv
  obtain ⟨b,k,eb,_⟩:=hk j v (hP j v (by simpa using hj))
  exact ⟨b,eb⟩
 have hacc:acc=(bs.map Value.ref).toArray:=by rw [← hbs]
 have hlen:bs.length=kvs.length:=by
  have:acc.size=bs.length:=by rw [hacc]; simp
  lia
 have rel:∀ bs:List Addr,Vals (bs.map V.ref) (bs.map Value.ref):=fun bs=>by
  induction bs with
  | nil=>exact .nil
  | cons b bs ih=>exact .cons rfl ih
 refine ⟨.ref s.heap.objs.size,upd H s.heap.objs.size (.lst (bs.map V.ref)),I.laid (t':=tk) keep (Nat.le_refl _) ⟨by rw [List.length_map]; lia,bs.map Value.ref,c,rel bs,by rw [← hacc]; exact new⟩,rfl,q _ bs (I.hok.fresh (Nat.le_refl _)) hlen fun i b hb=>?_⟩
 obtain ⟨b',k,eb,h1,h2⟩:=hk i (.ref b) (hP i (.ref b) (by rw [hacc]; simp [hb]))
 cases eb
 exact ⟨k,h1,h2⟩
end
section
variable {X:Cx} {K:PySem.W.Frag} {B H:Hp}
theorem Stp.tups (s:Same B H) (bs:List Addr) (h:∀ b∈bs,∃ xs,H b=some (.tup xs)):Stp B H (fun a=>if a∈bs then H a else B a) H:=by
 refine ⟨fun a o e=>?_,Same.refl _,fun a o e=>?_,fun a z=>?_⟩
 ·show (if a∈bs then H a else B a)=some o
  split
  ·exact s _ _ e
  ·exact e
 ·have e':(if a∈bs then H a else B a)=some o:=e
  split at e'
  ·exact e'
  ·exact s _ _ e'
 ·by_cases q:a∈bs
  ·exact .inr (.inr (h a q))
  ·have z':(if a∈bs then H a else B a)≠none:=z
   rw [if_neg q] at z'
   exact .inl z'
theorem reps_ways:∀ {ks:List (List Str)} {bs:List Addr},bs.length=ks.length→(∀ (i:Nat) (b:Addr) (k:List Str),bs[i]?=some b→ks[i]?=some k→B b=some (.tup (k.map V.str)))→Reps K B (ks.map fun w=>.tup (w.map D.str)) (bs.map V.ref)
 | [],[],_,_=>.nil
 | [],_ :: _,h,_=>by simp at h
 | _ :: _,[],h,_=>by simp at h
 | k :: ks,b :: bs,h,q=>by
  refine .cons ?_ (reps_ways (by simpa using h) fun i b' k' h1 h2=>q (i+1) b' k' (by simpa using h1) (by simpa using h2))
  unfold Rep
  exact ⟨b,_,rfl,.inl (q 0 b k rfl rfl),by
   have:∀ ss:List Str,Reps K B (ss.map D.str) (ss.map V.str):=fun ss=>by
    induction ss with
    | nil=>exact .nil
    | cons s ss ih=>exact .cons (rep_dV (d:=.str s) rfl) ih
   exact this k⟩
def vListD (rx:R) (Q:R→Prop):Prop:=match rx.d with
 | .dT ks _=>Q (.own (.lst (ks.map fun w=>.tup (w.map D.str))))
 | _=>False
theorem vf_listD (hh:X.A.handled=none):VF X (.type "list") vListD:=by
 refine ⟨_,call_list_dT hh,fun B H x rx Q Qd s px h k=>?_⟩
 unfold vListD at h
 split at h
 ·rename_i ks ds e1
  obtain ⟨ad,kvs,rfl,hd,hk,hr⟩:=px.dT s e1
  refine ⟨ad,kvs,rfl,hd,fun l bs hl hlen hb=>?_⟩
  have hkl:ks.length=kvs.length:=by simpa using (congrArg List.length hk).symm
  have key:∀ (i:Nat) (b:Addr) (k:List Str),bs[i]?=some b→ks[i]?=some k→H b=some (.tup (k.map V.str)):=fun i b k h1 h2=>by
   obtain ⟨k',h3,h4⟩:=hb i b h1
   have e:(kvs.map (·.1))[i]?=(ks.map wK)[i]?:=by rw [hk]
   rw [List.getElem?_map,List.getElem?_map,h3,h2] at e
   cases e
   rw [wK_kV] at h4
   exact h4
  have T:=Stp.tups s bs fun b hm=>by
   obtain ⟨i,hi⟩:=List.mem_iff_getElem?.mp hm
   obtain ⟨k',_,h4⟩:=hb i b hi
   exact ⟨_,h4⟩
  have hlB:(fun a=>if a∈bs then H a else B a) l=none:=by
   show (if l∈bs then H l else B l)=none
   split
   ·exact hl
   ·exact s.free hl
  refine k (.own _) _ _ _ (T.trans (.grow T.s (same_upd hl (.lst (bs.map V.ref))))) ⟨l,rfl,hl,hlB,own_newL (reps_ways (by lia) fun i b w h1 h2=>?_)⟩ h
  show (if b∈bs then H b else B b)=_
  rw [if_pos (List.mem_of_getElem? h1)]
  exact key i b w h1 h2
 ·exact h.elim
end
end L2
namespace L2
open PySem PySem.Spec PyProof.Rows
section
variable {X:Cx} {EX:St→XK} {K:PySem.W.Frag} {B H B' H' H0 B0:Hp} {e a:Expr} {es:List Expr} {te ta:TV} {tA:TVA} {pos p np cpos:Pos} {x:Str} {t:TVS} {τ:VSt} {σ:St}
theorem clsOf.inj {n:Str} {C C':Addr} (h:clsOf K n C) (h':clsOf K n C'):C=C':=by
 unfold clsOf at h h'
 rw [h] at h'
 cases h'
 rfl
theorem ve_calX {k:Nat} {ps:List Str} {g:DP} (C:CalX X.prog X.w X.K X.mg X.base k x ps (spOf X.K g)) (o:Out X EX) (hr:Room k X.A) (hg:Gl X x) (ha:VA X EX (e :: es) tA) (hx:X.ex=[]:=by rfl) (hp:(e :: es).all plainE=true:=by rfl) (hdb:(x == ("__debug__" : Str))=false:=by decide) :
  VE X EX (.Call (.Name x p) (e :: es) [] pos) (vCall g tA) :=
 let ⟨_,a1,a2⟩:=ha.u; ⟨_,qe_calX C o hr hg a1 hx hp hdb,fun H0 B H τ σ Q Qd s S h xc k=>a2 H0 B H τ σ _ _ s S h xc fun ds vs B1 H1 p q h1 =>
  ⟨ds,B1,Qd,p.s,by rw [List.append_nil]; exact q,h1,fun n C B' H' hq p2 c=>xc n C B' H' (p.trans p2) c hq,fun r v B2 H2 hq p2 q2=>k r v B2 H2 (p.trans p2) (q2.back p.h) hq⟩⟩
theorem ve_calN {k:Nat} {ps:List Str} {g:DP} (C:CalX X.prog X.w X.K X.mg X.base k x ps (spOf X.K g)) (hr:Room k X.A) (hg:Gl X x) (ha:VA X EX (e :: es) tA) (hp:(e :: es).all plainE=true:=by rfl) (hdb:(x == ("__debug__" : Str))=false:=by decide) :
  VE X EX (.Call (.Name x p) (e :: es) [] pos) (vCallN g tA) :=
 let ⟨_,a1,a2⟩:=ha.u; ⟨_,qe_calN C hr hg a1 hp hdb,fun H0 B H τ σ Q Qd s S h xc k=>a2 H0 B H τ σ _ _ s S h xc fun ds vs B1 H1 p q h1 =>
  ⟨ds,B1,_,p.s,by rw [List.append_nil]; exact q,h1,fun n C B' H' hq _ _=>hq.elim,fun r v B2 H2 hq p2 q2=>k r v B2 H2 (p.trans p2) (q2.back p.h) (q2.ok hq)⟩⟩
def XCls (K:PySem.W.Frag) (mg:Str→Option Value) (n:Str):Prop:=∃ C,mg n=some (.ref C)∧clsOf K n C∧OwnX K C
def vRaise (n:Str) (tA:TVA):TVS:=fun Dv τ=>tA τ fun a=>exI τ Dv a fun ds=>ds.length≤sizeLine∧Dv.xc τ n
theorem vs_raise (u:XCls X.K X.mg x) (hg:Gl X x) (hc:X.calm=true) (o:Out X EX) (ha:VA X EX (e :: es) tA) (hx:X.ex=[]:=by rfl) (hp:(e :: es).all plainE=true:=by rfl) (hdb:(x == ("__debug__" : Str))=false:=by decide) :
  VS X EX (.Raise (some (.Call (.Name x np) (e :: es) [] cpos)) none pos) (vRaise x tA):=by
 obtain ⟨C,hm,hk,q⟩:=u
 obtain ⟨_,a1,a2⟩:=ha.u
 exact ⟨_,qs_raise q hm hg hc o a1 hx hp hdb,fun B0 H0 B H τ σ Dv Dh p S h E=>a2 H0 B H τ σ _ _ p.s S h (E.raised p S) fun ds vs B1 H1 p1 q1 h1 =>
  ⟨by rw [← q1.length]; exact h1.1,E.xc B1 H1 τ σ x C (p.trans p1) (S.step p1) hk h1.2⟩⟩
def canS (K:PySem.W.Frag) (EX:St→XK) (t:TVS):TS:=fun Dh σ H=>∃ B0 H0 B τ Dv,Stp B0 H0 B H∧Slots K H0 B H τ σ∧t Dv τ∧EndsOk K EX B0 H0 Dv Dh
theorem VSs.can {st:List Stmt} (h:VSs X EX st t):QSs X st (canS X.K EX t):=let ⟨_,a1,a2⟩:=h.u; ⟨fun pins s σ H D I ⟨B0,H0,B,τ,Dv,q1,q2,q3,q4⟩=>a1.u pins s σ H D I (a2 B0 H0 B H τ σ Dv D q1 q2 q3 q4)⟩
abbrev THD:=Str→TVS
def RfH (K:PySem.W.Frag) (EX:St→XK) (th:TH) (td:THD):Prop:=∀ (B0 H0 B H:Hp) (τ:VSt) (σ:St) (n:Str) (C:Addr) (Dv:VEnds) (Dh:Ends),Stp B0 H0 B H→Slots K H0 B H τ σ→clsOf K n C→td n Dv τ→EndsOk K EX B0 H0 Dv Dh→th (.ref C) Dh σ H
structure VH (X:Cx) (EX:St→XK) (hs:List ExceptHandler) (td:THD):Prop where
 u:∃ th,QH X hs th∧RfH X.K EX th td
def vTry (t:TVS) (td:THD):TVS:=fun Dv τ=>t { nx:=Dv.nx,rt:=Dv.rt,bk:=Dv.bk,ct:=Dv.ct,xc:=fun τ' n=>td n Dv τ' } τ
theorem vs_try {body:List Stmt} {h0:ExceptHandler} {rest:List ExceptHandler} {td:THD} (hb:∀ pn E EX',PassesOwn (model X.prog X.w) X.A X.env E→Out (X.tryB pn E) EX'→VSs (X.tryB pn E) EX' body t) (hh:VH X EX (h0 :: rest) td) (hst:X.stack=X.env :: X.outer:=by rfl)
  (hfr:X.env.frame=some X.env.locals:=by rfl) (hx:X.ex=[]:=by rfl):VS X EX (.Try body (h0 :: rest) [] [] pos) (vTry t td) :=
 let ⟨_,a1,a2⟩:=hh.u; ⟨_,qs_try (tb:=fun EX'=>canS X.K EX' t) (fun pn E EX' po o=>(hb pn E EX' po o).can) a1 hst hfr hx,fun B0 H0 B H τ σ Dv Dh p S h E =>
  ⟨B0,H0,B,τ,_,p,S,h,E.nx,E.rt,E.bk,E.ct,fun B1 H1 τ1 σ1 n C q1 q2 q3 q4=>a2 B0 H0 B1 H1 τ1 σ1 n C Dv Dh q1 q2 q3 q4 E,fun _ _ _ _ _ _ _ _ _ _ h=>h.elim⟩⟩
def vhNil:THD:=fun _ _ _=>False
theorem vh_nil:VH X EX [] vhNil:=⟨_,qh_nil,fun _ _ _ _ _ _ _ _ _ _ _ _ _ h=>h.elim⟩
def Takes (K:PySem.W.Frag) (mg:Str→Option Value) (x:Str) (yes no:List Str):Prop:=∃ c,mg x=some c∧(∀ n∈yes,∀ C,clsOf K n C→PySem.W.exmOne K (.ref C) c=some true)∧∀ n∈no,∀ C,clsOf K n C→PySem.W.exmOne K (.ref C) c=some false
def VEnds.calm (Dv:VEnds):VEnds:={ nx:=Dv.nx,rt:=Dv.rt,bk:=Dv.bk,ct:=Dv.ct }
theorem EndsOk.calm {Dv:VEnds} {Dh:Ends} (E:EndsOk K EX B0 H0 Dv Dh):EndsOk K EX0 B0 H0 Dv.calm Dh:=⟨E.nx,E.rt,E.bk,E.ct,fun _ _ _ _ _ _ _ _ _ h=>h.elim,fun _ _ _ _ _ _ _ _ _ _ h=>h.elim⟩
def vhCons (yes no:List Str) (t:TVS) (td:THD):THD:=fun n Dv τ=>(n∈yes∧t Dv.calm τ)∨(n∈no∧td n Dv τ)
theorem vh_cons {b0:Stmt} {suite:List Stmt} {rest:List ExceptHandler} {td:THD} {yes no:List Str} (u:Takes X.K X.mg x yes no) (hg:Gl X x) (hs:∀ e pn E,VSs (X.hand e pn E) EX0 (b0 :: suite) t) (hr:VH X EX rest td) (hdb:(x == ("__debug__" : Str))=false:=by decide) :
  VH X EX (.ExceptHandler (some (.Name x np)) none (b0 :: suite) pos :: rest) (vhCons yes no t td):=by
 obtain ⟨c,hm,hy,hn⟩:=u
 obtain ⟨_,a1,a2⟩:=hr.u
 refine ⟨_,qh_cons (t:=canS X.K EX0 t) hm hg (fun e pn E=>(hs e pn E).can) a1 hdb,fun B0 H0 B H τ σ n C Dv Dh p S hc h E=>?_⟩
 rcases h with ⟨h1,h2⟩ | ⟨h1,h2⟩
 ·exact ⟨true,hy n h1 C hc,iteT ⟨B0,H0,B,τ,_,p,S,h2,E.calm⟩⟩
 ·exact ⟨false,hn n h1 C hc,iteF (a2 B0 H0 B H τ σ n C Dv Dh p S hc h2 E)⟩
def VEnds.wiped (Dv:VEnds):VEnds:={ nx:=fun τ=>Dv.nx (List.replicate τ.length none),rt:=Dv.rt,bk:=fun τ=>Dv.bk (List.replicate τ.length none),ct:=fun τ=>Dv.ct (List.replicate τ.length none) }
theorem Fun.okVX {P:Program} {w:World} {mg:Str→Option Value} {base:Heap} {x qual:Str} {st:Stmt} {f:Addr} {fd:FuncData} {N ps:List Str} {k:Nat} {g:DP} (F:Fun K x qual st f fd) (S:FnScope N ps (defScope st)) (len:∀ ds Q,g ds Q→ds.length=ps.length)
  (hbody:∀ (cdv:Value) (A:Around) (outer:List Env) (s:Shared) (H:Hp) (E:XK),Room k (A.deeper (envOfC qual (defScope st) s.heap.objs.size f cdv))→Out (cxOf (CXR P w) P w K mg base N qual (defScope st) f cdv A outer s H E) (fun _=>E) →
   ∃ t,VSs (cxOf (CXR P w) P w K mg base N qual (defScope st) f cdv A outer s H E) (fun _=>E) (defBody st) t∧∀ ds Q,g ds Q→t { nx:=fun _=>Q (.val .non),rt:=Q,xc:=fun _ n=>Q (.exc n) } (startD N ds)):FnOk P w K mg base (CXR P w) (k+1) f fd ps (spOf K g):=by
 refine F.okX S (fun vs H Q E h=>?_) (fun cdv A outer s H vs Q E hr h o=>?_)
 ·obtain ⟨ds,B,Qd,_,rp,hg,_,_⟩:=h
  rw [← rp.length]
  exact len ds Qd hg
 ·obtain ⟨ds,B,Qd,sm,rp,hg,kx,kk⟩:=h
  obtain ⟨t,⟨ts,q1,q2⟩,ht⟩:=hbody cdv A outer s H E hr o
  refine ⟨ts,q1,q2 B H B H (startD N ds) (start N vs) _ _ (.refl sm) ?_ (ht ds Qd hg) ⟨fun B' H' τ σ p S h=>kk (.val .non) .non B' H' h p (repV rfl),fun r v B' H' p hr h=>kk r v B' H' h p hr,fun _ _ _ _ _ _ h=>h.elim,fun _ _ _ _ _ _ h=>h.elim,fun B' H' τ σ n C p S c h=>kx n C B' H' h p c,fun _ _ _ _ _ _ _ _ _ _ h=>h.elim⟩⟩
  unfold startD start
  rw [rp.length]
  exact (reps_slots rp).more _
theorem cl_nil {P:Addr→Prop}:∀ n∈([]:List Str),∀ C,clsOf K n C→P C:=fun _ h=>by cases h
theorem cl_cons {P:Addr→Prop} {m:Str} {E:Addr} {l:List Str} (k:clsOf K m E) (q:P E) (r:∀ n∈l,∀ C,clsOf K n C→P C):∀ n∈m :: l,∀ C,clsOf K n C→P C:=fun n h C c=>by
 rcases List.mem_cons.mp h with rfl | h
 ·cases clsOf.inj c k
  exact q
 ·exact r n h C c
end
end L2
namespace L2
open PySem PySem.Spec PyProof.Rows Builtin.Str
section
variable {X:Cx}
theorem vals_strs:∀ (l:List (Str × Tok)),Vals ((l.map (·.1)).map V.str) (strValues l)
 | []=>.nil
 | p :: l=>.cons ⟨p.2,rfl⟩ (vals_strs l)
theorem mt_startswith:MtM X "str.startswith" (fun x vs H Q=>∃ a b,x=.str a∧vs=[.str b]∧Q (.bl (Txt.startswith a b)) H):=by
 intro pins s σ H x vs v us Q I rx rv h
 obtain ⟨a,b,rfl,rfl,q⟩:=h
 obtain ⟨t,rfl⟩:=rx
 obtain ⟨u,rfl,⟨t',rfl⟩⟩:=rv.one
 exact SC.startswith ⟨.bl _,H,I,rfl,q⟩
theorem mt_split:MtM X "str.split" (fun x vs H Q=>∃ a b,x=.str a∧vs=[.str b]∧(b.length == 0)=false∧a.length≤sizeLine∧(Txt.split a b).length≤sizeLine∧∀ l,H l=none→Q (.ref l) (upd H l (.lst ((Txt.split a b).map V.str)))):=by
 intro pins s σ H x vs v us Q I rx rv h
 obtain ⟨a,b,rfl,rfl,hb,ha,hz,q⟩:=h
 obtain ⟨t,rfl⟩:=rx
 obtain ⟨u,rfl,⟨t',rfl⟩⟩:=rv.one
 cases h1:(decide (a.length < b.length) || decide (strKind a < strKind b))
 ·cases hf:(occurrences a b 0 a.length (a.length+1)).isEmpty
  ·have e:Txt.split a b=partsBetween a (occurrences a b 0 a.length (a.length+1)) b.length:=by
    unfold Txt.split
    rw [h1,hf,if_neg Bool.false_ne_true,if_neg Bool.false_ne_true]
   refine call_meets F.slot_str_split (typeIs_str _ _ _) F.entry_str_split (F.args_str_split_2 _ _) (meets_str_split_sep a b t t' h1 hb hf ha (by rw [← e]; exact hz)) ?_
   rw [strsFrom_eq,← e]
   have r:=vals_strs (numbered s.toks (Txt.split a b))
   rw [numbered_texts] at r
   exact ⟨.ref _,_,I.lnew (t':=_) r (by rw [List.length_map]; exact hz),rfl,q _ I.fresh⟩
  ·have e:Txt.split a b=[a]:=by
    unfold Txt.split
    rw [h1,hf,if_neg Bool.false_ne_true,if_pos rfl]
   rw [e] at q
   exact call_meets F.slot_str_split (typeIs_str _ _ _) F.entry_str_split (F.args_str_split_2 _ _) (meets_str_split_not_found a b t t' h1 hb hf) ⟨.ref _,_,I.lnew (t':=s.toks) (ys:=[.str a]) (its:=[.str a t]) (.cons ⟨t,rfl⟩ .nil) (show 1≤sizeLine by decide),rfl,q _ I.fresh⟩
 ·have e:Txt.split a b=[a]:=by
   unfold Txt.split
   rw [h1,if_pos rfl]
  rw [e] at q
  exact call_meets F.slot_str_split (typeIs_str _ _ _) F.entry_str_split (F.args_str_split_2 _ _) (meets_str_split_cannot_occur a b t t' h1) ⟨.ref _,_,I.lnew (t':=s.toks) (ys:=[.str a]) (its:=[.str a t]) (.cons ⟨t,rfl⟩ .nil) (show 1≤sizeLine by decide),rfl,q _ I.fresh⟩
end
section
variable {X:Cx} {EX:St→XK} {o e:Expr} {to te:TV} {apos cpos:Pos}
def vStarts (to te:TV):TV:=fun τ Q=>to τ fun rs=>match rs.d with
 | .str a=>te τ fun rt=>∃ b,rt.d=.str b∧Q (.val (.bl (Txt.startswith a b)))
 | _=>False
theorem ve_starts (ho:VE X EX o to) (h:VE X EX e te) (hp:plainE e=true:=by rfl) (hbase:attributeBase o "startswith" X.env (eval o X.env)=eval o X.env:=by rfl) (hline:(apos.endLine == cpos.line)=true:=by rfl) :
  VE X EX (.Call (.Attribute o "startswith" apos) [e] [] cpos) (vStarts to te) :=
 let ⟨_,o1,o2⟩:=ho.u; let ⟨_,a1,a2⟩:=h.u; ⟨_,qbm PySem.F.plainAttrs_str PySem.F.slot_str_startswith PySem.F.type_str_startswith mt_startswith o1 (qac a1 qa_nil hp) (by simp [hp]) rfl hbase hline,fun H0 B H τ σ Q Qd s S h xc k =>
  o2 H0 B H τ σ _ _ s S h (xno fun _ q=>q) fun rs vs B1 H1 p1 q1 h1=>by
   split at h1
   ·rename_i a es
    cases q1.pk.scal (z:=.str a) (by rw [es]; rfl)
    refine ⟨rfl,a2 H0 B1 H1 τ σ _ _ p1.s (S.step p1) h1 (xno fun _ ⟨_,q,_⟩=>by cases q) fun rl vl B2 H2 p2 q2 h2=>?_⟩
    obtain ⟨b,el,hq⟩:=h2
    cases q2.pk.scal (z:=.str b) (by rw [el]; rfl)
    exact ⟨a,b,rfl,rfl,k _ _ B2 H2 (p1.trans p2) (repV rfl) hq⟩
   ·exact h1.elim⟩
def vSplit (to te:TV):TV:=fun τ Q=>to τ fun rs=>match rs.d with
 | .str a=>te τ fun rt=>∃ b,rt.d=.str b∧(b.length == 0)=false∧a.length≤sizeLine∧(Txt.split a b).length≤sizeLine∧Q (.own (.lst ((Txt.split a b).map D.str)))
 | _=>False
theorem reps_strs {K:PySem.W.Frag} {B:Hp}:∀ ss:List Str,Reps K B (ss.map D.str) (ss.map V.str)
 | []=>.nil
 | s :: ss=>.cons (rep_dV (d:=.str s) rfl) (reps_strs ss)
theorem ve_split (ho:VE X EX o to) (h:VE X EX e te) (hp:plainE e=true:=by rfl) (hbase:attributeBase o "split" X.env (eval o X.env)=eval o X.env:=by rfl) (hline:(apos.endLine == cpos.line)=true:=by rfl) :
  VE X EX (.Call (.Attribute o "split" apos) [e] [] cpos) (vSplit to te) :=
 let ⟨_,o1,o2⟩:=ho.u; let ⟨_,a1,a2⟩:=h.u; ⟨_,qbm PySem.F.plainAttrs_str PySem.F.slot_str_split PySem.F.type_str_split mt_split o1 (qac a1 qa_nil hp) (by simp [hp]) rfl hbase hline,fun H0 B H τ σ Q Qd s S h xc k =>
  o2 H0 B H τ σ _ _ s S h (xno fun _ q=>q) fun rs vs B1 H1 p1 q1 h1=>by
   split at h1
   ·rename_i a es
    cases q1.pk.scal (z:=.str a) (by rw [es]; rfl)
    refine ⟨rfl,a2 H0 B1 H1 τ σ _ _ p1.s (S.step p1) h1 (xno fun _ ⟨_,q,_⟩=>by cases q) fun rl vl B2 H2 p2 q2 h2=>?_⟩
    obtain ⟨b,el,hb,ha,hz,hq⟩:=h2
    cases q2.pk.scal (z:=.str b) (by rw [el]; rfl)
    have pp:=p1.trans p2
    exact ⟨a,b,rfl,rfl,hb,ha,hz,fun l hl=>k (.own _) _ B2 _ (pp.trans (.grow p2.s (same_upd hl _))) ⟨l,rfl,pp.h.free hl,p2.s.free hl,own_newL (reps_strs _)⟩ hq⟩
   ·exact h1.elim⟩
end
def sp (c:Nat):List Nat→List (List Nat)
 | []=>[[]]
 | x :: xs=>if x=c then [] :: sp c xs else match sp c xs with
  | []=>[[x]]
  | p :: ps=>(x :: p) :: ps
theorem sp_ne (c:Nat):∀ xs,sp c xs≠[]
 | []=>by unfold sp; exact fun h=>by cases h
 | x :: xs=>by
  unfold sp
  split
  ·exact fun h=>by cases h
  ·split <;> exact fun h=>by cases h
theorem sp_free (c:Nat):∀ xs:List Nat,c∉xs→sp c xs=[xs]
 | [],_=>rfl
 | x :: xs,h=>by
  unfold sp
  rw [if_neg (fun e=>h (by simp [e])),sp_free c xs fun z=>h (List.mem_cons_of_mem _ z)]
theorem sp_cut (c:Nat):∀ (pre post:List Nat),c∉pre→sp c (pre++c :: post)=pre :: sp c post
 | [],post,_=>by
  show sp c (c :: post)=_
  rw [sp,if_pos rfl]
 | x :: pre,post,h=>by
  show sp c (x :: (pre++c :: post))=_
  rw [sp,if_neg (fun e=>h (by simp [e])),sp_cut c pre post fun z=>h (List.mem_cons_of_mem _ z)]
theorem occ_one (s:Str) (c n lim:Nat) (hn:s.length=n):∀ (l:List Nat) (a:Nat) (st:Array Nat × Nat),l=List.range' a (n+1 - a)→a≤n+1→st.2≤a→st.1.size+(n+1 - a)≤lim →
  (forIn l st (StrLaws.occBody s ⟨#[c]⟩ n lim)).run.fst.toList=st.1.toList++((List.range' a (n - a)).filter fun i=>s.cps[i]? == some c)
 | [],a,st,hl,ha,h2,h3=>by
  have e:n+1 - a=0:=by simpa using congrArg List.length hl.symm
  have e2:n - a=0:=by lia
  rw [e2]
  simp
 | x :: l,a,st,hl,ha,h2,h3=>by
  have ea:n+1 - a=(n - a)+1:=by
   have:=congrArg List.length hl
   simp at this
   lia
  rw [ea,List.range'_succ] at hl
  injection hl with e1 e2
  subst e1
  rw [List.forIn_cons]
  have el:l=List.range' (x+1) (n+1 - (x+1)):=by rw [e2]; congr 1; lia
  have one:(⟨#[c]⟩:Str).length=1:=rfl
  by_cases hx:x < n
  ·have er:List.range' x (n - x)=x :: List.range' (x+1) (n - (x+1)):=by
    have:n - x=(n - (x+1))+1:=by lia
    rw [this,List.range'_succ]
   have hs:x < s.cps.size:=by show x < s.length; lia
   have sub:subAt s ⟨#[c]⟩ x=(s.cps[x]? == some c):=by
    unfold subAt
    rw [one]
    have:s.cps.extract x (x+1)=#[s.cps[x]]:=by
     apply Array.ext
     ·simp; lia
     ·intro i h1 h2
      have:i=0:=by simp at h2; lia
      subst this
      simp
    rw [this,Array.getElem?_eq_getElem hs]
    apply bool_iff
    simp
   rw [er,List.filter_cons]
   unfold StrLaws.occBody
   rw [sub,one]
   by_cases hc:(s.cps[x]? == some c)=true
   ·rw [if_pos ⟨⟨⟨by lia,h2⟩,by lia⟩,hc⟩,if_pos hc]
    show (forIn l (st.1.push x,x+1) (StrLaws.occBody s ⟨#[c]⟩ n lim)).run.fst.toList=_
    rw [occ_one s c n lim hn l (x+1) (st.1.push x,x+1) el (by lia) (Nat.le_refl _) (by simp; lia)]
    simp
   ·rw [if_neg (fun z=>hc z.2),if_neg hc]
    show (forIn l (st.1,st.2) (StrLaws.occBody s ⟨#[c]⟩ n lim)).run.fst.toList=_
    rw [occ_one s c n lim hn l (x+1) (st.1,st.2) el (by lia) (by show st.2≤x+1; lia) (by show st.1.size+_≤lim; lia)]
  ·have ex:x=n:=by lia
   have er:List.range' x (n - x)=[]:=by rw [show n - x=0 by lia]; rfl
   rw [er]
   unfold StrLaws.occBody
   rw [one,if_neg (fun z=>by have:=z.1.2; lia)]
   show (forIn l (st.1,st.2) (StrLaws.occBody s ⟨#[c]⟩ n lim)).run.fst.toList=_
   rw [occ_one s c n lim hn l (x+1) (st.1,st.2) el (by lia) (by show st.2≤x+1; lia) (by show st.1.size+_≤lim; lia)]
   rw [show n - (x+1)=0 by lia]
   rfl
theorem occ_all (s:Str) (c:Nat):occurrences s ⟨#[c]⟩ 0 s.length (s.length+1)=(List.range' 0 s.length).filter fun i=>s.cps[i]? == some c:=by
 rw [StrLaws.occ_eq,occ_one s c s.length (s.length+1) rfl _ 0 (#[],0) rfl (Nat.zero_le _) (Nat.le_refl _) (by simp)]
 simp
theorem sub_list (s:Str) (a k:Nat):(strSub s a k).cps.toList=(s.cps.toList.drop a).take (k - a):=by
 unfold strSub
 simp [Array.toList_extract,List.extract]
theorem parts_sp (s:Str) (c:Nat):∀ (m a:Nat),s.length - a=m→a≤s.length→∀ (b:Nat),b≤a→c∉(s.cps.toList.drop b).take (a - b) →
  (StrLaws.partsFrom s 1 b ((List.range' a m).filter fun i=>s.cps[i]? == some c)).map (·.cps.toList)=sp c (s.cps.toList.drop b)
 | 0,a,hm,ha,b,hb,hf=>by
  have e:a=s.length:=by lia
  have el:s.cps.toList.length=s.length:=rfl
  show [(strSub s b s.length).cps.toList]=_
  rw [sub_list,sp_free]
  ·rw [List.take_of_length_le (by rw [List.length_drop,el]; exact Nat.le_refl _)]
  ·rw [e,List.take_of_length_le (by rw [List.length_drop,el]; exact Nat.le_refl _)] at hf
   exact hf
 | m+1,a,hm,ha,b,hb,hf=>by
  have hs:a < s.cps.toList.length:=by show a < s.length; lia
  have hs':a < s.cps.size:=hs
  have ed:s.cps.toList.drop a=s.cps.toList[a] :: s.cps.toList.drop (a+1):=List.drop_eq_getElem_cons hs
  have eb:s.cps.toList.drop b=(s.cps.toList.drop b).take (a - b)++s.cps.toList.drop a:=by
   have:(s.cps.toList.drop b).drop (a - b)=s.cps.toList.drop a:=by rw [List.drop_drop]; congr 1; lia
   rw [← this,List.take_append_drop]
  have eg:s.cps[a]?=some s.cps.toList[a]:=by rw [Array.getElem?_eq_getElem hs']; rfl
  rw [List.range'_succ,List.filter_cons]
  by_cases hc:s.cps.toList[a]=c
  ·rw [if_pos (by rw [eg,hc]; simp)]
   show (strSub s b a).cps.toList :: (StrLaws.partsFrom s 1 (a+1) _).map (·.cps.toList)=_
   rw [parts_sp s c m (a+1) (by lia) (by lia) (a+1) (Nat.le_refl _) (by simp),sub_list]
   conv=>rhs; rw [eb,ed,hc,sp_cut c _ _ hf]
  ·rw [if_neg (by rw [eg]; simpa using hc)]
   refine parts_sp s c m (a+1) (by lia) (by lia) b (by lia) ?_
   have e2:(s.cps.toList.drop b).take (a+1 - b)=(s.cps.toList.drop b).take (a - b)++[s.cps.toList[a]]:=by
    rw [show a+1 - b=(a - b)+1 by lia,List.take_succ]
    congr 1
    rw [List.getElem?_drop,show b+(a - b)=a by lia,List.getElem?_eq_getElem hs]
    rfl
   rw [e2,List.mem_append]
   rintro (z | z)
   ·exact hf z
   ·exact hc (List.mem_singleton.mp z).symm
theorem kind_one {c:Nat} (h:c < 256):Builtin.Str.strKind (⟨#[c]⟩:Str)=1:=by
 unfold Builtin.Str.strKind
 rw [if_pos (by simpa using h)]
theorem kind_ge (s:Str):1≤Builtin.Str.strKind s:=by
 unfold Builtin.Str.strKind
 repeat' split
 all_goals lia
theorem split_sp (s:Str) {c:Nat} (h:c < 256):(Txt.split s ⟨#[c]⟩).map (·.cps.toList)=sp c s.cps.toList:=by
 have one:(⟨#[c]⟩:Str).length=1:=rfl
 unfold Txt.split
 by_cases h0:s.length=0
 ·rw [if_pos (by rw [one,h0]; rfl)]
  have e:s.cps.toList=[]:=List.eq_nil_of_length_eq_zero h0
  show [s.cps.toList]=_
  rw [e]
  rfl
 ·rw [if_neg (by
   rw [one,kind_one h]
   have:=kind_ge s
   simp
   lia),occ_all]
  have hp:=parts_sp s c s.length 0 (by lia) (Nat.zero_le _) 0 (Nat.le_refl _) (by simp)
  rw [List.drop_zero] at hp
  by_cases he:((List.range' 0 s.length).filter fun i=>s.cps[i]? == some c).isEmpty=true
  ·rw [if_pos he]
   rw [List.isEmpty_iff.mp he] at hp
   rw [← hp]
   show [s.cps.toList]=[(strSub s 0 s.length).cps.toList]
   rw [sub_list,List.drop_zero,List.take_of_length_le (show s.cps.toList.length≤s.length - 0 from Nat.le_refl _)]
  ·rw [if_neg he,one,StrLaws.partsBetween_eq]
   exact hp
theorem rng_one (a b:Nat):sliceRange a b 1=List.range' a (b - a):=by
 unfold sliceRange
 have e:(if (1:Int) > 0 then (if (a:Int) < b then ((b:Int) - a+1 - 1) / 1 else 0) else (if (a:Int) > b then ((a:Int) - b - 1 - 1) / (-1) else 0)).toNat=b - a:=by
  rw [if_pos (by decide)]
  split
  ·rw [Int.ediv_one]; lia
  ·lia
 show (List.range _).map _=_
 rw [e,List.range'_eq_map_range]
 refine List.map_congr_left fun k _=>?_
 lia
theorem ind_cut (l u:Option Int) (n:Nat):strSliceIndices l u 1 n=List.range' (HT.sIx n 0 l) (HT.sIx n n u - HT.sIx n 0 l):=by
 rw [← rng_one]
 unfold strSliceIndices
 have c:∀ (v:Int),max 0 (min (if v < 0 then v+(n:Int) else v) n)=((HT.sIx n 0 (some v):Nat):Int):=fun v=>by
  show _=(((if v < 0 then (v+(n:Int)).toNat else min v.toNat n):Nat):Int)
  split <;> lia
 have c2:∀ (v:Int),HT.sIx n n (some v)=HT.sIx n 0 (some v):=fun _=>rfl
 have go:∀ (a b:Int) (x y:Nat),a=x→b=y→sliceRange a b 1=sliceRange x y 1:=fun a b x y h1 h2=>by rw [h1,h2]
 cases l with
 | none =>
  cases u with
  | none=>exact go _ _ _ _ rfl rfl
  | some v=>exact go _ _ _ _ rfl (by rw [c2,← c v]; rfl)
 | some v =>
  cases u with
  | none=>exact go _ _ _ _ (by rw [← c v]; rfl) rfl
  | some w=>exact go _ _ _ _ (by rw [← c v]; rfl) (by rw [c2,← c w]; rfl)
theorem fm_range (xs:Array Nat):∀ (m a:Nat),a+m≤xs.size→(List.range' a m).filterMap (xs[·]?)=(xs.toList.drop a).take m
 | 0,a,_=>by simp
 | m+1,a,h=>by
  have hs:a < xs.toList.length:=by show a < xs.size; lia
  rw [List.range'_succ,List.filterMap_cons,Array.getElem?_eq_getElem (show a < xs.size by lia)]
  show xs[a] :: _=_
  rw [fm_range xs m (a+1) (by lia),List.drop_eq_getElem_cons hs,List.take_succ_cons]
  rfl
theorem slice_list (z:Str) (l u:Option Int):(Txt.slice z l u).cps.toList=cutL z.cps.toList l u:=by
 unfold Txt.slice cutL
 have el:z.cps.toList.length=z.length:=rfl
 have h1:=HT.sIx_le z.length 0 (Nat.zero_le _) l
 have h2:=HT.sIx_le z.length z.length (Nat.le_refl _) u
 rw [ind_cut,el]
 by_cases h:HT.sIx z.length z.length u - HT.sIx z.length 0 l=z.length
 ·rw [if_pos (by simpa using h),h]
  have e0:HT.sIx z.length 0 l=0:=by lia
  rw [e0,List.drop_zero,List.take_of_length_le (Nat.le_of_eq el)]
 ·rw [if_neg (by simpa using h)]
  show List.filterMap _ _=_
  by_cases hz:HT.sIx z.length 0 l≤HT.sIx z.length z.length u
  ·exact fm_range z.cps _ _ (by show _≤z.length; lia)
  ·rw [show HT.sIx z.length z.length u - HT.sIx z.length 0 l=0 by lia]
   simp
def mkS (l:List Nat):Str:=⟨l.toArray⟩
theorem mkS_list (z:Str):mkS z.cps.toList=z:=by unfold mkS; simp
theorem mkS_len (l:List Nat):(mkS l).length=l.length:=by unfold mkS Str.length; simp
theorem str_ext {a b:Str} (h:a.cps.toList=b.cps.toList):a=b:=by rw [← mkS_list a,← mkS_list b,h]
theorem split_eq (s:Str) {c:Nat} (h:c < 256):Txt.split s ⟨#[c]⟩=(sp c s.cps.toList).map mkS:=by
 rw [← split_sp s h,List.map_map]
 refine (List.map_id _).symm.trans (List.map_congr_left fun z _=>?_)
 exact (mkS_list z).symm
theorem starts_one (s:Str) (c:Nat):Txt.startswith s ⟨#[c]⟩=(s.cps.toList.head? == some c):=by
 unfold Txt.startswith
 have one:(⟨#[c]⟩:Str).length=1:=rfl
 rw [one]
 cases hl:s.cps.toList with
 | nil =>
  have e:s=mkS []:=by rw [← hl,mkS_list]
  rw [e]
  rfl
 | cons x xs =>
  have e:s=mkS (x :: xs):=by rw [← hl,mkS_list]
  have hsz:s.length=xs.length+1:=by rw [e,mkS_len]; rfl
  rw [decide_eq_true (by lia:0+1≤s.length),Bool.true_and]
  unfold subAt
  rw [one]
  have ex:s.cps.extract 0 (0+1)=#[x]:=by
   apply Array.toList_inj.mp
   rw [Array.toList_extract,hl]
   simp [List.extract]
  rw [ex]
  apply bool_iff
  simp
theorem sp_len (c:Nat):∀ xs:List Nat,(sp c xs).length≤xs.length+1
 | []=>Nat.le_refl _
 | x :: xs=>by
  have:=sp_len c xs
  unfold sp
  split
  ·simp; lia
  ·split
   ·simp
   ·rename_i h
    rw [h] at this
    simp at this ⊢
    lia
theorem sp_piece (c:Nat):∀ (xs:List Nat),∀ p∈sp c xs,p.length≤xs.length
 | [],p,h=>by
  have:p=[]:=by simpa [sp] using h
  rw [this]
  exact Nat.le_refl _
 | x :: xs,p,h=>by
  have ih:=sp_piece c xs
  unfold sp at h
  split at h
  ·rcases List.mem_cons.mp h with rfl | h
   ·simp
   ·have:=ih p h
    simp; lia
  ·split at h
   ·rename_i e
    exact absurd e (sp_ne c xs)
   ·rename_i q qs e
    rw [e] at ih
    rcases List.mem_cons.mp h with rfl | h
    ·have:=ih q (List.mem_cons_self ..)
     simp; lia
    ·have:=ih p (List.mem_cons_of_mem _ h)
     simp; lia
end L2
namespace L2
open PySem PySem.Spec PyProof.Rows
section
variable {X:Cx} {EX:St→XK} {K:PySem.W.Frag} {o e:Expr} {to te:TV} {apos cpos:Pos} {τ:VSt} {σ:St} {B H H0:Hp}
def rMulS:R2:=fun x y H Q=>∃ a n,x=.str a∧y=.int n∧MulOk a n∧Q (.str (Txt.mul a n)) H
theorem op_mulS:OpR X (binaryOp .Mult) rMulS:=by
 intro pins s σ H x y v u Q I rx ry h
 obtain ⟨a,n,rfl,rfl,hok,q⟩:=h
 obtain ⟨t1,rfl⟩:=rx
 obtain ⟨t2,rfl⟩:=ry
 exact SB.mul hok fun t' k=>⟨.str _,H,I.tok _,⟨_,rfl⟩,q⟩
def vMulS (rx ry:R) (Q:R→Prop):Prop:=match rx.d,ry.d with
 | .str a,.int n=>MulOk a n∧Q (.val (.str (Txt.mul a n)))
 | _,_=>False
theorem vo_mulS:VO X (binaryOp .Mult) vMulS:=⟨_,op_mulS,fun B H x y rx ry Q Qd s hx hy h k=>by
 unfold vMulS at h
 split at h
 ·rename_i a n e1 e2
  cases hx.scal (z:=.str a) (by rw [e1]; rfl)
  cases hy.scal (z:=.int n) (by rw [e2]; rfl)
  exact ⟨a,n,rfl,rfl,h.1,k _ _ B H (.refl s) (repV rfl) h.2⟩
 ·exact h.elim⟩
theorem Stp.over {B1 H1:Hp} (s:Same B H) (p:Stp (fun _=>none) H B1 H1):∃ B2,Stp B H B2 H1∧Same B1 B2:=by
 refine ⟨fun a=>match B1 a with | some z=>some z | none=>B a,⟨fun a z e=>?_,p.h,fun a z e=>?_,fun a h=>?_⟩,fun a z e=>?_⟩
 ·show (match B1 a with | some z=>some z | none=>B a)=some z
  have:=p.h _ _ (s _ _ e)
  cases e1:B1 a with
  | none=>exact e
  | some w =>
   have:=p.s _ _ e1
   rw [p.h _ _ (s _ _ e)] at this
   exact this.symm
 ·have e':(match B1 a with | some z=>some z | none=>B a)=some z:=e
  cases e1:B1 a with
  | none=>rw [e1] at e'; exact p.h _ _ (s _ _ e')
  | some w=>rw [e1] at e'; cases e'; exact p.s _ _ e1
 ·have h':(match B1 a with | some z=>some z | none=>B a)≠none:=h
  cases e1:B1 a with
  | none=>rw [e1] at h'; exact .inl h'
  | some w =>
   rcases p.d a (by rw [e1]; exact fun z=>by cases z) with z | z
   ·exact absurd rfl z
   ·exact .inr z
 ·show (match B1 a with | some z=>some z | none=>B a)=some z
  rw [e]
end
end L2
namespace L2
open PySem PySem.W PyProof.Rows
section
variable {α β:Type}
def kRun (lt:Nat→Nat→Bool):KasT α→α
 | .ret a=>a
 | .ask i j k=>kRun lt (k (lt i j))
def kOk (n:Nat) (lt:Nat→Nat→Bool):KasT α→Prop
 | .ret _=>True
 | .ask i j k=>i < n∧j < n∧kOk n lt (k (lt i j))
theorem kRun_bind (lt:Nat→Nat→Bool) (f:α→KasT β):∀ t:KasT α,kRun lt (t.bind f)=kRun lt (f (kRun lt t))
 | .ret _=>rfl
 | .ask i j k=>kRun_bind lt f (k (lt i j))
theorem kOk_bind {n:Nat} {lt:Nat→Nat→Bool} {f:α→KasT β}:∀ {t:KasT α},kOk n lt t→kOk n lt (f (kRun lt t))→kOk n lt (t.bind f)
 | .ret _,_,h=>h
 | .ask i j k,⟨a,b,c⟩,h=>⟨a,b,kOk_bind c h⟩
theorem ask_run {lt:Nat→Nat→Bool} {i j:Nat} {b:Bool} {k:Bool→KasT α} (e:lt i j=b):kRun lt (.ask i j k)=kRun lt (k b):=by
 show kRun lt (k (lt i j))=_
 rw [e]
theorem ask_ok {n:Nat} {lt:Nat→Nat→Bool} {i j:Nat} {b:Bool} {k:Bool→KasT α} (hi:i < n) (hj:j < n) (e:lt i j=b) (h:kOk n lt (k b)):kOk n lt (.ask i j k):=⟨hi,hj,by rw [e]; exact h⟩
theorem kas_run {cmp:Nat→Nat→(Bool→Shared→Prop)→Shared→Prop} {n:Nat} {lt:Nat→Nat→Bool} {P:Shared→Prop} {Q:α→Shared→Prop} (hc:∀ i j C s,i < n→j < n→P s→(∀ s',P s'→C (lt i j) s')→cmp i j C s) :
  ∀ (t:KasT α) (s:Shared),kOk n lt t→P s→(∀ s',P s'→Q (kRun lt t) s')→t.kasWp cmp Q s
 | .ret _,s,_,hp,hq=>hq s hp
 | .ask i j k,s,⟨hi,hj,hk⟩,hp,hq=>hc i j _ s hi hj hp fun s' hp'=>kas_run hc (k (lt i j)) s' hk hp' hq
end
structure LtOk (n:Nat) (lt:Nat→Nat→Bool):Prop where
 tr:∀ a b c,a < n→b < n→c < n→lt a b=true→lt b c=true→lt a c=true
 as:∀ a b,a < n→b < n→lt a b=true→lt b a=false
 tot:∀ a b,a < n→b < n→a≠b→lt a b=true∨lt b a=true
section
variable {n:Nat} {lt:Nat→Nat→Bool} {p:Array Nat}
structure PermOk (n:Nat) (p:Array Nat):Prop where
 sz:p.size=n
 lt:∀ i,i < n→p.getD i 0 < n
 inj:∀ i j,i < n→j < n→p.getD i 0=p.getD j 0→i=j
theorem getD_eq (p:Array Nat) (i:Nat):p.getD i 0=(p[i]?).getD 0:=by
 by_cases h:i < p.size
 ·simp [Array.getD,h]
 ·simp [Array.getD,h]
theorem PermOk.of (hp:p.Perm (List.range n).toArray):PermOk n p where
 sz:=by rw [hp.size_eq]; simp
 lt:=fun i hi=>by
  have hs:p.size=n:=by rw [hp.size_eq]; simp
  have hm:p[i]'(by lia)∈p:=Array.getElem_mem _
  have:p[i]'(by lia)∈(List.range n).toArray:=hp.mem_iff.mp hm
  rw [getD_eq,Array.getElem?_eq_getElem (by lia)]
  simpa using this
 inj:=fun i j hi hj e=>by
  have hs:p.size=n:=by rw [hp.size_eq]; simp
  have nd:p.toList.Nodup:=by
   have:=hp.toList
   rw [this.nodup_iff]
   simp [List.nodup_range]
  rw [getD_eq,getD_eq,Array.getElem?_eq_getElem (by lia),Array.getElem?_eq_getElem (by lia)] at e
  have e':p.toList[i]'(by simp; lia)=p.toList[j]'(by simp; lia):=by simpa using e
  exact (List.getElem_inj nd).mp e'
def SPr (lt:Nat→Nat→Bool) (p:Array Nat) (k:Nat):Prop:=∀ i j,i < j→j < k→lt (p.getD i 0) (p.getD j 0)=true
def DPr (lt:Nat→Nat→Bool) (p:Array Nat) (k:Nat):Prop:=∀ i j,i < j→j < k→lt (p.getD j 0) (p.getD i 0)=true
theorem SPr.snoc (L:LtOk n lt) (P:PermOk n p) {k:Nat} (h:SPr lt p k) (hk:k < n) (h1:1≤k) (e:lt (p.getD k 0) (p.getD (k - 1) 0)=false):SPr lt p (k+1):=fun i j hi hj=>by
 have l1:lt (p.getD (k - 1) 0) (p.getD k 0)=true:=by
  rcases L.tot _ _ (P.lt (k - 1) (by lia)) (P.lt k hk) (fun z=>by have:=P.inj _ _ (by lia) hk z; lia) with q | q
  ·exact q
  ·rw [e] at q; cases q
 by_cases hjk:j=k
 ·subst hjk
  by_cases hik:i=j - 1
  ·rw [hik]; exact l1
  ·exact L.tr _ _ _ (P.lt i (by lia)) (P.lt (j - 1) (by lia)) (P.lt j hk) (h i (j - 1) (by lia) (by lia)) l1
 ·exact h i j hi (by lia)
theorem DPr.snoc (L:LtOk n lt) (P:PermOk n p) {k:Nat} (h:DPr lt p k) (hk:k < n) (h1:1≤k) (e:lt (p.getD k 0) (p.getD (k - 1) 0)=true):DPr lt p (k+1):=fun i j hi hj=>by
 by_cases hjk:j=k
 ·subst hjk
  by_cases hik:i=j - 1
  ·rw [hik]; exact e
  ·exact L.tr _ _ _ (P.lt j hk) (P.lt (j - 1) (by lia)) (P.lt i (by lia)) e (h i (j - 1) (by lia) (by lia))
 ·exact h i j hi (by lia)
theorem asc_ok (L:LtOk n lt) (P:PermOk n p):∀ (f m:Nat),1≤m→m+f≤n→SPr lt p m→kOk n lt (kas_asc p f m)∧∃ m',kRun lt (kas_asc p f m)=m'∧m≤m'∧m'≤m+f∧SPr lt p m'∧(m'=m+f∨lt (p.getD m' 0) (p.getD (m' - 1) 0)=true)
 | 0,m,h1,hf,hs=>⟨trivial,m,rfl,Nat.le_refl _,Nat.le_refl _,hs,.inl rfl⟩
 | f+1,m,h1,hf,hs=>by
  cases e:lt (p.getD m 0) (p.getD (m - 1) 0) with
  | true =>
   refine ⟨ask_ok (P.lt m (by lia)) (P.lt (m - 1) (by lia)) e ?_,m,(ask_run e).trans ?_,Nat.le_refl _,by lia,hs,.inr e⟩
   ·trivial
   ·rfl
  | false =>
   obtain ⟨a,m',r,b,c,d,g⟩:=asc_ok L P f (m+1) (by lia) (by lia) (hs.snoc L P (by lia) h1 e)
   refine ⟨ask_ok (P.lt m (by lia)) (P.lt (m - 1) (by lia)) e a,m',(ask_run e).trans r,by lia,by lia,d,?_⟩
   rcases g with g | g
   ·left; lia
   ·exact .inr g
theorem desc_ok (L:LtOk n lt) (P:PermOk n p):∀ (f m:Nat),1≤m→m+f≤n→DPr lt p m→kOk n lt (kas_desc f p m 0)∧∃ m',kRun lt (kas_desc f p m 0)=(p,m',0)∧m≤m'∧m'≤m+f∧DPr lt p m'
 | 0,m,h1,hf,hs=>⟨trivial,m,rfl,Nat.le_refl _,Nat.le_refl _,hs⟩
 | f+1,m,h1,hf,hs=>by
  cases e:lt (p.getD m 0) (p.getD (m - 1) 0) with
  | true =>
   obtain ⟨a,m',b,c,d,g⟩:=desc_ok L P f (m+1) (by lia) (by lia) (hs.snoc L P (by lia) h1 e)
   exact ⟨ask_ok (P.lt m (by lia)) (P.lt (m - 1) (by lia)) e a,m',(ask_run e).trans b,by lia,by lia,g⟩
  | false =>
   have l1:lt (p.getD (m - 1) 0) (p.getD m 0)=true:=by
    rcases L.tot _ _ (P.lt (m - 1) (by lia)) (P.lt m (by lia)) (fun z=>by have:=P.inj _ _ (by lia) (by lia) z; lia) with q | q
    ·exact q
    ·rw [e] at q; cases q
   exact ⟨ask_ok (P.lt m (by lia)) (P.lt (m - 1) (by lia)) e (ask_ok (P.lt (m - 1) (by lia)) (P.lt m (by lia)) l1 trivial),m,(ask_run e).trans ((ask_run l1).trans rfl),Nat.le_refl _,by lia,hs⟩
theorem mirror_getD {j:Nat} (hj:j≤p.size) (k:Nat):(kas_rev p 0 j).getD k 0=if k < j then p.getD (j - 1 - k) 0 else p.getD k 0:=by
 rw [getD_eq,kas_rev,getElem?_mirror_all hj k]
 by_cases h:k < j
 ·rw [if_pos ⟨Nat.zero_le _,h⟩,if_pos h,getD_eq,Nat.zero_add]
 ·rw [if_neg (fun z=>h z.2),if_neg h,getD_eq]
theorem rev_SPr {j:Nat} (hj:j≤p.size) (h:DPr lt p j):SPr lt (kas_rev p 0 j) j:=fun a b hab hb=>by
 rw [mirror_getD hj,mirror_getD hj,if_pos (by lia),if_pos hb]
 exact h (j - 1 - b) (j - 1 - a) (by lia) (by lia)
theorem tail3_ok (L:LtOk n lt) (hp:p.Perm (List.range n).toArray) {m:Nat} (h1:1≤m) (hm:m≤n) (h:DPr lt p m):kOk n lt (kas_tail3 m n p)∧∃ k q,kRun lt (kas_tail3 m n p)=(k,q)∧1≤k∧k≤n∧q.Perm p∧SPr lt q k:=by
 have hq:(kas_rev p 0 m).Perm p:=mirror_perm _ _ _ _
 have P:=PermOk.of (hq.trans hp)
 obtain ⟨a,k,r,b,c,d,_⟩:=asc_ok L P (n - m) m h1 (by lia) (rev_SPr (by rw [(PermOk.of hp).sz]; exact hm) h)
 refine ⟨kOk_bind a trivial,k,kas_rev p 0 m,?_,by lia,by lia,hq,d⟩
 unfold kas_tail3
 rw [kRun_bind,r]
 rfl
theorem descPart_ok (L:LtOk n lt) (hp:p.Perm (List.range n).toArray) {m:Nat} (hm:m+1≤n) (h:DPr lt p (m+1)):kOk n lt (kas_descPart m n p)∧∃ k q,kRun lt (kas_descPart m n p)=(k,q)∧1≤k∧k≤n∧q.Perm p∧SPr lt q k:=by
 have P:=PermOk.of hp
 obtain ⟨a,m',r,b,c,d⟩:=desc_ok L P (n - (m+1)) (m+1) (by lia) (by lia) h
 obtain ⟨a2,k,q,r2,e⟩:=tail3_ok L hp (m:=m') (by lia) (by lia) d
 refine ⟨kOk_bind a ?_,k,q,?_,e⟩
 ·rw [r]
  exact a2
 ·unfold kas_descPart
  rw [kRun_bind,r]
  exact r2
theorem count_ok (L:LtOk n lt) (hp:p.Perm (List.range n).toArray) (h1:1≤n):kOk n lt (kas_count n p)∧∃ m q,kRun lt (kas_count n p)=(m,q)∧1≤m∧m≤n∧q.Perm p∧SPr lt q m:=by
 have P:=PermOk.of hp
 obtain ⟨a,m,r,b,c,d,g⟩:=asc_ok L P (n - 1) 1 (Nat.le_refl _) (by lia) (fun i j hi hj=>by lia)
 by_cases hn:m=n
 ·refine ⟨kOk_bind a ?_,m,p,?_,b,by lia,.refl _,d⟩
  ·rw [r,if_pos (by simp [hn])]
   trivial
  ·unfold kas_count
   rw [kRun_bind,r,if_pos (by simp [hn])]
   rfl
 ·have ne:¬ (m == n)=true:=by simp [hn]
  by_cases hm:m > 1
  ·have e:lt (p.getD 0 0) (p.getD (m - 1) 0)=true:=d 0 (m - 1) (by lia) (by lia)
   refine ⟨kOk_bind a ?_,m,p,?_,b,by lia,.refl _,d⟩
   ·rw [r,if_neg ne,if_pos hm]
    exact ask_ok (P.lt 0 (by lia)) (P.lt (m - 1) (by lia)) e trivial
   ·unfold kas_count
    rw [kRun_bind,r,if_neg ne,if_pos hm,ask_run e]
    rfl
  ·have hm1:m=1:=by lia
   have e:lt (p.getD 1 0) (p.getD 0 0)=true:=by
    rcases g with g | g
    ·exact absurd (by lia) hn
    ·rw [hm1] at g; exact g
   have D2:DPr lt p (m+1):=fun i j hi hj=>by
    have:i=0:=by lia
    have:j=1:=by lia
    subst_vars
    exact e
   obtain ⟨a2,k,q,r2,e2⟩:=descPart_ok L hp (m:=m) (by lia) D2
   refine ⟨kOk_bind a ?_,k,q,?_,e2⟩
   ·rw [r,if_neg ne,if_neg hm]
    exact a2
   ·unfold kas_count
    rw [kRun_bind,r,if_neg ne,if_neg hm]
    exact r2
theorem place_ok (L:LtOk n lt) (P:PermOk n p) {k:Nat} (hk:k < n):∀ (f l r:Nat),l≤r→r≤k→r - l≤f→SPr lt p k→(∀ i,i < l→lt (p.getD i 0) (p.getD k 0)=true)→(∀ i,r≤i→i < k→lt (p.getD k 0) (p.getD i 0)=true) →
  kOk n lt (kas_place p k f l r)∧∃ l',kRun lt (kas_place p k f l r)=l'∧l'≤k∧(∀ i,i < l'→lt (p.getD i 0) (p.getD k 0)=true)∧(∀ i,l'≤i→i < k→lt (p.getD k 0) (p.getD i 0)=true)
 | 0,l,r,hlr,hrk,hf,hs,h1,h2=>by
  have:l=r:=by lia
  subst this
  exact ⟨trivial,l,rfl,hrk,h1,h2⟩
 | f+1,l,r,hlr,hrk,hf,hs,h1,h2=>by
  unfold kas_place
  by_cases hge:l ≥ r
  ·have:l=r:=by lia
   subst this
   rw [if_pos hge]
   exact ⟨trivial,l,rfl,hrk,h1,h2⟩
  ·rw [if_neg hge]
   have hmk:(l+r) / 2 < k:=by lia
   cases e:lt (p.getD k 0) (p.getD ((l+r) / 2) 0) with
   | true =>
    obtain ⟨a,l',q,b,c,d⟩:=place_ok L P hk f l ((l+r) / 2) (by lia) (by lia) (by lia) hs h1 (fun i hi hik=>by
     by_cases z:i=(l+r) / 2
     ·rw [z]; exact e
     ·exact L.tr _ _ _ (P.lt k hk) (P.lt _ (by lia)) (P.lt i (by lia)) e (hs ((l+r) / 2) i (by lia) hik))
    exact ⟨ask_ok (P.lt k hk) (P.lt _ (by lia)) e a,l',(ask_run e).trans q,b,c,d⟩
   | false =>
    have l1:lt (p.getD ((l+r) / 2) 0) (p.getD k 0)=true:=by
     rcases L.tot _ _ (P.lt ((l+r) / 2) (by lia)) (P.lt k hk) (fun z=>by have:=P.inj _ _ (by lia) hk z; lia) with q | q
     ·exact q
     ·rw [e] at q; cases q
    obtain ⟨a,l',q,b,c,d⟩:=place_ok L P hk f ((l+r) / 2+1) r (by lia) hrk (by lia) hs (fun i hi=>by
     by_cases z:i=(l+r) / 2
     ·rw [z]; exact l1
     ·exact L.tr _ _ _ (P.lt i (by lia)) (P.lt ((l+r) / 2) (by lia)) (P.lt k hk) (hs i ((l+r) / 2) (by lia) hmk) l1) h2
    exact ⟨ask_ok (P.lt k hk) (P.lt _ (by lia)) e a,l',(ask_run e).trans q,b,c,d⟩
theorem bubble_getD {src d:Nat} (hs:src < p.size) (hd:d≤src) (k:Nat):(bubble p src d).getD k 0=if k=src - d then p.getD src 0 else if src - d < k∧k≤src then p.getD (k - 1) 0 else p.getD k 0:=by
 rw [getD_eq,getElem?_bubble hs d hd k]
 by_cases h1:k=src - d
 ·rw [if_pos h1,if_pos h1,getD_eq]
 ·rw [if_neg h1,if_neg h1]
  by_cases h2:src - d < k∧k≤src
  ·rw [if_pos h2,if_pos h2,getD_eq]
  ·rw [if_neg h2,if_neg h2,getD_eq]
theorem bin_ok (L:LtOk n lt):∀ (f k:Nat) (p:Array Nat),p.Perm (List.range n).toArray→1≤k→k+f≤n→SPr lt p k→kOk n lt (kas_bin f p k)∧∃ q,kRun lt (kas_bin f p k)=q∧q.Perm p∧SPr lt q (k+f)
 | 0,k,p,hp,h1,hf,hs=>⟨trivial,p,rfl,.refl _,hs⟩
 | f+1,k,p,hp,h1,hf,hs=>by
  have P:=PermOk.of hp
  obtain ⟨a,l,r,b,c,d⟩:=place_ok L P (k:=k) (by lia) k 0 k (Nat.zero_le _) (Nat.le_refl _) (by lia) hs (fun i hi=>by lia) (fun i hi hk=>by lia)
  have hq:(bubble p k (k - l)).Perm p:=bubble_perm _ _ _
  have G:=bubble_getD (p:=p) (src:=k) (d:=k - l) (by rw [P.sz]; lia) (by lia)
  have hs2:SPr lt (bubble p k (k - l)) (k+1):=fun i j hi hj=>by
   rw [G i,G j]
   have ekl:k - (k - l)=l:=by lia
   rw [ekl]
   by_cases i1:i=l
   ·rw [if_pos i1,if_neg (by lia),if_pos (by lia)]
    exact d (j - 1) (by lia) (by lia)
   ·rw [if_neg i1]
    by_cases j1:j=l
    ·rw [if_pos j1,if_neg (by lia)]
     exact c i (by lia)
    ·rw [if_neg j1]
     by_cases i2:l < i
     ·rw [if_pos (by lia),if_pos (by lia)]
      exact hs (i - 1) (j - 1) (by lia) (by lia)
     ·rw [if_neg (by lia)]
      by_cases j2:l < j
      ·rw [if_pos (by lia)]
       exact hs i (j - 1) (by lia) (by lia)
      ·rw [if_neg (by lia)]
       exact hs i j hi (by lia)
  obtain ⟨a2,q,r2,e1,e2⟩:=bin_ok L f (k+1) _ (hq.trans hp) (by lia) (by lia) hs2
  refine ⟨kOk_bind a (by rw [r]; exact a2),q,?_,e1.trans hq,by rw [show k+(f+1)=k+1+f by lia]; exact e2⟩
  unfold kas_bin
  rw [kRun_bind,r]
  exact r2
theorem sort_ok (L:LtOk n lt) (h1:1≤n):kOk n lt (kas_sort n)∧∃ q,kRun lt (kas_sort n)=q∧q.Perm (List.range n).toArray∧SPr lt q n:=by
 obtain ⟨a,m,q,r,b,c,d,e⟩:=count_ok L (.refl _) h1
 by_cases hm:m < n
 ·obtain ⟨a2,q2,r2,e1,e2⟩:=bin_ok L (n - max m 1) (max m 1) q d (by lia) (by lia) (by rw [Nat.max_eq_left b]; exact e)
  refine ⟨kOk_bind a ?_,q2,?_,e1.trans d,?_⟩
  ·rw [r,if_pos hm]
   exact a2
  ·unfold kas_sort
   rw [kRun_bind,r,if_pos hm]
   exact r2
  ·rw [show max m 1+(n - max m 1)=n by lia] at e2
   exact e2
 ·have:m=n:=by lia
  subst this
  refine ⟨kOk_bind a ?_,q,?_,d,e⟩
  ·rw [r,if_neg hm]
   trivial
  ·unfold kas_sort
   rw [kRun_bind,r,if_neg hm]
   rfl
end
end L2
namespace L2
open PySem PySem.Spec PyProof.Rows PySem.W
def LtA (A:Around) (s:Shared) (x y:Value) (c:Bool):Prop:=∀ (prog:Program) (w:World) (E:Value→Shared→Prop) (Q:Value→Shared→Prop),Q (.bool c) s→wpAny (model prog w) A (richCompare .Lt x y) Q E s
def LtC (A:Around) (s:Shared) (p q:Addr) (c:Bool):Prop:=∀ (prog:Program) (w:World) (E:Value→Shared→Prop) (Q:Value→Shared→Prop),Q (.bool c) s→wpAny (model prog w) A (call (.builtin "tuple.__lt__") [.ref p,.ref q]) Q E s
def lexV (e l:Nat→Bool) (z:Bool):Nat→Nat→Bool
 | 0,_=>z
 | k+1,i=>if e i=true then lexV e l z k (i+1) else l i
theorem tup_lt (p q:Addr) (us ws:Array Value) (m k:Nat) (dp dq:Option Addr) (sp sq:Array (Option Value)) (e c:Nat→Bool) :
  Meets (Builtin.«tuple.__lt__» ⟨[.ref p,.ref q],[]⟩)
   (fun A R s=>s.heap.get? p=some { cls:=.type "tuple",dict:=dp,data:=.seq us m,slots:=sp }∧s.heap.get? q=some { cls:=.type "tuple",dict:=dq,data:=.seq ws k,slots:=sq } ∧
    (∀ j (h1:j < us.size) (h2:j < ws.size),SeqAt.EqAt A.in1 s us[j] ws[j] (e j))∧(∀ j (h1:j < us.size) (h2:j < ws.size),e j=false→LtA A.in1 s us[j] ws[j] (c j)) ∧
    R (.ok (.ret (.bool (lexV e c (decide (us.size < ws.size)) (min us.size ws.size) 0)))) s) :=
 .of_wp fun prog w A R s h=>by
  obtain ⟨h1,g1,d1,t1,o1⟩:=s
  obtain ⟨hl,hb,he,hc,hR0⟩:=h
  have f2:=AutoSeq1.sub_tuple_tuple
  have hZ:(us.toList.zip ws.toList).length=min us.size ws.size:=by simp
  wp_walk using wpAny_loadPart' hl,wpAny_loadPart' hb,wpAny_forIn_list _ (fun rest b s'=>b.1=none∧s'=⟨h1,g1,d1,t1,o1⟩∧∃ i k,i+k=min us.size ws.size∧rest=(us.toList.zip ws.toList).drop i ∧
   R (.ok (.ret (.bool (lexV e c (decide (us.size < ws.size)) k i)))) ⟨h1,g1,d1,t1,o1⟩) _
  case turn =>
   rintro ⟨y,x⟩ rest b s' ⟨hb',rfl,i,k,hik,hz,hR⟩
   have hm:i < (us.toList.zip ws.toList).length:=by
    apply Nat.lt_of_not_le
    intro z
    rw [List.drop_of_length_le z] at hz
    cases hz
   have l1:i < us.size:=by lia
   have l2:i < ws.size:=by lia
   rw [List.drop_eq_getElem_cons hm] at hz
   injection hz with hyx hrest
   obtain rfl:y=us[i]:=by simpa using congrArg Prod.fst hyx
   obtain rfl:x=ws[i]:=by simpa using congrArg Prod.snd hyx
   obtain ⟨k,rfl⟩:∃ k',k=k'+1:=⟨k - 1,by lia⟩
   have hR':R (.ok (.ret (.bool (if e i=true then lexV e c (decide (us.size < ws.size)) k (i+1) else c i)))) ⟨h1,g1,d1,t1,o1⟩:=hR
   refine wpAny_bind (he i l1 l2 prog w _ _ ?_)
   cases hy:e i with
   | true =>
    rw [hy,if_pos rfl] at hR'
    wp_walk
    exact ⟨rfl,rfl,i+1,k,by lia,hrest,hR'⟩
   | false =>
    rw [hy,if_neg (by decide)] at hR'
    simp only [Bool.not_false,if_true]
    refine wpAny_bind (wpAny_rule (wpAny_bind (hc i l1 l2 hy prog w _ _ ?_)))
    wp_walk
    exact ⟨_,rfl,hR'⟩
  case fin =>
   rintro ⟨b1,b2⟩ s' ⟨hb',rfl,i,k,hik,hz,hR⟩
   simp only at hb'
   subst hb'
   have hk:k=0:=by
    rcases Nat.lt_or_ge i (us.toList.zip ws.toList).length with z | z
    ·rw [List.drop_eq_getElem_cons z] at hz; cases hz
    ·lia
   subst hk
   wp_walk
   exact ⟨_,rfl,by simpa [Builtin.Tuple.tupleCompareSizes,lexV] using hR⟩
  case h =>
   exact ⟨rfl,rfl,0,_,Nat.zero_add _,rfl,hR0⟩
section
variable {A:Around} {s:Shared} {p q:Addr} {us ws:Array Value} {e c:Nat→Bool}
theorem LtA.tups (hp:s.heap.IsTuple p us) (hq:s.heap.IsTuple q ws) (hu:A.units < cLine) (he:∀ j (h1:j < us.size) (h2:j < ws.size),SeqAt.EqAt A.in1 s us[j] ws[j] (e j))
  (hc:∀ j (h1:j < us.size) (h2:j < ws.size),e j=false→LtA A.in1 s us[j] ws[j] (c j)):LtA A s (.ref p) (.ref q) (lexV e c (decide (us.size < ws.size)) (min us.size ws.size) 0)∧LtC A s p q (lexV e c (decide (us.size < ws.size)) (min us.size ws.size) 0):=by
 obtain ⟨⟨cl1,dp,da1,sp⟩,o1,z1,m,y1⟩:=id hp
 obtain ⟨⟨cl2,dq,da2,sq⟩,o2,z2,k,y2⟩:=id hq
 cases z1; cases y1; cases z2; cases y2
 refine ⟨fun prog w E Q h=>?_,fun prog w E Q h=>call_meets F.slot_tuple_lt ⟨_,o1,rfl⟩ F.entry_tuple_lt (F.args_tuple_lt_2 _ _) (tup_lt p q us ws m k dp dq sp sq e c) ⟨o1,o2,he,hc,h⟩⟩
 exact richCompare_meets_room (op:=.Lt) ⟨_,o1,rfl⟩ ⟨_,o2,rfl⟩ F.slot_tuple_lt F.entry_tuple_lt (F.args_tuple_lt_2 _ _) (tup_lt p q us ws m k dp dq sp sq e c) ⟨o1,o2,he,hc,(fun x=>nomatch x),h⟩ hu
theorem LtA.strs {a b:Str} {t u:Tok}:LtA A s (.str a t) (.str b u) (decide (a.cps.toList < b.cps.toList)):=fun prog w E Q h=>by
 refine wpAny_richCompare_same_or (typeIs_str s a t) (typeIs_str s b u) slot_str_lt (call_str_lt (Q:=fun v s'=>v≠.notImplemented∧Q v s') ⟨(fun x=>nomatch x),h⟩) (.inl rfl)
end
mutual
noncomputable def ltD:D→D→Bool
 | .str a,.str b=>decide (a.cps.toList < b.cps.toList)
 | .tup ds,.tup es=>ltDs ds es
 | _,_=>false
noncomputable def ltDs:List D→List D→Bool
 | [],[]=>false
 | [],_ :: _=>true
 | _ :: _,[]=>false
 | d :: ds,e :: es=>if eqD d e=true then ltDs ds es else ltD d e
end
mutual
def ordD:D→D→Bool
 | .str _,.str _=>true
 | .tup ds,.tup es=>ordDs ds es
 | _,_=>false
def ordDs:List D→List D→Bool
 | d :: ds,e :: es=>ordD d e && ordDs ds es
 | _,_=>true
end
mutual
theorem ord_cmp:∀ (d e:D),ordD d e=true→cmpD d e=true
 | .str _,e,h=>by
  cases e <;> first | rfl | (unfold ordD at h; cases h)
 | .tup ds,e,h=>by
  cases e <;> first | (unfold ordD at h; cases h; done) | skip
  rename_i es
  unfold ordD at h
  unfold cmpD
  exact ords_cmp ds es h
 | .non,e,h=>by unfold ordD at h; cases h
 | .bl _,e,h=>by unfold ordD at h; cases h
 | .int _,e,h=>by unfold ordD at h; cases h
 | .lst _,e,h=>by unfold ordD at h; cases h
 | .dT _ _,e,h=>by unfold ordD at h; cases h
 | .dK _ _,e,h=>by unfold ordD at h; cases h
 | .scr _,e,h=>by unfold ordD at h; cases h
 | .kt _,e,h=>by unfold ordD at h; cases h
 | .exc _,e,h=>by unfold ordD at h; cases h
theorem ords_cmp:∀ (ds es:List D),ordDs ds es=true→cmpDs ds es=true
 | [],_,_=>by unfold cmpDs; rfl
 | _ :: _,[],_=>by unfold cmpDs; rfl
 | d :: ds,e :: es,h=>by
  unfold ordDs at h
  rw [Bool.and_eq_true] at h
  unfold cmpDs
  rw [ord_cmp d e h.1,ords_cmp ds es h.2]
  rfl
end
theorem ordDs_at:∀ {ds es:List D} {j:Nat} {d e:D},ordDs ds es=true→ds[j]?=some d→es[j]?=some e→ordD d e=true
 | [],_,j,_,_,_,q,_=>by simp at q
 | _ :: _,[],j,_,_,_,_,q=>by simp at q
 | d :: ds,e :: es,0,_,_,h,q1,q2=>by
  unfold ordDs at h
  rw [Bool.and_eq_true] at h
  simp at q1 q2
  rw [← q1,← q2]
  exact h.1
 | d :: ds,e :: es,j+1,_,_,h,q1,q2=>by
  unfold ordDs at h
  rw [Bool.and_eq_true] at h
  exact ordDs_at h.2 (by simpa using q1) (by simpa using q2)
theorem lexV_shift (e l:Nat→Bool) (z:Bool):∀ k i,lexV e l z k (i+1)=lexV (fun j=>e (j+1)) (fun j=>l (j+1)) z k i
 | 0,_=>rfl
 | k+1,i=>by
  show (if e (i+1)=true then lexV e l z k (i+1+1) else l (i+1))=if e (i+1)=true then lexV (fun j=>e (j+1)) (fun j=>l (j+1)) z k (i+1) else l (i+1)
  rw [lexV_shift e l z k (i+1)]
theorem lexV_D:∀ ds es:List D,lexV (fun j=>eqD (ds.getD j .non) (es.getD j .non)) (fun j=>ltD (ds.getD j .non) (es.getD j .non)) (decide (ds.length < es.length)) (min ds.length es.length) 0=ltDs ds es
 | [],[]=>by unfold ltDs; rfl
 | [],_ :: _=>by unfold ltDs; simp [lexV]
 | _ :: _,[]=>by unfold ltDs; simp [lexV]
 | d :: ds,e :: es=>by
  have ih:=lexV_D ds es
  rw [List.length_cons,List.length_cons,Nat.add_min_add_right]
  show (if eqD d e=true then lexV _ _ _ (min ds.length es.length) (0+1) else ltD d e)=_
  rw [lexV_shift]
  unfold ltDs
  have ed:decide (ds.length+1 < es.length+1)=decide (ds.length < es.length):=decide_eq_decide.mpr (by lia)
  rw [ed]
  have h2:lexV (fun j=>eqD ((d :: ds).getD (j+1) .non) ((e :: es).getD (j+1) .non)) (fun j=>ltD ((d :: ds).getD (j+1) .non) ((e :: es).getD (j+1) .non)) (decide (ds.length < es.length)) (min ds.length es.length) 0=ltDs ds es:=ih
  rw [h2]
section
variable {X:Cx} {pins:List (Addr × Obj)} {σ:St} {H:Hp} {s:Shared}
theorem lt_tup {A:Around} (I:Inv X pins σ H s) {a b:Addr} {ds es:List D} {xs ys:List V} (ha:SqT X.K H a xs) (hb:SqT X.K H b ys) (r1:Reps X.K H ds xs) (r2:Reps X.K H es ys) (ho:ordDs ds es=true) (hu:A.units+depDs ds+1 < cLine)
  (ih:∀ d∈ds,∀ (e:D) (v z:V) (u w:Value),Rep X.K H d v→Rep X.K H e z→RelV v u→RelV z w→ordD d e=true→LtA A.in1 s u w (ltD d e)):LtA A s (.ref a) (.ref b) (ltDs ds es)∧LtC A s a b (ltDs ds es):=by
 obtain ⟨its,v1,p1,_⟩:=I.tuple ha
 obtain ⟨its2,v2,p2,_⟩:=I.tuple hb
 have hc:=ords_cmp ds es ho
 have ihe:∀ d∈ds,∀ (e:D) (v z:V) (u w:Value),Rep X.K H d v→Rep X.K H e z→RelV v u→RelV z w→cmpD d e=true→SeqAt.EqAt A.in1 s u w (eqD d e):=fun d hd e v z u w h1 h2 h3 h4 h5 =>
  eqAt_D I _ A.in1 d e v z u w (Nat.le_refl _) h1 h2 h3 h4 h5 (by have:=depD_mem hd; have un:A.in1.units=A.units+1:=rfl; lia)
 have:=LtA.tups (A:=A) (s:=s) (e:=fun j=>eqD (ds.getD j .non) (es.getD j .non)) (c:=fun j=>ltD (ds.getD j .non) (es.getD j .non)) (show s.heap.IsTuple a its.toArray from p1) (show s.heap.IsTuple b its2.toArray from p2) (by lia) (items_D r1 r2 v1 v2 hc ihe) ?_
 ·rw [List.size_toArray,List.size_toArray,← v1.length,← v2.length,← r1.length,← r2.length,lexV_D] at this
  exact this
 ·intro j h1 h2 _
  have l1:j < ds.length:=by rw [r1.length,v1.length]; simpa using h1
  have l2:j < es.length:=by rw [r2.length,v2.length]; simpa using h2
  obtain ⟨x,qx,rx⟩:=r1.at (List.getElem?_eq_getElem l1)
  obtain ⟨y,qy,ry⟩:=r2.at (List.getElem?_eq_getElem l2)
  obtain ⟨ux,e1,rux⟩:=v1.get qx
  obtain ⟨uy,e2,ruy⟩:=v2.get qy
  have e1':its.toArray[j]=ux:=by
   have z:its[j]?=some its.toArray[j]:=by simp
   rw [e1] at z
   exact (Option.some.inj z).symm
  have e2':its2.toArray[j]=uy:=by
   have z:its2[j]?=some its2.toArray[j]:=by simp
   rw [e2] at z
   exact (Option.some.inj z).symm
  have e3:ds.getD j .non=ds[j]:=by simp [List.getD_eq_getElem?_getD,l1]
  have e4:es.getD j .non=es[j]:=by simp [List.getD_eq_getElem?_getD,l2]
  rw [e1',e2',e3,e4]
  exact ih ds[j] (List.getElem_mem l1) es[j] x y ux uy rx ry rux ruy (ordDs_at ho (List.getElem?_eq_getElem l1) (List.getElem?_eq_getElem l2))
theorem ltAt_D (I:Inv X pins σ H s):∀ (n:Nat) (A:Around) (d e:D) (v z:V) (u w:Value),sizeOf d≤n→Rep X.K H d v→Rep X.K H e z→RelV v u→RelV z w→ordD d e=true→A.units+depD d < cLine→LtA A s u w (ltD d e)
 | 0,_,d,_,_,_,_,_,hn,_,_,_,_,_,_=>by cases d <;> simp at hn
 | n+1,A,d,e,v,z,u,w,hn,hd,he,ru,rw',ho,hu=>by
  have un:A.in1.units=A.units+1:=rfl
  cases d with
  | str a =>
   cases e with
   | str b =>
    unfold Rep at hd he
    subst hd he
    obtain ⟨t1,rfl⟩:=ru
    obtain ⟨t2,rfl⟩:=rw'
    unfold ltD
    exact LtA.strs
   | _=>unfold ordD at ho; cases ho
  | tup ds =>
   cases e with
   | tup es =>
    unfold Rep at hd he
    obtain ⟨a,xs,rfl,ha,r1⟩:=hd
    obtain ⟨b,ys,rfl,hb,r2⟩:=he
    cases ru
    cases rw'
    unfold ordD at ho
    unfold ltD
    unfold depD at hu
    refine (lt_tup I ha.sq hb.sq r1 r2 ho (by lia) fun d hd e v z u w h1 h2 h3 h4 h5=>ltAt_D I n A.in1 d e v z u w ?_ h1 h2 h3 h4 h5 ?_).1
    ·have:=List.sizeOf_lt_of_mem hd
     simp at hn
     lia
    ·have:=depD_mem hd
     lia
   | _=>unfold ordD at ho; cases ho
  | _=>unfold ordD at ho; cases ho
end
end L2
namespace L2
open PySem PySem.Spec PyProof.Rows PySem.W
section
variable {X:Cx} {pins:List (Addr × Obj)} {σ:St} {H:Hp} {s:Shared} {E:Value→Shared→Prop}
theorem oneLt_D (I:Inv X pins σ H s) {A:Around} (c:Bool) {d e:D} {v z:V} {u w:Value} {Q:Bool→Shared→Prop} (hd:Rep X.K H d v) (he:Rep X.K H e z) (ru:RelV v u) (rw':RelV z w) (ho:ordD d e=true) (hu:A.units+depD d+1 < cLine) (h:Q (ltD d e) s) :
  wpAny (model X.prog X.w) A (oneLt' c u w) Q E s:=by
 have L:=ltAt_D I _ A d e v z u w (Nat.le_refl _) hd he ru rw' ho (by lia)
 cases c with
 | false=>exact kat_one u w (L X.prog X.w E (PySem.W.BoolBack Q) h)
 | true =>
  cases d with
  | str a =>
   cases e with
   | str b =>
    unfold Rep at hd he
    subst hd he
    obtain ⟨t1,rfl⟩:=ru
    obtain ⟨t2,rfl⟩:=rw'
    unfold ltD at h
    exact oneLt_str h
   | _=>unfold ordD at ho; cases ho
  | tup ds =>
   cases e with
   | tup es =>
    unfold Rep at hd he
    obtain ⟨a,xs,rfl,ha,r1⟩:=hd
    obtain ⟨b,ys,rfl,hb,r2⟩:=he
    cases ru
    cases rw'
    unfold ordD at ho
    unfold ltD at h
    unfold depD at hu
    have C:=(lt_tup (A:=A) I ha.sq hb.sq r1 r2 ho (by lia) fun d hd e v z u w h1 h2 h3 h4 h5=>ltAt_D I _ A.in1 d e v z u w (Nat.le_refl _) h1 h2 h3 h4 h5 (by have:=depD_mem hd; have un:A.in1.units=A.units+1:=rfl; lia)).2
    obtain ⟨its,_,pl,_⟩:=I.tuple ha.sq
    rw [oneLt'_eq]
    simp only [if_true]
    refine wpAny_bind (wpAny_cRoomFor (by lia) (wpAny_bind (wpAny_callSpecialIfBound?_slot pl.typeIs F.slot_tuple_lt (C X.prog X.w _ _ ?_))))
    exact wpAny_truthy_bool h
   | _=>unfold ordD at ho; cases ho
  | _=>unfold ordD at ho; cases ho
theorem lex_D (I:Inv X pins σ H s) {A:Around} {b z:Bool} {Q:Bool→Shared→Prop}:∀ (ds es:List D) (xs ys:List V) (us ws:List Value) (i:Nat),Reps X.K H ds xs→Reps X.K H es ys→Vals xs us→Vals ys ws→ordDs ds es=true→A.units+depDs ds+1 < cLine→decide (ds.length < es.length)=z→Q (ltDs ds es) s →
  KatLex X.prog X.w A b z Q (us.zip ws) i s
 | [],es,xs,ys,us,ws,i,r1,r2,v1,v2,ho,hu,hz,h=>by
  have e1:=r1.length
  have e2:=v1.length
  have:us=[]:=List.length_eq_zero_iff.mp (by rw [← e2,← e1]; rfl)
  subst this
  rw [List.zip_nil_left]
  refine kat_nil ?_
  cases es with
  | nil=>unfold ltDs at h; rw [← hz]; exact h
  | cons e es=>unfold ltDs at h; rw [← hz]; simpa using h
 | d :: ds,[],xs,ys,us,ws,i,r1,r2,v1,v2,ho,hu,hz,h=>by
  have e1:=r2.length
  have e2:=v2.length
  have:ws=[]:=List.length_eq_zero_iff.mp (by rw [← e2,← e1]; rfl)
  subst this
  rw [List.zip_nil_right]
  refine kat_nil ?_
  unfold ltDs at h
  rw [← hz]
  simpa using h
 | d :: ds,e :: es,xs,ys,us,ws,i,r1,r2,v1,v2,ho,hu,hz,h=>by
  unfold Reps at r1 r2
  obtain ⟨x,xs,rfl,rx,r1⟩:=r1
  obtain ⟨y,ys,rfl,ry,r2⟩:=r2
  cases v1 with
  | cons ru v1 =>
  cases v2 with
  | cons rw' v2 =>
  rename_i u us w ws
  unfold ordDs at ho
  rw [Bool.and_eq_true] at ho
  have hd1:depD d≤depDs (d :: ds):=depD_mem (List.mem_cons_self ..)
  have hd2:depDs ds≤depDs (d :: ds):=by show _≤max (depD d) (depDs ds); lia
  show KatLex X.prog X.w A b z Q ((u,w) :: us.zip ws) i s
  refine kat_cons (eqAt_D I _ A d e x y u w (Nat.le_refl _) rx ry ru rw' (ord_cmp d e ho.1) (by lia) X.prog X.w _ _ ?_)
  unfold ltDs at h
  cases he:eqD d e with
  | true =>
   rw [he,if_pos rfl] at h
   refine kat_yes (lex_D I ds es xs ys us ws (i+1) r1 r2 v1 v2 ho.2 (by lia) ?_ h)
   rw [← hz,List.length_cons,List.length_cons]
   exact decide_eq_decide.mpr (by lia)
  | false =>
   rw [he,if_neg (by decide)] at h
   exact kat_no (oneLt_D I _ rx ry ru rw' ho.1 (by lia) h)
theorem keyLt_D (I:Inv X pins σ H s) {A:Around} (κ:SortKind) {ds es:List D} {v z:V} {u w:Value} {Q:Bool→Shared→Prop} (hd:Rep X.K H (.tup ds) v) (he:Rep X.K H (.tup es) z) (ru:RelV v u) (rw':RelV z w) (ho:ordDs ds es=true) (hu:A.units+depDs ds+2 < cLine) (h:Q (ltDs ds es) s) :
  wpAny (model X.prog X.w) A (keyLt' κ u w) Q E s:=by
 have hl:ltD (.tup ds) (.tup es)=ltDs ds es:=by unfold ltD; rfl
 have ho':ordD (.tup ds) (.tup es)=true:=by unfold ordD; exact ho
 have hdp:depD (.tup ds)=depDs ds+1:=by unfold depD; rfl
 have one:∀ c,wpAny (model X.prog X.w) A (oneLt' c u w) Q E s:=fun c=>oneLt_D I c hd he ru rw' ho' (by lia) (by rw [hl]; exact h)
 cases κ with
 | general=>exact one false
 | oneType=>exact one true
 | tuples b =>
  unfold Rep at hd he
  obtain ⟨a,xs,rfl,ha,r1⟩:=hd
  obtain ⟨c,ys,rfl,hb,r2⟩:=he
  cases ru
  cases rw'
  obtain ⟨its,v1,p1,_⟩:=I.tuple ha.sq
  obtain ⟨its2,v2,p2,_⟩:=I.tuple hb.sq
  obtain ⟨o1,q1,_,n1,y1⟩:=id p1
  obtain ⟨o2,q2,_,n2,y2⟩:=id p2
  refine kat_lt q1 y1 q2 y2 ?_
  refine lex_D I ds es xs ys _ _ 0 r1 r2 v1 v2 ho (by lia) ?_ h
  rw [r1.length,r2.length,v1.length,v2.length]
  simp
end
end L2
namespace L2
open PySem PySem.Spec PyProof.Rows PySem.W
section
variable {M:Model} {A:Around} {E:Value→Shared→Prop} {s:Shared}
theorem mapM_any {α β:Type} {f:α→Sem β} {P:β→Prop}:∀ (l:List α) {Q:List β→Shared→Prop},(∀ v∈l,∀ (Q':β→Shared→Prop),(∀ r,P r→Q' r s)→wpAny M A (f v) Q' E s)→(∀ rs,(∀ r∈rs,P r)→Q rs s)→wpAny M A (l.mapM f) Q E s
 | [],_,_,h=>by rw [List.mapM_nil]; exact wpAny_pure (h [] (by simp))
 | x :: l,Q,hf,h=>by
  rw [List.mapM_cons]
  refine wpAny_bind (hf x (List.mem_cons_self ..) _ fun r hr=>wpAny_bind (mapM_any l (fun v hv=>hf v (List.mem_cons_of_mem _ hv)) fun rs hrs=>wpAny_pure (h _ fun y hy=>?_)))
  rcases List.mem_cons.mp hy with rfl | hy
  ·exact hr
  ·exact hrs y hy
def TyOk (h:Heap) (u:Value):Prop:=∃ T,∀ M:Model,Looks M h (typeOf u) T
theorem oneType_any {vs:Array Value} {Q:Option Value→Shared→Prop} (ht:∀ u∈vs.toList,TyOk s.heap u) (h:∀ r,Q r s):wpAny M A (oneTypeOnly' vs) Q E s:=by
 rw [oneTypeOnly'_eq]
 obtain ⟨vs⟩:=vs
 rw [List.mapM_toArray,map_eq_pure_bind]
 refine wpAny_bind (wpAny_bind (mapM_any (P:=fun _=>True) vs (fun v hv Q' hq=>?_) fun rs _=>wpAny_pure ?_))
 ·obtain ⟨T,hT⟩:=ht v hv
  exact (hT M).here (hq T trivial)
 ·cases rs.toArray[0]? with
  | none=>exact wpAny_pure (h _)
  | some t=>exact wpAny_pure (h _)
theorem kind_any {vs:List Value} {Q:SortKind→Shared→Prop} (ht:∀ v∈vs,∃ (a:Addr) (o:Obj) (us:Array Value) (n:Nat),v=.ref a∧s.heap.get? a=some o∧o.cls=.type "tuple" ∧ o.data=.seq us n∧∀ f,us[0]?=some f→TyOk s.heap f) (h:∀ κ,Q κ s):wpAny M A (keyKind' vs.toArray) Q E s:=by
 have tr:∀ (a:Addr) (o:Obj),s.heap.get? a=some o→∀ M:Model,Looks M s.heap (typeOf (.ref a)) o.cls:=fun a o ho M=>(Looks.ld ho).andThen .now
 rw [keyKind'_eq,List.mapM_toArray,map_eq_pure_bind]
 refine wpAny_bind (wpAny_bind (mapM_any (P:=fun r=>∀ f,r=some f→TyOk s.heap f) vs (fun v hv Q' hq=>?_) fun rs hrs=>wpAny_pure ?_))
 ·obtain ⟨a,o,us,n,rfl,ho,hc,hd,hf⟩:=ht v hv
  rw [kas_first_eq]
  refine wpAny_bind ((tr a o ho M).here ?_)
  rw [hc,if_neg (by simp)]
  exact wpAny_bind (listItems_at ho hd (wpAny_pure (hq _ fun f e=>hf f e)))
 ·split
  ·refine wpAny_bind (wpAny_rule (wpAny_bind (oneType_any (fun u hu=>?_) fun r=>wpAny_pure (h _))))
   have hu':u∈rs.filterMap id:=by simpa using hu
   obtain ⟨r,hr,e⟩:=List.mem_filterMap.mp hu'
   exact hrs r hr u e
  ·split
   ·exact wpAny_pure (h _)
   ·refine wpAny_bind (oneType_any (fun u hu=>?_) fun r=>?_)
    ·obtain ⟨a,o,us,n,rfl,ho,_⟩:=ht u hu
     exact ⟨o.cls,tr a o ho⟩
    ·split <;> exact wpAny_pure (h _)
end
section
variable {K:PySem.W.Frag} {H:Hp}
theorem Reps.pick {ds:List D} {xs:List V} (r:Reps K H ds xs):∀ l:List Nat,(∀ i∈l,i < ds.length)→Reps K H (l.map fun i=>ds.getD i .non) (l.map fun i=>xs.getD i .non)
 | [],_=>.nil
 | i :: l,h=>by
  have hi:=h i (List.mem_cons_self ..)
  obtain ⟨x,hx,rx⟩:=r.at (List.getElem?_eq_getElem hi)
  refine .cons ?_ (r.pick l fun j hj=>h j (List.mem_cons_of_mem _ hj))
  have e1:ds.getD i .non=ds[i]:=by simp [List.getD_eq_getElem?_getD,hi]
  have e2:xs.getD i .non=x:=by simp [List.getD_eq_getElem?_getD,hx]
  show Rep K H (ds.getD i .non) (xs.getD i .non)
  rw [e1,e2]
  exact rx
theorem Vals.pick {xs:List V} {us:List Value} (r:Vals xs us):∀ l:List Nat,(∀ i∈l,i < xs.length)→Vals (l.map fun i=>xs.getD i .non) (l.map fun i=>us.getD i Value.none)
 | [],_=>.nil
 | i :: l,h=>by
  have hi:=h i (List.mem_cons_self ..)
  obtain ⟨u,hu,ru⟩:=r.get (List.getElem?_eq_getElem hi)
  refine .cons ?_ (Vals.pick r l fun j hj=>h j (List.mem_cons_of_mem _ hj))
  have e1:xs.getD i .non=xs[i]:=by simp [List.getD_eq_getElem?_getD,hi]
  have e2:us.getD i Value.none=u:=by simp [List.getD_eq_getElem?_getD,hu]
  show RelV (xs.getD i .non) (us.getD i Value.none)
  rw [e1,e2]
  exact ru
end
def keyish:D→Bool
 | .str _=>true
 | .tup _=>true
 | _=>false
structure SortD (ds:List D):Prop where
 tup:(∀ d∈ds,∃ es,d=.tup es∧depDs es≤20∧∀ x,es[0]?=some x→keyish x=true)∨∀ d∈ds,∃ z,d=.str z
 ord:∀ d∈ds,∀ e∈ds,ordD d e=true
 tr:∀ a∈ds,∀ b∈ds,∀ c∈ds,ltD a b=true→ltD b c=true→ltD a c=true
 as:∀ a∈ds,∀ b∈ds,ltD a b=true→ltD b a=false
 tot:∀ a∈ds,∀ b∈ds,a≠b→ltD a b=true∨ltD b a=true
 nd:ds.Nodup
theorem getD_mem {ds:List D} {i:Nat} (h:i < ds.length):ds.getD i .non∈ds:=by
 have e1:ds.getD i .non=ds[i]:=by simp [List.getD_eq_getElem?_getD,h]
 rw [e1]
 exact List.getElem_mem h
theorem SortD.ltOk {ds:List D} (S:SortD ds):LtOk ds.length fun i j=>ltD (ds.getD i .non) (ds.getD j .non) where
 tr:=fun a b c ha hb hc=>S.tr _ (getD_mem ha) _ (getD_mem hb) _ (getD_mem hc)
 as:=fun a b ha hb=>S.as _ (getD_mem ha) _ (getD_mem hb)
 tot:=fun a b ha hb ne=>S.tot _ (getD_mem ha) _ (getD_mem hb) fun e=>ne (by
  have e1:ds.getD a .non=ds[a]:=by simp [List.getD_eq_getElem?_getD,ha]
  have e2:ds.getD b .non=ds[b]:=by simp [List.getD_eq_getElem?_getD,hb]
  rw [e1,e2] at e
  exact (List.getElem_inj S.nd).mp e)
end L2
namespace L2
open PySem PySem.Spec PyProof.Rows PySem.W
theorem range_getD (vs:List Value):((List.range vs.length).map fun i=>vs.getD i Value.none)=vs:=by
 apply List.ext_getElem
 ·simp
 ·intro i h1 h2
  simp [List.getD_eq_getElem?_getD,h2]
section
variable {X:Cx} {pins:List (Addr × Obj)} {σ:St} {H:Hp} {s:Shared} {E:Value→Shared→Prop}
theorem run_D (I:Inv X pins σ H s) {A:Around} {ds:List D} {xs:List V} {vs:List Value} (r:Reps X.K H ds xs) (v:Vals xs vs) (S:SortD ds) (h2:2≤vs.length) (h64:vs.length < 64) (hu:A.units+30 < cLine) (κ:SortKind) (hκ:(∀ d∈ds,∃ z,d=.str z)→2≤ds.length→κ=oneType') {Q:SortSt→Shared→Prop}
  (h:∀ (st:SortSt) (q:Array Nat),q.Perm (List.range ds.length).toArray→SPr (fun i j=>ltD (ds.getD i .non) (ds.getD j .non)) q ds.length→(arrOf st).map (·.2)=List.toArray (q.toList.map fun i=>vs.getD i Value.none)→failedOf st=none→Q st s) :
  wpAny (model X.prog X.w) A ((sortRuns').run (SortSt.mk' κ (vs.toArray.zip vs.toArray) #[] 7 none)) (fun r s'=>Q r.2 s') E s:=by
 have hl:ds.length=vs.length:=r.length.trans v.length
 obtain ⟨ok,q,hq,hp,hs⟩:=sort_ok S.ltOk (by lia)
 refine kat_run (ks:=vs) (vs:=vs) (G:=fun p s'=>p=q∧s'=s) rfl h2 h64 (fun p st s' hz ha hf hg=>?_) ?_
 ·obtain ⟨rfl,rfl⟩:=hg
  exact h st p hp hs (kat_snds rfl ha) hf
 ·rw [← hl]
  refine kas_run (n:=ds.length) (lt:=fun i j=>ltD (ds.getD i .non) (ds.getD j .non)) (P:=fun s'=>s'=s) (fun i j C s' hi hj hs' hC=>?_) _ s ok rfl fun s' hs'=>⟨hq,hs'⟩
  subst hs'
  obtain ⟨x,hx,rx⟩:=r.at (List.getElem?_eq_getElem hi)
  obtain ⟨y,hy,ry⟩:=r.at (List.getElem?_eq_getElem hj)
  obtain ⟨u,eu,ru⟩:=v.get hx
  obtain ⟨w,ew,rw'⟩:=v.get hy
  have e1:ds.getD i .non=ds[i]:=by simp [List.getD_eq_getElem?_getD,hi]
  have e2:ds.getD j .non=ds[j]:=by simp [List.getD_eq_getElem?_getD,hj]
  have e3:vs.getD i Value.none=u:=by simp [List.getD_eq_getElem?_getD,eu]
  have e4:vs.getD j Value.none=w:=by simp [List.getD_eq_getElem?_getD,ew]
  have m1:ds[i]∈ds:=List.getElem_mem hi
  have m2:ds[j]∈ds:=List.getElem_mem hj
  have ho:=S.ord _ m1 _ m2
  have hC':=hC s' rfl
  rw [e1,e2] at hC'
  show wpAny (model X.prog X.w) A (keyLt' κ (vs.getD i Value.none) (vs.getD j Value.none)) C (fun _ _=>False) s'
  rw [e3,e4]
  rcases S.tup with T | T
  ·obtain ⟨es,ee,he,_⟩:=T _ m1
   obtain ⟨fs,ef,_,_⟩:=T _ m2
   rw [ee,ef] at hC'
   rw [ee,ef] at ho
   rw [ee] at rx
   rw [ef] at ry
   have hlt:ltD (.tup es) (.tup fs)=ltDs es fs:=by unfold ltD; rfl
   have hoo:ordDs es fs=true:=by unfold ordD at ho; exact ho
   rw [hlt] at hC'
   exact keyLt_D I κ rx ry ru rw' hoo (by lia) hC'
  ·rw [hκ T (by lia),keyLt'_oneType]
   exact oneLt_D I true rx ry ru rw' ho (by obtain ⟨z,ez⟩:=T _ m1; rw [ez]; unfold depD; lia) hC'
theorem lsort_D {A:Around} {a:Addr} {n:Nat} {ds:List D} {xs:List V} {vs:List Value} {P:Fin→Shared→Prop} (ho:s.heap.get? a=some (seqObj "list" vs.toArray n))
  (I:∀ h',(∀ b o,b≠a→s.heap.get? b=some o→h'.get? b=some o)→Inv X pins σ H { s with heap:=h' }) (r:Reps X.K H ds xs) (v:Vals xs vs) (S:SortD ds) (h64:vs.length < 64) (hu:A.units+30 < cLine)
  (h:∀ (q:List Nat) (h':Heap) (m:Nat),q.Perm (List.range ds.length)→q.Pairwise (fun i j=>ltD (ds.getD i .non) (ds.getD j .non)=true)→(∀ b o,b≠a→s.heap.get? b=some o→h'.get? b=some o)→h'.get? a=some (seqObj "list" (q.map fun i=>vs.getD i Value.none).toArray m) →
   P (.done (.ret .none)) { s with heap:=h' }):wpAny (model X.prog X.w) A (Builtin.«list.sort» ⟨[.ref a],[]⟩) P E s:=by
 have hl:ds.length=vs.length:=r.length.trans v.length
 have small:∀ k,k < 64→k≤sizeLine:=fun k hk=>Nat.le_trans (Nat.le_of_lt hk) (by decide)
 rw [list_sort_plain]
 have ha:a < s.heap.objs.size:=Heap.lt_size ho
 have hz:vs.toArray.size≤sizeLine:=by rw [List.size_toArray]; exact small _ h64
 refine wpAny_bind (listItems_at ho rfl (wpAny_bind (listUpdate_at ho rfl ?_ hz (Nat.zero_le _))))
 generalize e1:s.heap.update a (Obj.mapSeq fun _=>#[])=h1
 obtain ⟨m1,ho1⟩:∃ m1,h1.get? a=some (seqObj "list" #[] m1):=⟨_,by rw [← e1]; exact get?_update_seq ho (fun _=>#[])⟩
 have k1:∀ b o,b≠a→s.heap.get? b=some o→h1.get? b=some o:=fun b o hb hq=>by
  rw [← e1,Heap.get?_update_ne _ _ _ _ hb]
  exact hq
 refine wpAny_bind (seqEpoch_at (s:={ s with heap:=h1 }) ho1 rfl (wpAny_bind (wpAny_newTuple ?_ (small _ h64))))
 generalize e2:h1.push { cls:=.type "tuple",data:=.seq vs.toArray }=h2
 have k2:∀ b o,h1.get? b=some o→h2.get? b=some o:=fun b o hq=>by rw [← e2]; exact Heap.get?_push_of_some _ hq
 refine wpAny_bind (wpAny_newList ?_ (Nat.zero_le _))
 generalize e3:Heap.push _ _=h3
 have k3:∀ b o,h2.get? b=some o→h3.get? b=some o:=fun b o hq=>by rw [← e3]; exact Heap.get?_push_of_some _ hq
 have ho3:h3.get? a=some (seqObj "list" #[] m1):=k3 _ _ (k2 _ _ ho1)
 have kk:∀ b o,b≠a→s.heap.get? b=some o→h3.get? b=some o:=fun b o hb hq=>k3 _ _ (k2 _ _ (k1 b o hb hq))
 have I3:Inv X pins σ H { s with heap:=h3 }:=I h3 kk
 refine wpAny_holding ?_
 show wpAny (model X.prog X.w) A _ P E { s with heap:=h3 }
 have fin:∀ (q:List Nat) (out:Array Value),q.Perm (List.range ds.length)→q.Pairwise (fun i j=>ltD (ds.getD i .non) (ds.getD j .non)=true)→out=(q.map fun i=>vs.getD i Value.none).toArray →
   P (.done (.ret .none)) { s with heap:=h3.update a (Obj.mapSeq fun _=>out) }:=fun q out hq hp e=>by
  subst e
  refine h q _ _ hq hp (fun b o hb hs=>?_) (get?_update_seq ho3 (fun _=>_))
  rw [Heap.get?_update_ne _ _ _ _ hb]
  exact kk b o hb hs
 dsimp only
 by_cases h2':vs.toArray.size < 2
 ·rw [if_pos h2']
  refine wpAny_bind (wpAny_pure ?_)
  rw [if_pos h2',StateT.run_pure]
  refine wpAny_bind (wpAny_pure ?_)
  dsimp only
  refine wpAny_bind (seqEpoch_at (s:={ s with heap:=h3 }) ho3 rfl (wpAny_bind (listUpdate_at (s:={ s with heap:=h3 }) ho3 rfl ?_ (Nat.zero_le _) ?_)))
  ·simp only [bne_self_eq_false,Bool.false_eq_true,if_false]
   refine wpAny_pure (fin (List.range ds.length) _ (List.Perm.refl _) ?_ ?_)
   ·rw [List.size_toArray] at h2'
    rw [List.pairwise_iff_getElem]
    intro i j hi hj hij
    simp at hi hj
    lia
   ·apply Array.toList_inj.mp
    show (Array.map (fun x:Value × Value=>x.2) (vs.toArray.zip vs.toArray)).toList=_
    rw [hl,range_getD]
    simp only [Array.toList_map,Array.toList_zip]
    exact List.map_snd_zip (Nat.le_refl _)
  ·show (Array.map (fun x:Value × Value=>x.2) (vs.toArray.zip vs.toArray)).size≤_
   simp
   have:=small _ h64
   lia
 ·rw [if_neg h2']
  have h2v:2≤vs.length:=by rw [List.size_toArray] at h2'; lia
  have kind:∀ Q:SortKind→Shared→Prop,(∀ κ,((∀ d∈ds,∃ z,d=.str z)→2≤ds.length→κ=oneType')→Q κ { s with heap:=h3 })→wpAny (model X.prog X.w) A (keyKind' vs.toArray) Q E { s with heap:=h3 }:=fun Q hQ=>by
   rcases S.tup with T | T
   case inr =>
    refine kas_kind (T:=.type "str") (s:={ s with heap:=h3 }) h2v (fun u hu=>?_) (by decide) (by decide) (hQ _ fun _ _=>rfl)
    obtain ⟨i,hi,rfl⟩:=List.mem_iff_getElem.mp hu
    have hi2:i < ds.length:=by lia
    obtain ⟨x,hx,rx⟩:=r.at (List.getElem?_eq_getElem hi2)
    obtain ⟨u',eu,ru⟩:=v.get hx
    rw [List.getElem?_eq_getElem hi] at eu
    cases eu
    obtain ⟨z,ez⟩:=T _ (List.getElem_mem hi2)
    rw [ez] at rx
    unfold Rep at rx
    subst rx
    obtain ⟨t,et⟩:=ru
    rw [et]
    exact .now
   refine kind_any (s:={ s with heap:=h3 }) (fun u hu=>?_) fun κ=>hQ κ fun hstr hlen=>?b
   case b =>
    have m0:ds[0]'(by lia)∈ds:=List.getElem_mem _
    obtain ⟨es,ee,_⟩:=T _ m0
    obtain ⟨z,ez⟩:=hstr _ m0
    rw [ee] at ez
    cases ez
   obtain ⟨i,hi,rfl⟩:=List.mem_iff_getElem.mp hu
   have hi2:i < ds.length:=by lia
   obtain ⟨x,hx,rx⟩:=r.at (List.getElem?_eq_getElem hi2)
   obtain ⟨u',eu,ru⟩:=v.get hx
   rw [List.getElem?_eq_getElem hi] at eu
   cases eu
   obtain ⟨es,ee,he,hk⟩:=T _ (List.getElem_mem hi2)
   rw [ee] at rx
   unfold Rep at rx
   obtain ⟨b,ys,rfl,hb,r1⟩:=rx
   obtain ⟨its,v1,p1,_⟩:=I3.tuple hb.sq
   obtain ⟨o1,q1,c1,n1,y1⟩:=id p1
   refine ⟨b,o1,its.toArray,n1,ru,q1,c1,y1,fun f hf=>?_⟩
   have hf':its[0]?=some f:=by simpa using hf
   have h0:0 < es.length:=by
    rw [r1.length,v1.length]
    exact (List.getElem?_eq_some_iff.mp hf').1
   obtain ⟨y,hy,ry⟩:=r1.at (List.getElem?_eq_getElem h0)
   obtain ⟨f',ef,rf⟩:=v1.get hy
   rw [hf'] at ef
   cases ef
   have hkey:=hk _ (List.getElem?_eq_getElem h0)
   generalize es[0]=d0 at hkey ry
   cases d0 with
   | str z =>
    unfold Rep at ry
    subst ry
    obtain ⟨t,rfl⟩:=rf
    exact ⟨.type "str",fun M=>.now⟩
   | tup gs =>
    unfold Rep at ry
    obtain ⟨c,zs,rfl,hc,_⟩:=ry
    cases rf
    obtain ⟨its3,_,p3,_⟩:=I3.tuple hc.sq
    obtain ⟨o3,q3,_⟩:=id p3
    exact ⟨o3.cls,fun M=>(Looks.ld q3).andThen .now⟩
   | _=>cases hkey
  refine wpAny_bind (kind _ fun κ hκ=>?_)
  ·rw [if_neg h2']
   refine wpAny_bind (wpAny_mono (run_D I3 r v S h2v h64 hu κ hκ (Q:=fun st s'=>s'={ s with heap:=h3 }∧∃ q:Array Nat,q.Perm (List.range ds.length).toArray∧SPr (fun i j=>ltD (ds.getD i .non) (ds.getD j .non)) q ds.length∧(arrOf st).map (·.2)=List.toArray (q.toList.map fun i=>vs.getD i Value.none)∧failedOf st=none)
    fun st q a1 a2 a3 a4=>⟨rfl,q,a1,a2,a3,a4⟩) ?_ fun _ _ z=>z)
   rintro ⟨⟨⟩,st⟩ s' ⟨rfl,q,a1,a2,a3,a4⟩
   have hql:q.toList.length=ds.length:=by
    have:=a1.size_eq
    simpa using this
   dsimp only
   refine wpAny_bind (seqEpoch_at (s:={ s with heap:=h3 }) ho3 rfl (wpAny_bind (listUpdate_at (s:={ s with heap:=h3 }) ho3 rfl ?_ (Nat.zero_le _) ?_)))
   ·rw [a4]
    simp only [bne_self_eq_false,Bool.false_eq_true,if_false]
    refine wpAny_pure (fin q.toList _ ?_ ?_ a3)
    ·have:=a1.toList
     simpa using this
    ·rw [List.pairwise_iff_getElem]
     intro i j hi hj hij
     have:=a2 i j hij (by lia)
     have g1:q.getD i 0=q.toList[i]:=by rw [getD_eq]; simp [Array.getElem?_eq_getElem (show i < q.size by simpa using hi)]
     have g2:q.getD j 0=q.toList[j]:=by rw [getD_eq]; simp [Array.getElem?_eq_getElem (show j < q.size by simpa using hj)]
     rw [g1,g2] at this
     exact this
   ·show ((arrOf st).map (·.2)).size≤_
    rw [a3]
    simp
    have:=small _ h64
    have:q.size=ds.length:=by simpa using hql
    lia
theorem call_sorted (hu:X.A.units+60 < cLine):CallR X (.builtin "sorted") (fun xs H Q=>∃ p ys ds,xs=[.ref p]∧SqL X.K H p ys∧Reps X.K H ds ys∧SortD ds∧ds.length < 64∧∀ l (q:List Nat),H l=none→q.Perm (List.range ds.length)→q.Pairwise (fun i j=>ltD (ds.getD i .non) (ds.getD j .non)=true)→Q (.ref l) (upd H l (.lst (q.map fun i=>ys.getD i .non)))):=by
 intro pins s σ H xs us Q I rx h
 obtain ⟨p,ys,ds,rfl,hp,r,S,h64,hq⟩:=h
 obtain ⟨u,rfl,ru⟩:=vals1 rx
 cases ru
 obtain ⟨its,v,pl,hz⟩:=I.list hp
 have hl:ds.length=its.length:=r.length.trans v.length
 refine Calls.call_function_entry kind_sorted plain_sorted entry_sorted (args_sorted1 _) ?_
 unfold Builtin.«sorted»
 refine wpAny_bind (m:=checkCount "sorted" 1 1 _) (wpAny_pure ?_)
 have hz':its.length≤sizeLine:=by rw [← v.length]; exact hz
 refine wpAny_bind (collect_list pl.isList (wpAny_bind (wpAny_newList ?_ hz')) hz')
 generalize e1:(s.heap.push (seqObj "list" #[] 0)).update s.heap.objs.size _=h1
 have n1:h1.objs.size=s.heap.objs.size+1:=by rw [← e1,Heap.size_update,size_push']
 have k1:∀ b o,s.heap.get? b=some o→h1.get? b=some o:=fun b o q=>by
  have lt:b < s.heap.objs.size:=Heap.lt_size q
  rw [← e1,Heap.get?_update_ne _ _ _ _ (Nat.ne_of_lt lt)]
  exact Heap.get?_push_of_some _ q
 generalize e2:Heap.push _ _=h2
 have hD:h2.get? h1.objs.size=some (seqObj "list" its.toArray 0):=by rw [← e2]; exact Heap.get?_push_size _ rfl
 have k2:∀ b o,s.heap.get? b=some o→h2.get? b=some o:=fun b o q=>by rw [← e2]; exact Heap.get?_push_of_some _ (k1 b o q)
 have un:X.A.in1.units=X.A.units+1:=rfl
 have un2:X.A.in1.in1.units=X.A.units+2:=rfl
 show wpAny (model X.prog X.w) X.A.in1 (do let _ ← holding [Value.ref h1.objs.size] (call (.builtin "list.sort") [.ref h1.objs.size]); ret (.ref h1.objs.size)) _ X.xe { s with heap:=h2 }
 refine wpAny_bind (wpAny_holding (wpAny_call_entry (s:={ s with heap:=h2 }) slot_list_sort ⟨_,hD,rfl⟩ entry_list_sort ?_ (args_list_sort _)))
 refine lsort_D (s:={ s with heap:=h2 }) (H:=H) (σ:=σ) (pins:=pins) (X:=X) hD (fun h' kp=>?_) r v S (by lia) (by lia) fun q h' m hqp hqs kp he=>⟨_,rfl,?_⟩
 ·refine I.kept (t':=s.toks) fun b o e=>?_
  refine kp b o (fun z=>?_) (k2 b o e)
  have lt:b < s.heap.objs.size:=Heap.lt_size e
  rw [z,n1] at lt
  exact Nat.not_succ_le_self _ (Nat.le_of_lt lt)
 ·refine wpAny_pure ⟨_,rfl,.ref h1.objs.size,upd H h1.objs.size (.lst (q.map fun i=>ys.getD i .non)),?_,rfl,hq _ q (I.hok.fresh (by lia)) hqp hqs⟩
  have hqm:∀ i∈q,i < ys.length:=fun i hi=>by
   have:=hqp.mem_iff.mp hi
   rw [← r.length]
   simpa using this
  refine I.laid (t':=s.toks) (fun b o e=>?_) (by lia) ⟨?_,_,m,v.pick q hqm,he⟩
  ·refine kp b o (fun z=>?_) (k2 b o e)
   have lt:b < s.heap.objs.size:=Heap.lt_size e
   rw [z,n1] at lt
   exact Nat.not_succ_le_self _ (Nat.le_of_lt lt)
  ·have:=hqp.length_eq
   rw [List.length_map,this,List.length_range]
   have:=r.length
   lia
end
end L2
namespace L2
open PySem PySem.Spec PyProof.Rows
section
variable {X:Cx} {EX:St→XK} {K:PySem.W.Frag} {B H H0:Hp} {e:Expr} {es:List Expr} {tA:TVA} {x y:Str} {p pos:Pos}
def vSorted (rx:R) (Q:R→Prop):Prop:=match rx.d with
 | .lst ds=>SortD ds∧ds.length < 64∧∀ ds',ds'.Perm ds→ds'.Pairwise (fun a b=>ltD a b=true)→Q (.own (.lst ds'))
 | _=>False
theorem vf_sorted (hu64:X.A.units+64 < cLine):VF X (.builtin "sorted") vSorted:=by
 have hu:X.A.units+60 < cLine:=by lia
 refine ⟨_,call_sorted hu,fun B H x rx Q Qd s px h k=>?_⟩
 unfold vSorted at h
 split at h
 ·rename_i ds e1
  obtain ⟨hS,hl,hq⟩:=h
  obtain ⟨a,xs,rfl,h1,r1⟩:=px.lst s e1
  refine ⟨a,xs,ds,rfl,SqL.of h1,r1.same s,hS,hl,fun l q hn hp hs=>?_⟩
  have hm:∀ i∈q,i < ds.length:=fun i hi=>by simpa using hp.mem_iff.mp hi
  have hr:((List.range ds.length).map fun i=>ds.getD i .non)=ds:=by
   apply List.ext_getElem
   ·simp
   ·intro i h1 h2
    simp [List.getD_eq_getElem?_getD,h2]
  refine k (.own (.lst (q.map fun i=>ds.getD i .non))) _ B _ (.grow s (same_upd hn _)) ⟨l,rfl,hn,s.free hn,own_newL (r1.pick q hm)⟩ (hq _ ?_ ?_)
  ·have:=hp.map fun i=>ds.getD i .non
   rw [hr] at this
   exact this
  ·rw [List.pairwise_map]
   exact hs
 ·exact h.elim
end
def keyW (w:List Str):List (List Nat):=w.map (·.cps.toList)
theorem keyW_inj:∀ {a b:List Str},keyW a=keyW b→a=b
 | [],[],_=>rfl
 | [],_ :: _,h=>by cases h
 | _ :: _,[],h=>by cases h
 | x :: a,y :: b,h=>by
  injection h with h1 h2
  rw [str_ext h1,keyW_inj h2]
theorem ltDs_way:∀ a b:List Str,ltDs (a.map D.str) (b.map D.str)=decide (keyW a < keyW b)
 | [],[]=>by unfold ltDs; simp [keyW]
 | [],y :: b=>by
  show ltDs [] (.str y :: b.map D.str)=_
  unfold ltDs
  simp [keyW]
 | x :: a,[]=>by
  show ltDs (.str x :: a.map D.str) []=_
  unfold ltDs
  simp [keyW]
 | x :: a,y :: b=>by
  show ltDs (.str x :: a.map D.str) (.str y :: b.map D.str)=decide (x.cps.toList :: keyW a < y.cps.toList :: keyW b)
  unfold ltDs
  rw [ltDs_way a b]
  by_cases e:x=y
  ·subst e
   rw [if_pos (eqD_refl _)]
   exact decide_eq_decide.mpr (by rw [List.cons_lt_cons_iff]; simp [List.lt_irrefl])
  ·rw [if_neg (fun z=>e (D.str.inj (eqD_eq z)))]
   unfold ltD
   refine decide_eq_decide.mpr ?_
   rw [List.cons_lt_cons_iff]
   constructor
   ·exact .inl
   ·rintro (z | ⟨z,_⟩)
    ·exact z
    ·exact absurd (str_ext z) e
theorem keyW_tr {a b c:List (List Nat)} (h1:a < b) (h2:b < c):a < c:=List.lt_trans h1 h2
theorem keyW_as {a b:List (List Nat)} (h1:a < b):¬ b < a:=fun h2=>List.lt_irrefl a (List.lt_trans h1 h2)
theorem keyW_tot (a b:List (List Nat)) (h:a≠b):a < b∨b < a:=by
 by_cases h1:a < b
 ·exact .inl h1
 ·by_cases h2:b < a
  ·exact .inr h2
  ·exact absurd (List.le_antisymm (List.not_lt.mp h2) (List.not_lt.mp h1)) h
def ltW (a b:List Str):Bool:=decide (keyW a < keyW b)
theorem ltD_way (a b:List Str):ltD (wayD a) (wayD b)=ltW a b:=by
 show ltD (.tup (a.map D.str)) (.tup (b.map D.str))=_
 unfold ltD
 exact ltDs_way a b
theorem ltW_tr {a b c:List Str} (h1:ltW a b=true) (h2:ltW b c=true):ltW a c=true:=decide_eq_true (keyW_tr (of_decide_eq_true h1) (of_decide_eq_true h2))
theorem ltW_as {a b:List Str} (h1:ltW a b=true):ltW b a=false:=decide_eq_false (keyW_as (of_decide_eq_true h1))
theorem ltW_tot {a b:List Str} (h:a≠b):ltW a b=true∨ltW b a=true:=(keyW_tot _ _ fun e=>h (keyW_inj e)).imp decide_eq_true decide_eq_true
theorem ord_strs:∀ a b:List Str,ordDs (a.map D.str) (b.map D.str)=true
 | [],_=>by
  show ordDs [] _=true
  unfold ordDs
  rfl
 | _ :: _,[]=>by
  show ordDs (_ :: _) []=true
  unfold ordDs
  rfl
 | x :: a,y :: b=>by
  show ordDs (.str x :: a.map D.str) (.str y :: b.map D.str)=true
  unfold ordDs
  rw [ord_strs a b]
  unfold ordD
  rfl
theorem dep_way (a:List Str):depDs (a.map D.str)=0:=by
 induction a with
 | nil=>rfl
 | cons x a ih =>
  show max (depD (.str x)) (depDs (a.map D.str))=0
  rw [ih]
  rfl
theorem wayD_inj {a b:List Str} (h:wayD a=wayD b):a=b:=by
 have h':a.map D.str=b.map D.str:=D.tup.inj h
 exact (map_str_iff _ _).mp h'
theorem sortD_ways {ws:List (List Str)} (nd:ws.Nodup):SortD (ws.map wayD) where
 tup:=.inl fun d hd=>by
  obtain ⟨w,_,rfl⟩:=List.mem_map.mp hd
  refine ⟨w.map D.str,rfl,by rw [dep_way]; lia,fun x hx=>?_⟩
  rw [List.getElem?_map] at hx
  obtain ⟨z,_,rfl⟩:=Option.map_eq_some_iff.mp hx
  rfl
 ord:=fun d hd e he=>by
  obtain ⟨a,_,rfl⟩:=List.mem_map.mp hd
  obtain ⟨b,_,rfl⟩:=List.mem_map.mp he
  show ordD (.tup _) (.tup _)=true
  unfold ordD
  exact ord_strs a b
 tr:=fun d hd e he f hf=>by
  obtain ⟨a,_,rfl⟩:=List.mem_map.mp hd
  obtain ⟨b,_,rfl⟩:=List.mem_map.mp he
  obtain ⟨c,_,rfl⟩:=List.mem_map.mp hf
  rw [ltD_way,ltD_way,ltD_way]
  exact ltW_tr
 as:=fun d hd e he=>by
  obtain ⟨a,_,rfl⟩:=List.mem_map.mp hd
  obtain ⟨b,_,rfl⟩:=List.mem_map.mp he
  rw [ltD_way,ltD_way]
  exact ltW_as
 tot:=fun d hd e he ne=>by
  obtain ⟨a,_,rfl⟩:=List.mem_map.mp hd
  obtain ⟨b,_,rfl⟩:=List.mem_map.mp he
  rw [ltD_way,ltD_way]
  exact ltW_tot fun z=>ne (by rw [z])
 nd:=by
  rw [List.nodup_iff_pairwise_ne] at nd ⊢
  rw [List.pairwise_map]
  exact nd.imp fun h z=>h (wayD_inj z)
end L2
namespace L2
open PySem PySem.Spec PyProof.Rows
def tDisp1 (tk tv:TE):TE:=fun σ H Q=>∀ p,H p=none→tk σ (upd H p (.dT [])) fun x H1=>tv σ H1 fun y H2=>H2 p=some (.dT [])∧∃ b ks,x=.ref b∧H2 b=some (.tup (ks.map kV))∧Q (.ref p) (upd H2 p (.dT [(ks,y)]))
def onePair (C:V→V→Hp→Prop) (ps:List (V × V)) (H:Hp):Prop:=match ps with
 | [(x,y)]=>C x y H
 | _=>False
theorem onePair_of {C:V→V→Hp→Prop} {ps:List (V × V)} {H:Hp} (h:onePair C ps H):∃ x y,ps=[(x,y)]∧C x y H:=by
 unfold onePair at h
 split at h
 ·exact ⟨_,_,rfl,h⟩
 ·exact h.elim
section
variable {X:Cx} {pos:Pos} {k v:Expr} {tk tv:TE}
theorem pe_disp1 (hu:X.A.units+1 < cLine) (hk:PE X k tk) (hv:PE X v tv):PE X (.Dict [some k] [v] pos) (tDisp1 tk tv):=by
 intro pins s σ H Q I h
 have hn:=I.hok.fresh (Nat.le_refl s.heap.objs.size)
 have I1:=I.laid (a:=s.heap.objs.size) (o:=.dT []) (h':=s.heap.push { cls:=.type "dict",data:=.dict #[] }) (t':=s.toks) (fun _ _ q=>Heap.get?_push_of_some _ q) (Nat.le_refl _) (dt_empty s.heap I.big)
 have P:=pps_cons (pos:=pos) hk hv pps_nil pins _ σ _ (onePair fun x y H2=>H2 s.heap.objs.size=some (.dT [])∧∃ (b:Addr) (ks:List Key),x=.ref b∧H2 b=some (.tup (ks.map kV))∧Q (.ref s.heap.objs.size) (upd H2 s.heap.objs.size (.dT [(ks,y)]))) I1 (h _ hn)
 rw [arm_eval_Dict,zip_pairTrees [some k] [v] X.env pos rfl rfl,dictDisplay_pairs _ (by simp [pairTrees]) (by simp [pairTrees])]
 refine wpAny_bind (wpAny_standAt (wpAny_bind ?_))
 unfold subDict
 refine wpAny_bind (wpAny_alloc (wpAny_bind (wpAny_holding ?_)))
 rw [if_pos (by simp [pairTrees])]
 refine wpAny_bind (wpAny_mono P (fun ws s2 hw=>?_) fun _ _ e=>e)
 obtain ⟨ps,H2,I2,rel,hp⟩:=hw
 obtain ⟨x,y,rfl,e,b,ks,rfl,eb,q2⟩:=onePair_of hp
 cases rel with
 | cons hr rel =>
 cases rel
 obtain ⟨ru,rv⟩:=hr
 rename_i wp
 obtain ⟨u,r⟩:=wp
 obtain rfl:u=Value.ref b:=ru
 obtain ⟨z,hd,xs,rk,dd⟩:=dt_of I2.hok e
 cases rk
 refine wpAny_holding ?_
 rw [List.forIn_cons]
 refine wpAny_bind (wpAny_bind (wpAny_bind (wpAny_dictSet_heap (hsz:=Nat.zero_le _) (show (tupleKind (mixKind X.prog X.w)).room X.A from by show X.A.units < cLine; lia) (key_of I2.hok eb) dd fun h' dd' hs=>wpAny_pure ?_)))
 dsimp only
 rw [List.forIn_nil]
 refine wpAny_pure (wpAny_pure (wpAny_pure (wpAny_pure ⟨.ref s.heap.objs.size,_,?_,rfl,q2⟩)))
 obtain ⟨q,es,ep,hq,g2,g3,g4,_,g5⟩:=dd'
 refine d_write I2 (by rw [e]; exact True.intro) hs ⟨q,hq⟩ ⟨by show 1≤sizeLine; decide,hd,[(ks,b,r)],.cons ⟨rfl,?_,rv⟩ .nil,q,es,ep,hq,g2,g3,g4,g5⟩
 rw [upd_ne (ne_of eb e (fun z=>nomatch z))]
 exact eb
theorem qe_disp1 (hu:X.A.units+1 < cLine) (hk:QE X k tk) (hv:QE X v tv):QE X (.Dict [some k] [v] pos) (tDisp1 tk tv):=⟨pe_disp1 hu hk.u hv.u⟩
end
section
variable {X:Cx} {EX:St→XK} {pos:Pos} {k v:Expr} {tk tv:TV}
def vDisp1 (tk tv:TV):TV:=fun τ Q=>tk τ fun rk=>match rk.d with
 | .tup es=>∃ w:List Str,es=w.map D.str∧("" : Str)∉w∧tv τ fun rv=>exR rv (fun _=>False) (pubR rv fun d=>Q (.own (.dT [w] [d])))
 | _=>False
theorem ve_disp1 (hu:X.A.units+64 < cLine) (hk:VE X EX k tk) (hv:VE X EX v tv):VE X EX (.Dict [some k] [v] pos) (vDisp1 tk tv) :=
 let ⟨_,a1,a2⟩:=hk.u; let ⟨_,b1,b2⟩:=hv.u; ⟨_,qe_disp1 (by lia) a1 b1,fun H0 B H τ σ Q Qd s S h xc kk p hp=>by
  have g0:Stp B H B (upd H p (.dT [])):=.grow s (same_upd hp _)
  refine a2 H0 B (upd H p (.dT [])) τ σ _ _ g0.s (S.step g0) h (xno fun _ q=>q) fun rk vk B1 H1 p1 q1 h1=>?_
  split at h1
  ·rename_i es ek
   obtain ⟨w,rfl,hne,h1⟩:=h1
   obtain ⟨b,rfl,hb⟩:=q1.pk.way ek hne
   have S1:=S.step (g0.trans p1)
   refine b2 H0 B1 H1 τ σ _ _ p1.s S1 h1 (xno fun _ q=>by exact q) fun rv vv B2 H2 p2 q2 h2=>?_
   obtain ⟨d,B3,p3,_,rp,hq⟩:=pub p2 q2 (q2.ok h2)
   have hpp:(upd H p (.dT [])) p=some (.dT []):=upd_same
   have e1:H1 p=some (.dT []):=p1.h _ _ hpp
   have e2:H2 p=some (.dT []):=p3.h _ _ e1
   refine ⟨e2,b,wK w,rfl,?_,?_⟩
   ·rw [wK_kV]
    exact p3.h _ _ (p1.s _ _ hb)
   ·have hB3:B3 p=none:=(p1.trans p3).keep (s.free hp) (by rw [hpp]; exact fun z=>by cases z) fun xs z=>by rw [hpp] at z; cases z
    refine kk (.own (.dT [w] [d])) _ B3 _ ?_ ⟨p,rfl,hp,hB3,?_⟩ hq
    ·exact (g0.trans (p1.trans p3)).upd hp hB3
    ·refine ⟨[(wK w,vv)],upd_same,rfl,.cons rp .nil⟩
  ·exact h1.elim⟩
end
end L2
namespace L2
open PySem PySem.Spec PyProof.Rows
theorem Room.dict {k:Nat} {A:Around} (r:Room k A):A.units+64 < cLine:=by
 have:=r.un
 lia
end L2
namespace L2
open PySem PySem.Spec PyProof.Rows
section
variable {X:Cx} {EX:St→XK} {a:Expr} {ta:TV} {p pos:Pos}
end
end L2
namespace L2
open PySem PySem.Spec PyProof.Rows
theorem eqW (a b:List Str):eqD (.tup (a.map D.str)) (.tup (b.map D.str))=decide (a=b):=bool_iff (by
  rw [eqD_iff,decide_eq_true_eq]
  exact ⟨fun z=>wayD_inj z,fun z=>by rw [z]⟩)
theorem cmpW (a b:List Str):cmpD (.tup (a.map D.str)) (.tup (b.map D.str))=true:=by
 unfold cmpD
 exact cmp_strs _ _
theorem depW (a:List Str):depD (.tup (a.map D.str))≤50:=by
 unfold depD
 rw [dep_strs]
 decide
def unW:D→List Str
 | .tup es=>(strsOf es).getD []
 | _=>[]
theorem unW_way (w:List Str):unW (wayD w)=w:=by
 show (strsOf (w.map D.str)).getD []=w
 rw [strsOf_map]
 rfl
theorem ways_back {ds:List D} {ws:List (List Str)} (hp:ds.Perm (ws.map wayD)) (hs:ds.Pairwise (fun a b=>ltD a b=true)):∃ vs:List (List Str),ds=vs.map wayD∧vs.Perm ws∧vs.Pairwise (fun a b=>ltW a b=true):=by
 have e:ds=(ds.map unW).map wayD:=by
  rw [List.map_map]
  refine (List.map_id _).symm.trans (List.map_congr_left fun d hd=>?_)
  obtain ⟨w,_,rfl⟩:=List.mem_map.mp (hp.mem_iff.mp hd)
  show wayD w=wayD (unW (wayD w))
  rw [unW_way]
 refine ⟨ds.map unW,e,?_,?_⟩
 ·have:=hp.map unW
  rw [List.map_map] at this
  exact this.trans (List.Perm.of_eq ((List.map_congr_left fun w _=>unW_way w).trans (List.map_id _)))
 ·rw [e,List.pairwise_map] at hs
  exact hs.imp fun h=>by rw [← ltD_way]; exact h
abbrev Row:=List Str × Str × Str
def rowD (r:Row):D:=.tup [wayD r.1,.str r.2.1,.str r.2.2]
theorem nodup_one {rs:List Row} (nd:(rs.map (·.1)).Nodup) {a b:Row} (ha:a∈rs) (hb:b∈rs) (h:a.1=b.1):a=b:=by
 induction rs with
 | nil=>cases ha
 | cons r rs ih =>
  rw [List.map_cons,List.nodup_cons] at nd
  rcases List.mem_cons.mp ha with ea | ha2
  ·rcases List.mem_cons.mp hb with eb | hb2
   ·rw [ea,eb]
   ·exact absurd (show r.1∈rs.map (·.1) from List.mem_map.mpr ⟨b,hb2,by rw [← h,ea]⟩) nd.1
  ·rcases List.mem_cons.mp hb with eb | hb2
   ·exact absurd (show r.1∈rs.map (·.1) from List.mem_map.mpr ⟨a,ha2,by rw [h,eb]⟩) nd.1
   ·exact ih nd.2 ha2 hb2
abbrev RSorted (rs:List Row):Prop:=rs.Pairwise (fun a b=>ltW a.1 b.1=true)
def rowsL (rs:List Row):D:=.lst (rs.map rowD)
section
variable {X:Cx} {pins:List (Addr × Obj)} {σ:St} {H:Hp} {s:Shared}
theorem rn_tup {A:Around} (I:Inv X pins σ H s) {a b:Addr} {ds es:List D} {xs ys:List V} (ha:SqT X.K H a xs) (hb:SqT X.K H b ys) (r1:Reps X.K H ds xs) (r2:Reps X.K H es ys) (hc:cmpDs ds es=true) (hu:A.units < cLine)
  (ih:∀ d∈ds,∀ (e:D) (v z:V) (u w:Value),Rep X.K H d v→Rep X.K H e z→RelV v u→RelV z w→cmpD d e=true→SeqAt.EqAt A.in1 s u w (eqD d e)):SeqAt.RcNeAt A s (.ref a) (.ref b) (!eqD (.tup ds) (.tup es)):=by
 obtain ⟨its,v1,p1,_⟩:=I.tuple ha
 obtain ⟨its2,v2,p2,_⟩:=I.tuple hb
 have:=SeqAt.RcNeAt.tuples (A:=A) (s:=s) (e:=fun j=>eqD (ds.getD j .non) (es.getD j .non)) (show s.heap.IsTuple a its.toArray from p1) (show s.heap.IsTuple b its2.toArray from p2) hu (items_D r1 r2 v1 v2 hc ih)
 rw [List.size_toArray,List.size_toArray,← v1.length,← v2.length,← r1.length,← r2.length,eqDs_range] at this
 rw [eqD_tup]
 exact this
theorem rn_lst {A:Around} (I:Inv X pins σ H s) {a b:Addr} {ds es:List D} {xs ys:List V} (ha:H a=some (.lst xs)) (hb:H b=some (.lst ys)) (r1:Reps X.K H ds xs) (r2:Reps X.K H es ys) (hc:cmpDs ds es=true) (hu:A.units < cLine)
  (ih:∀ d∈ds,∀ (e:D) (v z:V) (u w:Value),Rep X.K H d v→Rep X.K H e z→RelV v u→RelV z w→cmpD d e=true→SeqAt.EqAt A.in1 s u w (eqD d e)):SeqAt.RcNeAt A s (.ref a) (.ref b) (!eqD (.lst ds) (.lst es)):=by
 obtain ⟨its,v1,p1,_⟩:=I.list (SqL.of ha)
 obtain ⟨its2,v2,p2,_⟩:=I.list (SqL.of hb)
 have er:=eqDs_range ds es
 rw [eqD_lst]
 by_cases hl:ds.length=es.length
 ·have hz:its.toArray.size=its2.toArray.size:=by rw [List.size_toArray,List.size_toArray,← v1.length,← v2.length,← r1.length,← r2.length,hl]
  have:=SeqAt.RcNeAt.lists (A:=A) (s:=s) (e:=fun j=>eqD (ds.getD j .non) (es.getD j .non)) p1.isList p2.isList hz hu (items_D r1 r2 v1 v2 hc ih)
  rw [List.size_toArray,← v1.length,← r1.length] at this
  rw [← hl,Nat.min_self] at er
  have e2:(ds.length == ds.length)=true:=by simp
  rw [e2,Bool.and_true] at er
  rw [er] at this
  exact this
 ·have e2:(ds.length == es.length)=false:=by simpa using hl
  rw [e2,Bool.and_false] at er
  rw [← er]
  refine SeqAt.RcNeAt.lists_lengths p1.isList p2.isList ?_ hu
  rw [List.size_toArray,List.size_toArray,← v1.length,← v2.length,← r1.length,← r2.length]
  simpa using hl
theorem op_neD (hu:X.A.units+60 < cLine):OpR X (compareOp .NotEq) (rEqD X.K not):=by
 intro pins s σ H x y v u Q I rx ry h
 obtain ⟨d,e,hd,he,hc,hn,q⟩:=h
 have fin:EP X pins σ Q (.bool (!eqD d e)) s:=⟨.bl (!eqD d e),H,I,rfl,q⟩
 have un:X.A.in1.units=X.A.units+1:=rfl
 cases d with
 | tup ds =>
  cases e with
  | tup es =>
   unfold Rep at hd he
   obtain ⟨a,xs,rfl,ha,r1⟩:=hd
   obtain ⟨b,ys,rfl,hb,r2⟩:=he
   cases rx
   cases ry
   unfold cmpD at hc
   unfold depD at hn
   exact rn_tup I ha.sq hb.sq r1 r2 hc (by lia) (fun d hd e v z u w h1 h2 h3 h4 h5=>eqAt_D I _ X.A.in1 d e v z u w (Nat.le_refl _) h1 h2 h3 h4 h5 (by have:=depD_mem hd; lia)) _ _ _ _ fin
  | _=>unfold cmpD at hc; cases hc
 | lst ds =>
  cases e with
  | lst es =>
   unfold Rep at hd he
   obtain ⟨a,xs,rfl,ha,r1⟩:=hd
   obtain ⟨b,ys,rfl,hb,r2⟩:=he
   cases rx
   cases ry
   unfold cmpD at hc
   unfold depD at hn
   exact rn_lst I ha hb r1 r2 hc (by lia) (fun d hd e v z u w h1 h2 h3 h4 h5=>eqAt_D I _ X.A.in1 d e v z u w (Nat.le_refl _) h1 h2 h3 h4 h5 (by have:=depD_mem hd; lia)) _ _ _ _ fin
  | _=>unfold cmpD at hc; cases hc
 | _ =>
  obtain ⟨v',z',q1,q2,q3⟩:=scal_of hc (fun _ h=>by cases h) (fun _ h=>by cases h)
  have e1:=rep_scal hd q1
  have e2:=rep_scal he q2
  subst e1 e2
  have q':Q (.bl (!eqD _ _)) H:=q
  rw [eqD_scal q1 q2] at q'
  exact op_ne pins s σ H _ _ v u Q I rx ry ⟨q3,q'⟩
def vNeD (rx ry:R) (Q:R→Prop):Prop:=cmpD rx.d ry.d=true∧depD rx.d≤50∧Q (.val (.bl (!eqD rx.d ry.d)))
theorem vo_neD (hu:X.A.units+64 < cLine):VO X (compareOp .NotEq) vNeD :=
 ⟨_,op_neD (by lia),fun B H x y rx ry Q Qd s px py h k=>⟨rx.d,ry.d,px.rep s,py.rep s,h.1,h.2.1,k _ _ B H (.refl s) (repV rfl) h.2.2⟩⟩
end
section
variable {X:Cx} {pos p2:Pos} {e st:Expr} {te:TE} {lo hi:Option Expr} {tl th ts:TO}
end
section
variable {X:Cx} {EX:St→XK} {pos p2:Pos} {e st:Expr} {te:TV} {lo hi:Option Expr} {tl th ts:TVO} {K:PySem.W.Frag} {B:Hp}
end
end L2
namespace L2
section
variable {α:Type} [DecidableEq α]
end
section
variable {α β:Type} [DecidableEq α]
end
end L2
namespace L2
open PySem
abbrev mFolder:Str:="folder"
abbrev mShut:Str:="shut"
abbrev mGone:Str:="gone"
abbrev mFile:Str:="file"
abbrev mLink:Str:="link"
abbrev tEmpty:Str:=""
def inR (p:List Row) (w:List Str):Bool:=decide (w∈p.map (·.1))
def markR (p:List Row) (w:List Str):Option Str:=(p.find? fun r=>decide (r.1=w)).map (·.2.1)
def hidesO:Option Str→Bool
 | none=>false
 | some m=>!decide (m=mFolder)
def hidBy (p:List Row) (w:List Str):Bool:=(List.range w.length).any fun k=>hidesO (markR p (w.take k))
theorem markR_in (p:List Row) (w:List Str):(markR p w).isSome=inR p w:=by
 unfold markR inR
 rw [Option.isSome_map]
 by_cases h:w∈p.map (·.1)
 ·rw [decide_eq_true h,List.find?_isSome]
  obtain ⟨r,mr,er⟩:=List.mem_map.mp h
  exact ⟨r,mr,decide_eq_true er⟩
 ·rw [decide_eq_false h,Bool.eq_false_iff]
  intro q
  rw [List.find?_isSome] at q
  obtain ⟨r,mr,er⟩:=q
  exact h (List.mem_map.mpr ⟨r,mr,of_decide_eq_true er⟩)
structure TreeOk (tr:List Row):Prop where
 so:RSorted tr
 cl:∀ r∈tr,r.1≠[]∧(r.1.dropLast=[]∨r.1.dropLast∈tr.map (·.1))
structure PaneOk (p:List Row):Prop where
 so:RSorted p
 cl:∀ r∈p,r.1=[]∨r.1.dropLast=[]∨∃ q∈p,q.1=r.1.dropLast∧q.2.1≠mGone
 mr:∀ r∈p,(r.2.1=mFile∨r.2.1=mLink)∨(r.2.1=mFolder∧r.2.2=tEmpty)∨r.2.1=mShut∨r.2.1=mGone
 rt:∀ r∈p,r.1=[]→r.2.1=mShut
structure Clo (tr:List Row):Prop where
 so:RSorted tr
 cl:∀ r∈tr,r.1=[]∨r.1.dropLast=[]∨r.1.dropLast∈tr.map (·.1)
def thD:Str × Str→D:=fun t=>.tup [.str t.1,.str t.2]
def WyOk (w:List Str):Prop:=w.length≤20∧∀ z∈w,1≤z.length∧z.length≤12
def Wy14 (w:List Str):Prop:=w.length≤14∧∀ z∈w,1≤z.length∧z.length≤12
theorem Wy14.ok {w:List Str} (h:Wy14 w):WyOk w:=⟨by have:=h.1; lia,h.2⟩
theorem WyOk.ne {w:List Str} (h:WyOk w):("" : Str)∉w:=fun m=>by
 have:=(h.2 _ m).1
 have e:("" : Str).length=0:=by decide +kernel
 lia
def prR (r:Row):List Str × D:=(r.1,thD r.2)
theorem lkP_pr (rs:List Row) (w:List Str):lkP (rs.map prR) w=(rs.find? fun r=>decide (r.1=w)).map fun r=>thD r.2:=by
 unfold lkP
 rw [List.find?_map,Option.map_map]
 rfl
theorem ways_pr (rs:List Row):(rs.map prR).map (·.1)=rs.map (·.1):=by rw [List.map_map]; rfl
theorem ints_all:∀ (es:List D),(∀ e∈es,∃ z:Int,e=.int z)→∃ cs:List Int,es=cs.map D.int
 | [],_=>⟨[],rfl⟩
 | e :: es,h=>by
  obtain ⟨z,rfl⟩:=h e (List.mem_cons_self ..)
  obtain ⟨cs,rfl⟩:=ints_all es fun x hx=>h x (List.mem_cons_of_mem _ hx)
  exact ⟨z :: cs,rfl⟩
def bulk (p:List Row):Nat:=(p.filter fun r=>!decide (r.1=[])).length
def mkOk (r:Row):Prop:=(r.2.1=mFile∨r.2.1=mLink)∨(r.2.1=mFolder∧r.2.2=tEmpty)∨r.2.1=mShut∨r.2.1=mGone
def FS (m:Str):Prop:=m=mFolder∨m=mShut
def FolIn (rs:List Row) (f:List Str):Prop:=Wy14 f∧(f=[]∨∃ q∈rs,q.1=f∧FS q.2.1)
def RowIn (rs:List Row) (r:Row):Prop:=(r.1=[]∧r.2.1=mShut)∨(r.1≠[]∧Wy14 r.1∧FolIn rs r.1.dropLast∧mkOk r)
structure PInv (i:Nat) (rs:List Row) (fs:List (List Str)):Prop where
 nd:(rs.map (·.1)).Nodup
 row:∀ r∈rs,RowIn rs r
 blk:bulk rs≤i
 len:rs.length≤i+1
 ne:fs≠[]
 fol:∀ f∈fs,FolIn rs f
 fln:fs.length≤i+1
 nu:∀ r∈rs,r.2.1=mGone∨r.2.1=mShut→hidBy rs r.1=false
def lkR (rs:List Row) (w:List Str):Str × Str:=((rs.find? fun r=>decide (r.1=w)).map (·.2)).getD (tEmpty,tEmpty)
theorem find_one {rs:List Row} (nd:(rs.map (·.1)).Nodup) {r:Row} (h:r∈rs):(rs.find? fun q=>decide (q.1=r.1))=some r:=by
 cases e:rs.find? fun q=>decide (q.1=r.1) with
 | none=>exact absurd (decide_eq_true rfl) (List.find?_eq_none.mp e r h)
 | some q =>
  have h1:=List.mem_of_find?_eq_some e
  have h2:q.1=r.1:=of_decide_eq_true (p:=q.1=r.1) (by simpa using List.find?_some e)
  rw [nodup_one nd h1 h h2]
theorem rows_of_ways {rs:List Row} (nd:(rs.map (·.1)).Nodup) {vs:List (List Str)} (hv:vs.Perm (rs.map (·.1))) (hs:vs.Pairwise (fun a b=>ltW a b=true)):(vs.map fun w=>(w,lkR rs w)).Perm rs∧RSorted (vs.map fun w=>(w,lkR rs w)):=by
 constructor
 ·refine (hv.map _).trans (List.Perm.of_eq ?_)
  rw [List.map_map]
  refine (List.map_congr_left fun r hr=>?_).trans (List.map_id _)
  show (r.1,lkR rs r.1)=r
  unfold lkR
  rw [find_one nd hr]
  rfl
 ·show List.Pairwise _ (List.map _ _)
  rw [List.pairwise_map]
  exact hs
theorem lkP_lkR {rs:List Row} (nd:(rs.map (·.1)).Nodup) {w:List Str} (h:w∈rs.map (·.1)):lkP (rs.map prR) w=some (thD (lkR rs w)):=by
 obtain ⟨r,mr,rfl⟩:=List.mem_map.mp h
 rw [lkP_pr]
 unfold lkR
 rw [find_one nd mr]
 rfl
def s6 (u:Nat):Nat:=u % 99991 % 9+(u+96542 * 1) % 99991 % 9+(u+96542 * 2) % 99991 % 9+(u+96542 * 3) % 99991 % 9+(u+96542 * 4) % 99991 % 9+(u+96542 * 5) % 99991 % 9
end L2
namespace L2
open PySem PySem.Spec PyProof.Rows
mutual
def tupO:D→Bool
 | .non=>true
 | .bl _=>true
 | .int _=>true
 | .str _=>true
 | .tup ds=>tupOs ds
 | _=>false
def tupOs:List D→Bool
 | []=>true
 | d :: ds=>tupO d && tupOs ds
end
def dele (B:Hp) (ad:Addr):Hp:=fun a=>if a=ad then none else B a
section
variable {K:PySem.W.Frag} {B:Hp} {ad:Addr}
theorem dele_ne {a:Addr} (h:a≠ad):dele B ad a=B a:=if_neg h
mutual
theorem Rep.less (hl:∀ xs,B ad≠some (.tup xs)):∀ (d:D) (v:V),tupO d=true→Rep K B d v→Rep K (dele B ad) d v
 | .non,v,_,r=>by unfold Rep at r ⊢; exact r
 | .bl _,v,_,r=>by unfold Rep at r ⊢; exact r
 | .int _,v,_,r=>by unfold Rep at r ⊢; exact r
 | .str _,v,_,r=>by unfold Rep at r ⊢; exact r
 | .tup ds,v,h,r=>by
  unfold Rep at r ⊢
  unfold tupO at h
  obtain ⟨a,xs,e,t,rs⟩:=r
  refine ⟨a,xs,e,?_,Reps.less hl ds xs h rs⟩
  rcases t with t | t
  ·left
   rw [dele_ne (show a≠ad from fun z=>hl xs (by rw [← z]; exact t))]
   exact t
  ·exact .inr t
 | .lst _,_,h,_=>by unfold tupO at h; cases h
 | .dT _ _,_,h,_=>by unfold tupO at h; cases h
 | .dK _ _,_,h,_=>by unfold tupO at h; cases h
 | .scr _,_,h,_=>by unfold tupO at h; cases h
 | .kt _,_,h,_=>by unfold tupO at h; cases h
 | .exc _,_,h,_=>by unfold tupO at h; cases h
theorem Reps.less (hl:∀ xs,B ad≠some (.tup xs)):∀ (ds:List D) (vs:List V),tupOs ds=true→Reps K B ds vs→Reps K (dele B ad) ds vs
 | [],vs,_,r=>by unfold Reps at r ⊢; exact r
 | d :: ds,vs,h,r=>by
  unfold Reps at r ⊢
  unfold tupOs at h
  rw [Bool.and_eq_true] at h
  obtain ⟨x,xs,e,r1,r2⟩:=r
  exact ⟨x,xs,e,Rep.less hl d x h.1 r1,Reps.less hl ds xs h.2 r2⟩
end
end
def tupR (r:R) (Q:R→Prop):Prop:=match r with
 | .val d=>tupO d=true∧Q (.val d)
 | .own (.lst ds)=>tupOs ds=true∧Q (.own (.lst ds))
 | _=>False
def vCalC (g:DP) (i:Nat) (tA:TVA):TV:=fun τ Q=>match τ[i]? with
 | some (some (.own d))=>tA τ fun a=>exA a (fun _=>False) fun ds=>g (d :: ds) fun r=>tupR r Q
 | _=>False
section
variable {X:Cx} {EX:St→XK} {pos p:Pos} {x y:Str} {es:List Expr} {tA:TVA}
theorem ve_calC {k:Nat} {ps:List Str} {g:DP} {i:Nat} {p2:Pos} (C:Cal X.prog X.w X.K X.mg X.base k x ps (spOf X.K g)) (hr:Room k X.A) (hg:Gl X x) (ha:VA X EX es tA) (hN:X.N[i]?=some y:=by rfl) (hv:Vis X.env.scope y:=by first | exact Or.inl rfl | exact Or.inr (Or.inl rfl) | exact Or.inr (Or.inr rfl))
  (hd:(y == ("__debug__" : Str))=false:=by decide) (hcd:(y == ("__classdict__" : Str))=false:=by decide) (hp:(Expr.Name y p2 :: es).all plainE=true:=by rfl) (hdb:(x == ("__debug__" : Str))=false:=by decide) :
  VE X EX (.Call (.Name x p) (.Name y p2 :: es) [] pos) (vCalC g i tA) :=
 let ⟨_,a1,a2⟩:=ha.u; ⟨_,qe_cal C hr hg (qac (qv i hN hv hd hcd) a1 rfl) hp hdb,fun H0 B H τ σ Q Qd s S h xc kk=>by
  unfold vCalC at h
  split at h
  ·rename_i d e1
   obtain ⟨ad,e2,_,hb,ow⟩:=S.own i d e1
   refine ⟨.ref ad,e2,a2 H0 B H τ σ _ _ s S h (xno fun _ q=>q) fun ds vs B1 H1 p1 q1 h1=>?_⟩
   have ow1:OwnAt X.K B1 H1 d ad:=ow.step p1.b (p1.h.at ow.some)
   have hb1:B1 ad=none:=p1.keep hb ow.some ow.nt
   obtain ⟨o,eo,rp⟩:=ow1.pub hb1
   refine ⟨d :: ds,upd B1 ad o,_,same_updL p1.s eo,?_,h1,fun n C B' H' hq _ _=>?_,fun r v B2 H2 hq p2 q2=>?_⟩
   ·rw [List.append_nil]
    exact .cons rp (q1.same (same_upd hb1 _))
   ·exact (show False from hq).elim
   ·have hB2:B2 ad=some o:=p2.b _ _ upd_same
    have nt:∀ xs,B2 ad≠some (.tup xs):=fun xs z=>by
     rw [hB2] at z
     cases z
     exact ow1.nt xs eo
    have st:Stp B H (dele B2 ad) H2:=by
     refine ⟨fun a ob e=>?_,p1.h.trans p2.h,fun a ob e=>?_,fun a hne=>?_⟩
     ·have na:a≠ad:=fun z=>by rw [z,hb] at e; cases e
      rw [dele_ne na]
      exact p2.b _ _ (by rw [upd_ne na]; exact p1.b _ _ e)
     ·by_cases na:a=ad
      ·unfold dele at e
       rw [if_pos na] at e
       cases e
      ·rw [dele_ne na] at e
       exact p2.s _ _ e
     ·by_cases na:a=ad
      ·unfold dele at hne
       rw [if_pos na] at hne
       exact absurd rfl hne
      ·rw [dele_ne na] at hne
       rcases p2.d a hne with z | z | ⟨xs,z⟩
       ·rw [upd_ne na] at z
        exact p1.d a z
       ·exact .inr (.inl (p1.h.free z))
       ·cases e:H a with
        | none=>exact .inr (.inl rfl)
        | some ob =>
         rw [p1.h _ _ e] at z
         exact .inr (.inr ⟨xs,z⟩)
    unfold tupR at hq
    split at hq
    ·rename_i d'
     exact kk (.val d') _ (dele B2 ad) H2 st (Rep.less nt d' v hq.1 q2) hq.2
    ·rename_i es'
     obtain ⟨a',e',f1,f2,xs,f3,f4⟩:=q2
     refine kk (.own (.lst es')) _ (dele B2 ad) H2 st ⟨a',e',p1.h.free f1,?_,xs,f3,Reps.less nt es' xs hq.1 f4⟩ hq.2
     unfold dele
     split
     ·rfl
     ·exact f2
    ·exact hq.elim
  ·exact h.elim⟩
end
end L2
namespace L2
open PySem PySem.Spec PyProof.Rows
structure PaneC (p:List Row):Prop where
 so:RSorted p
 cl:∀ r∈p,r.1=[]∨r.1.dropLast=[]∨∃ q∈p,q.1=r.1.dropLast∧q.2.1≠mGone
section
variable {α:Type} {f:α→D} {τ:VSt} {k:Nat} {g:TVG} {ti:TVT} {te:TV} {Q:R→Prop}
end
theorem tupO_strs:∀ ss:List Str,tupOs (ss.map D.str)=true
 | []=>by
  show tupOs []=true
  unfold tupOs
  rfl
 | x :: ss=>by
  show tupOs (.str x :: ss.map D.str)=true
  unfold tupOs tupO
  rw [tupO_strs ss]
  rfl
theorem tupO_row (r:Row):tupO (rowD r)=true:=by
 show tupO (.tup [.tup (r.1.map D.str),.str r.2.1,.str r.2.2])=true
 simp only [tupO,tupOs,tupO_strs,Bool.and_self]
theorem tupO_rows:∀ rs:List Row,tupOs (rs.map rowD)=true
 | []=>by
  show tupOs []=true
  unfold tupOs
  rfl
 | r :: rs=>by
  show tupOs (rowD r :: rs.map rowD)=true
  unfold tupOs
  rw [tupO_row,tupO_rows rs]
  rfl
def s5 (u:Nat):Nat:=u % 99991 % 8+(u+96542 * 1) % 99991 % 8+(u+96542 * 2) % 99991 % 8+(u+96542 * 3) % 99991 % 8+(u+96542 * 4) % 99991 % 8
theorem v_if {t:TVT} {a b:TVS} {Dv:VEnds} {τ:VSt} (P:Bool→Prop) (ht:∀ Y:Bool→Prop,(∀ c,P c→Y c)→t τ Y) (ha:P true→a Dv τ) (hb:P false→b Dv τ):vIfS t a b Dv τ :=
 ht _ fun c hc=>by
  cases c with
  | true=>exact iteT (ha hc)
  | false=>exact iteF (hb hc)
end L2
namespace L2
open PySem PySem.Spec PyProof.Rows
section
variable {X:Cx} {pins:List (Addr × Obj)} {σ:St} {H:Hp} {s:Shared} {h':Heap}
end
section
variable {X:Cx} {elts:List Expr} {kk:Nat} {tp p pos:Pos}
end
section
variable {X:Cx} {EX:St→XK} {elts:List Expr} {kk:Nat} {tp p pos:Pos} {K:PySem.W.Frag} {B:Hp} {a:Expr} {ta:TV}
end
end L2
namespace L2
open PySem PySem.Spec PyProof.Rows
section
variable {prog:Program} {w:World} {A:Around}
end
section
variable {X:Cx} {p kp pos:Pos} {a d:Expr}
end
section
variable {X:Cx} {EX:St→XK} {p kp pos cp:Pos} {a:Expr} {te:TV} {j:Nat}
end
end L2
namespace L2
open PySem PySem.Spec PyProof.Rows
section
variable {X:Cx} {EX:St→XK} {pos pos' p apos cpos:Pos} {x y:Str} {e:Expr}
def vPop0 (j i:Nat):TVS:=fun Dv τ=>ownL τ i fun ds=>match ds with
 | d :: rest=>Dv.nx ((τ.set i (some (.own (.lst rest)))).set j (some (.val d)))
 | []=>False
theorem vs_pop0 {j i:Nat} (hnd:X.N.Nodup) (hj:X.N[j]?=some x) (hx:Loc X.env.scope x) (h:VE X EX e (vC (.int 0))) (hN:X.N[i]?=some y:=by rfl) (hv:Vis X.env.scope y:=by first | exact Or.inl rfl | exact Or.inr (Or.inl rfl) | exact Or.inr (Or.inr rfl)) (hd:(y == ("__debug__" : Str))=false:=by decide)
  (hcd:(y == ("__classdict__" : Str))=false:=by decide) (hp:plainE e=true:=by rfl)
  (hbase:attributeBase (.Name y p) "pop" X.env (eval (.Name y p) X.env)=eval (.Name y p) X.env:=by rfl) (hline:(apos.endLine == cpos.line)=true:=by rfl)
  (hs:swapsWith (.Call (.Attribute (.Name y p) "pop" apos) [e] [] cpos) (some (.Name x pos')) pos.line X.env=pure false:=by rfl)
  (hf:X.fn x=true∨X.env.scope.names.lookup x=some .local:=by first | exact .inl rfl | exact .inr rfl | assumption) :
  VS X EX (.Assign [.Name x pos'] (.Call (.Attribute (.Name y p) "pop" apos) [e] [] cpos) pos) (vPop0 j i) :=
 let ⟨_,a1,a2⟩:=h.u; ⟨_,qs_set hnd hj hx (qbm PySem.F.plainAttrs_list PySem.F.slot_list_pop PySem.F.type_list_pop mt_popAt (qv i hN hv hd hcd) (qac a1 qa_nil hp) (by simp [hp]) rfl hbase hline) hs hf,fun B0 H0 B H τ σ Dv Dh p S h E=>by
  obtain ⟨ds,ad,xs,e1,h,e2,e3,_⟩:=S.ownL h
  cases ds with
  | nil=>exact h.elim
  | cons d0 rest =>
  refine ⟨.ref ad,e2,.inl ⟨rfl,xs,SqL.of e3⟩,a2 H0 B H τ σ _ (fun r=>r=.val (.int 0)) p.s S rfl (fun n C B' H' _ _ z=>by cases z) fun r v B' H' q hr hq=>?_⟩
  subst hq
  have ev:v=.int 0:=hr.pk.scal (z:=.int 0) rfl
  subst ev
  have S2:=S.step q
  obtain ⟨a',q1,_,_,xs2,q4,q3⟩:=S2.own i _ e1
  rw [e2] at q1
  cases q1
  have hl:=q3.length
  unfold Reps at q3
  obtain ⟨w,xs3,rfl,r1,r2⟩:=q3
  refine ⟨ad,w :: xs3,0,0,w,rfl,rfl,q4,by decide,by decide,?_,rfl,?_⟩
  ·rw [seqIndex_of (by decide) (by rw [List.length_cons]; lia)]
   rfl
  ·obtain ⟨p3,S3⟩:=S2.lst (p.trans q) e1 e2 r2
   exact E.nx B' _ _ _ p3 (S3.setVal j r1) h⟩
end
end L2
namespace L2
open PySem PySem.Spec PyProof.Rows
section
variable {X:Cx} {pins:List (Addr × Obj)} {σ:St} {H:Hp} {s:Shared} {tg:Expr}
theorem Inv.frzD {a:Addr} {kvs:List (List Key × V)} (I:Inv X pins σ H s) (e:H a=some (.dT kvs)):∃ o,Inv X pins σ (upd H a (.frz o (.dT kvs))) s:=by
 have ok:ObjOk X.prog X.w H s.heap a (.dT kvs):=I.hok a _ e
 obtain ⟨_,_,_,_,o,es,ep,h1,_⟩:=id ok
 have nt:∀ c xs,H c=some (.tup xs)→c≠a:=fun c xs q z=>by rw [z,e] at q; cases q
 have no:∀ c,H c=some (.own a)→c≠a:=fun c q z=>by rw [z,e] at q; cases q
 refine ⟨o,I.write (x:=a) (e:=a) (t':=s.toks) (h':=s.heap) (by rw [e]; exact trivial) (.inl rfl) (fun _ _ _ q=>q) ⟨o,h1⟩ ⟨h1,ok.stay (fun _ _ _ q=>q) (fun c q=>by rw [upd_ne (no c q)]; exact q) fun c xs q=>by rw [upd_ne (nt c xs q)]; exact q⟩⟩
def Itf (a:Addr) (o:Obj) (kvs:List (List Key × V)):It :=
 ⟨fun i H=>H a=some (.frz o (.dT kvs))∧i < kvs.length,fun i H x H'=>H'=H∧∃ (b:Addr) (k:List Key),x=.ref b∧kvs[i]?.map (·.1)=some k∧H b=some (.tup (k.map kV)),fun i H=>H a=some (.frz o (.dT kvs))∧kvs.length≤i⟩
theorem raw_same {h:Heap} {a:Addr} {o:Obj} {es es':Array DictEntry} {ep ep':Nat} (x:RawD h a es' ep') (h1:h.get? a=some o) (hd:o.data=.dict es ep):ep'=ep:=by
 obtain ⟨o',e1,_,e2⟩:=x
 rw [h1] at e1
 cases e1
 rw [hd] at e2
 cases e2
 rfl
theorem turn_dictF {P:Program} {w:World} {K:PySem.W.Frag} (a it:Addr) (o:Obj) (kvs:List (List Key × V)) {es:Array DictEntry} {ep:Nat} (hd:o.data=.dict es ep):Turn P w K tg (Itf a o kvs) [it] it (fun i h=>h.IsKeyIter it a i kvs.length ep) where
 mem:=by simp
 obj:=fun i h st b hb=>by
  have e:b=it:=by simpa using hb
  subst e
  obtain ⟨o,e,c,d⟩:=st
  exact ⟨o,e,fun v z=>by rw [d] at z; cases z⟩
 keep:=fun i h h' st k=>st.at fun o e=>k it (by simp) o e
 item:=by
  intro X hP hw hK hc i pins s σ H E I hf st hg
  subst hP hw hK
  obtain ⟨ha,hi⟩:=hg
  obtain ⟨z,no,es',ep',raw,hs,hk⟩:=dt_raw I.hok (.inr ⟨o,ha⟩)
  have h1:s.heap.get? a=some o:=(I.hok a _ ha).1
  have ee:=raw_same raw h1 hd
  subst ee
  have lt:i < es'.size:=by rw [hs]; exact hi
  have ek:es'[i]?.map (·.key)=some es'[i].key:=by rw [Array.getElem?_eq_getElem lt]; rfl
  obtain ⟨b,k,eb,e1,e2⟩:=hk i _ ek
  obtain ⟨f0,f1,f2,f3,f4,f5⟩:=hf it (by simp)
  rw [← hs] at st
  refine raw_item st raw ek fun h' st' sb=>?_
  have I1:Inv X pins σ H { s with heap:=h' }:=I.turned (t':=s.toks) (fun b o hb e=>(sb.2 b hb).trans e) f0 f1 f3 f4 f5
  obtain ⟨oi,e,c,d⟩:=id st'
  rw [hs] at st'
  rw [eb]
  exact ⟨_,rfl,go_of (s:={ s with heap:=h' }) e c d (by decide) ⟨.ref b,H,I1,rfl,⟨rfl,b,k,rfl,e1,e2⟩,st',fun b hb=>(hf b hb).1⟩⟩
 done:=by
  intro X hP hw hK hc i pins s σ H E I hf st hg
  subst hP hw hK
  obtain ⟨ha,hi⟩:=hg
  obtain ⟨z,no,es',ep',raw,hs,hk⟩:=dt_raw I.hok (.inr ⟨o,ha⟩)
  have h1:s.heap.get? a=some o:=(I.hok a _ ha).1
  have ee:=raw_same raw h1 hd
  subst ee
  obtain ⟨f0,f1,f2,f3,f4,f5⟩:=hf it (by simp)
  rw [← hs] at st
  exact raw_end (I.ok.hd hc) st raw (by rw [hs]; exact hi) fun h' eb=>⟨rfl,I.turned (t':=s.toks) (fun b o hb e=>eb b o hb e) f0 f1 f3 f4 f5⟩
 self:=fun _ _ _ _ _ st h=>wpAny_pyIter_keyiter st h
def iDictF (tl:TE):TI:=fun σ H R=>tl σ H fun x H1=>∃ a o kvs,x=.ref a∧H1 a=some (.frz o (.dT kvs))∧R (Itf a o kvs) H1
theorem pi_dictF {l:Expr} {tl:TE} (hl:PE X l tl):PI X tg l (iDictF tl):=by
 intro pins s σ H R I h
 refine thn (hl pins s σ H _ I h) fun v s1 ⟨x,H1,I1,r1,q1⟩=>?_
 obtain ⟨a,o,kvs,rfl,ha,q⟩:=q1
 cases r1
 obtain ⟨z,no,es,ep,raw,hs,hk⟩:=dt_raw I1.hok (.inr ⟨o,ha⟩)
 have h1:s1.heap.get? a=some o:=(I1.hok a _ ha).1
 have hd:o.data=.dict es ep:=by
  obtain ⟨o',e1,_,e2⟩:=raw
  rw [h1] at e1
  cases e1
  exact e2
 refine raw_iter no raw ?_
 refine ⟨s1.heap.objs.size,[s1.heap.objs.size],_,_,H1,rfl,I1.kept (t':=s1.toks) fun b o e=>Heap.get?_push_of_some _ e,turn_dictF a _ o kvs hd,⟨_,Heap.get?_push_size _ rfl,rfl,by rw [hs]; rfl⟩,fun b hb=>?_,q⟩
 have e:b=s1.heap.objs.size:=by simpa using hb
 subst e
 exact I1.fpOk (Nat.le_refl _) (I1.hok.fresh (Nat.le_refl _))
theorem qi_dictF {l:Expr} {tl:TE} (hl:QE X l tl):QI X tg l (iDictF tl):=⟨pi_dictF hl.u⟩
end
section
variable {X:Cx} {EX:St→XK} {K:PySem.W.Frag} {B H:Hp} {tg:Expr} {x:Str} {pos:Pos} {rest:List Stmt} {t:TVS}
def vFrzD (i:Nat) (t:TVS):TVS:=fun Dv τ=>match τ[i]? with
 | some (some (.own (.dT ks ds)))=>t Dv (τ.set i (some (.peek (.dT ks ds))))
 | _=>False
theorem rep_way {w:List Str} {b:Addr} (h:B b=some (.tup (w.map V.str))):Rep K B (.tup (w.map D.str)) (.ref b):=by
 unfold Rep
 exact ⟨b,_,rfl,.inl h,reps_strs w⟩
theorem it_dictF {a:Addr} {o:Obj} {kvs:List (List Key × V)} {ks:List (List Str)} (h:B a=some (.frz o (.dT kvs))) (hk:kvs.map (·.1)=ks.map wK):ItOk K B (Itf a o kvs) (ks.map fun w=>.tup (w.map D.str)):=fun i B2 H sb s2=>by
 have hl:kvs.length=ks.length:=by simpa using congrArg List.length hk
 have hH:H a=some (.frz o (.dT kvs)):=s2 _ _ (sb _ _ h)
 refine ⟨fun d e=>?_,fun e=>⟨hH,?_⟩⟩
 ·rw [List.getElem?_map] at e
  obtain ⟨w,ew,rfl⟩:=Option.map_eq_some_iff.mp e
  have lt:=(List.getElem?_eq_some_iff.mp ew).1
  refine ⟨⟨hH,by lia⟩,fun x H' q=>?_⟩
  obtain ⟨rfl,b,k,rfl,e1,e2⟩:=q
  have ek:k=wK w:=by
   have:(kvs.map (·.1))[i]?=(ks.map wK)[i]?:=by rw [hk]
   rw [List.getElem?_map,List.getElem?_map,e1,ew] at this
   exact Option.some.inj this
  subst ek
  rw [wK_kV] at e2
  refine ⟨_,Stp.tups s2 [b] (fun c hc=>by rw [List.mem_singleton.mp hc]; exact ⟨_,e2⟩),rep_way ?_⟩
  show (if b∈[b] then H' b else B2 b)=_
  rw [if_pos (by simp)]
  exact e2
 ·have:=List.getElem?_eq_none_iff.mp e
  rw [List.length_map] at this
  lia
def vItemsF (i:Nat):TVA:=fun τ Q=>match τ[i]? with
 | some (some (.peek (.dT ks _)))=>Q (.ok (ks.map fun w=>.tup (w.map D.str)))
 | _=>False
theorem vi_dictF (i:Nat) (hN:X.N[i]?=some x:=by rfl) (hv:Vis X.env.scope x:=by first | exact Or.inl rfl | exact Or.inr (Or.inl rfl) | exact Or.inr (Or.inr rfl)) (hd:(x == ("__debug__" : Str))=false:=by decide)
  (hcd:(x == ("__classdict__" : Str))=false:=by decide):VI X EX tg (.Name x pos) (vItemsF i):=⟨_,qi_dictF (qv i hN hv hd hcd),fun H0 B H τ σ Q Qd s S h xc k=>by
  unfold vItemsF at h
  split at h
  ·rename_i ks ds e
   obtain ⟨v,q,a,ks',ds',kvs,o,e1,rfl,e3,e4,e5⟩:=S.fz i _ e
   cases e1
   exact ⟨.ref a,q,a,o,kvs,rfl,s _ _ e3,k _ _ B H (.refl s) (it_dictF e3 e4) h⟩
  ·exact h.elim⟩
end
end L2
namespace L2
open PySem PySem.Spec PyProof.Rows
section
variable {X:Cx}
def rInsert:V→List V→Hp→VK→Prop:=fun x vs H Q=>∃ l xs i y,x=.ref l∧vs=[.int i,y]∧H l=some (.lst xs)∧0≤i∧i≤xs.length∧i < 2 ^ 60∧xs.length < sizeLine∧Q .non (upd H l (.lst (xs.take i.toNat++y :: xs.drop i.toNat)))
theorem mt_insert:MtM X "list.insert" rInsert:=by
 intro pins s σ H x vs v us Q I rx rv h
 obtain ⟨l,xs,i,y,rfl,rfl,hH,h0,hk,hk2,hz,q⟩:=h
 cases rx
 obtain ⟨u1,us1,rfl,r1,r2⟩:∃ u1 us1,us=u1 :: us1∧RelV (V.int i) u1∧Vals [y] us1:=by
  cases rv with
  | cons a b=>exact ⟨_,_,rfl,a,b⟩
 obtain ⟨u,rfl,ru⟩:=r2.one
 obtain ⟨t,rfl⟩:=r1
 obtain ⟨z,its,n,r,hl,e⟩:=I.lstM hH
 have hfit:¬ (!Builtin.List.listFitsIndex i)=true:=by
  rw [fitsIndex_both (by lia) (by lia)]
  decide
 have m:=AutoSeq1.list_insert_list_int_val_1 l its.toArray n i t u hfit (by rw [List.size_toArray]; lia)
 refine call_meets F.slot_list_insert ⟨_,e,rfl⟩ F.entry_list_insert (F.args_list_insert_3 _ _ _) m ⟨e,?_⟩
 refine ⟨.non,_,I.lset (its':=its.take i.toNat++u :: its.drop i.toNat) hH e ?_ ((r.take i.toNat).append (.cons ru (r.drop i.toNat))) ?_,rfl,q⟩
 ·have h0:¬ i < 0:=by lia
  simp only [if_neg h0,List.size_toArray]
  rw [Nat.min_eq_left (by lia)]
  apply Array.toList_inj.mp
  simp [Array.toList_extract,List.extract_eq_take_drop]
  rw [List.take_of_length_le (by rw [List.length_drop]; exact Nat.le_refl _)]
 ·rw [List.length_append,List.length_cons,List.length_take,List.length_drop]
  lia
theorem qs_aug {i:Nat} {x:Str} {e:Expr} {te:TE} {op:Operator} {ti:TIp} {pos pos':Pos} (hN:X.N.Nodup) (hi:X.N[i]?=some x) (hx:Loc X.env.scope x) (he:QE X e te) (ho:PIp X op ti) (hf:X.fn x=true∨X.env.scope.names.lookup x=some .local):QS X (.AugAssign (.Name x pos') op e pos) (tAug i te ti):=⟨ps_aug hN hi hx he.u ho hf⟩
end
section
variable {X:Cx} {EX:St→XK} {pos pos' p apos cpos:Pos} {x:Str} {e:Expr} {es:List Expr} {te:TV} {tA:TVA} {K:PySem.W.Frag} {B B' H H0:Hp} {τ:VSt} {σ:St}
def vAug (i:Nat) (te:TV):TVS:=fun Dv τ=>match τ[i]? with
 | some (some (.val (.int n)))=>te τ fun r=>match r with
  | .val (.int m)=>Dv.nx (τ.set i (some (.val (.int (n+m)))))
  | _=>False
 | _=>False
theorem vs_aug {i:Nat} (hN:X.N.Nodup) (hi:X.N[i]?=some x) (hx:Loc X.env.scope x) (h:VE X EX e te) (hf:X.fn x=true∨X.env.scope.names.lookup x=some .local:=by first | exact .inl rfl | exact .inr rfl | assumption):VS X EX (.AugAssign (.Name x pos') .Add e pos) (vAug i te) :=
 let ⟨_,a1,a2⟩:=h.u; ⟨_,qs_aug hN hi hx a1 ip_add hf,fun B0 H0 B H τ σ Dv Dh p S h E=>by
  unfold vAug at h
  split at h
  ·rename_i n en
   obtain ⟨v,q,r⟩:=S.val i _ en
   unfold Rep at r
   subst r
   refine ⟨_,q,a2 H0 B H τ σ _ _ p.s S h (xno fun _ q=>q) fun r v B' H' q' hr hq=>?_⟩
   split at hq
   ·rename_i m
    have hr':Rep X.K B' (.int m) v:=hr
    unfold Rep at hr'
    subst hr'
    exact ⟨n,m,rfl,rfl,E.nx B' H' _ _ (p.trans q') ((S.step q').setVal i (by unfold Rep; rfl)) hq⟩
   ·exact hq.elim
  ·exact h.elim⟩
def vInsert (i:Nat) (tA:TVA):TVS:=fun Dv τ=>ownL τ i fun ds=>tA τ fun a=>match a with
 | .ok [.int k,d]=>0≤k∧k≤ds.length∧k < 1000∧ds.length < sizeLine∧Dv.nx (τ.set i (some (.own (.lst (ds.take k.toNat++d :: ds.drop k.toNat)))))
 | _=>False
theorem vs_insert (i:Nat) (h:VA X EX (e :: es) tA) (hN:X.N[i]?=some x:=by rfl) (hv:Vis X.env.scope x:=by first | exact Or.inl rfl | exact Or.inr (Or.inl rfl) | exact Or.inr (Or.inr rfl)) (hd:(x == ("__debug__" : Str))=false:=by decide)
  (hcd:(x == ("__classdict__" : Str))=false:=by decide) (hp:(e :: es).all plainE=true:=by rfl) (hfew:decide ((e :: es).length < 30)=true:=by rfl)
  (hbase:attributeBase (.Name x p) "insert" X.env (eval (.Name x p) X.env)=eval (.Name x p) X.env:=by rfl) (hline:(apos.endLine == cpos.line)=true:=by rfl)
  (hs:swapsWith (.Call (.Attribute (.Name x p) "insert" apos) (e :: es) [] cpos) none pos.line X.env=pure false:=by rfl) :
  VS X EX (.Expr (.Call (.Attribute (.Name x p) "insert" apos) (e :: es) [] cpos) pos) (vInsert i tA) :=
 let ⟨_,a1,a2⟩:=h.u; ⟨_,qs_expr (qbm PySem.F.plainAttrs_list PySem.F.slot_list_insert PySem.F.type_list_insert mt_insert (qv i hN hv hd hcd) a1 hp hfew hbase hline) hs,fun B0 H0 B H τ σ Dv Dh p S h E=>by
  obtain ⟨ds,ad,xs,e1,h,e2,e3,_⟩:=S.ownL h
  refine ⟨.ref ad,e2,.inl ⟨rfl,xs,SqL.of e3⟩,a2 H0 B H τ σ _ _ p.s S h (xno fun _ q=>q) fun ds' vs B' H' q hr hq=>?_⟩
  split at hq
  ·rename_i a k d ea
   cases ea
   obtain ⟨k0,k1,k2,hz,hn⟩:=hq
   unfold Reps at hr
   obtain ⟨v0,vs0,rfl,r0,hr⟩:=hr
   unfold Reps at hr
   obtain ⟨v1,vs1,rfl,r1,hr⟩:=hr
   unfold Reps at hr
   subst hr
   unfold Rep at r0
   subst r0
   have S2:=S.step q
   obtain ⟨a',q1,_,_,xs2,q4,q3⟩:=S2.own i _ e1
   rw [e2] at q1
   cases q1
   have hl:=q3.length
   refine ⟨ad,xs2,k,v1,rfl,rfl,q4,k0,by lia,by lia,by lia,?_⟩
   obtain ⟨p3,S3⟩:=S2.lst (p.trans q) e1 e2 ((q3.take k.toNat).append (.cons r1 (q3.drop k.toNat)))
   exact E.nx B' _ _ σ p3 S3 hn
  ·exact hq.elim⟩
def LiB (o:HO):Prop:=∀ xs,o=.lst xs→∃ n r,xs=.int n :: r
def Kept (d:D):Prop:=∀ (K:PySem.W.Frag) (B B':Hp) (v:V),(∀ a o,B a=some o→LiB o→B' a=some o)→Rep K B d v→Rep K B' d v
theorem Kept.all {ds:List D} (h:∀ d∈ds,Kept d) (k:∀ a o,B a=some o→LiB o→B' a=some o):∀ {xs:List V},Reps K B ds xs→Reps K B' ds xs:=by
 induction ds with
 | nil=>intro xs r; unfold Reps at r ⊢; exact r
 | cons d ds ih =>
  intro xs r
  unfold Reps at r ⊢
  obtain ⟨x,t,rfl,r1,r2⟩:=r
  exact ⟨x,t,rfl,h d (List.mem_cons_self ..) K B B' x k r1,ih (fun d m=>h d (List.mem_cons_of_mem _ m)) r2⟩
theorem kept_int (i:Int):Kept (.int i):=fun _ _ _ _ _ r=>by unfold Rep at r ⊢; exact r
theorem kept_str (z:Str):Kept (.str z):=fun _ _ _ _ _ r=>by unfold Rep at r ⊢; exact r
theorem kept_tup {ds:List D} (h:∀ d∈ds,Kept d):Kept (.tup ds):=fun K B B' v k r=>by
 unfold Rep at r ⊢
 obtain ⟨a,xs,rfl,t,r⟩:=r
 exact ⟨a,xs,rfl,t.elim (fun q=>.inl (k a _ q fun _ z=>by cases z)) .inr,Kept.all h k r⟩
theorem kept_ints (n:Int) (ns:List Int):Kept (.lst ((n :: ns).map D.int)):=fun K B B' v k r=>by
 unfold Rep at r ⊢
 obtain ⟨a,xs,rfl,t,r⟩:=r
 have r':=r
 rw [List.map_cons] at r'
 unfold Reps at r'
 obtain ⟨x,u,rfl,r1,r2⟩:=r'
 unfold Rep at r1
 subst r1
 exact ⟨a,_,rfl,k a _ t fun ys z=>⟨n,u,by cases z; rfl⟩,Kept.all (fun d m=>by obtain ⟨i,_,rfl⟩:=List.mem_map.mp m; exact kept_int i) k r⟩
noncomputable def resB (B:Hp):Hp:=fun a=>match B a with
 | none=>none
 | some o=>@ite _ (LiB o) (Classical.propDecidable _) (some o) none
theorem resB_at {a:Addr} {o:HO} (h:resB B a=some o):B a=some o∧LiB o:=by
 unfold resB at h
 split at h
 ·cases h
 ·rename_i u e
  split at h
  ·rename_i l
   cases h
   exact ⟨e,l⟩
  ·cases h
theorem resB_of {a:Addr} {o:HO} (h:B a=some o) (l:LiB o):resB B a=some o:=by
 unfold resB
 rw [h]
 exact if_pos l
theorem no_int {es:List D} (hs:∀ d∈es,∃ z,d=.str z) {xs:List V} (r:Reps K B es xs):¬ LiB (.lst xs):=fun l=>by
 obtain ⟨n,t,e⟩:=l xs rfl
 subst e
 cases es with
 | nil=>unfold Reps at r; cases r
 | cons d es =>
  unfold Reps at r
  obtain ⟨x,u,e,r1,_⟩:=r
  obtain ⟨z,rfl⟩:=hs _ (List.mem_cons_self ..)
  unfold Rep at r1
  subst r1
  cases e
end
end L2
namespace L2
open PySem PySem.Spec PyProof.Rows
section
variable {X:Cx} {pins:List (Addr × Obj)} {σ:St} {H:Hp} {s:Shared} {st:Stmt} {rest:List Stmt}
theorem Inv.unfD {a:Addr} {o:Obj} {kvs:List (List Key × V)} (I:Inv X pins σ H s) (e:H a=some (.frz o (.dT kvs))) (nb:∀ ob u,X.H₀ a≠some (.frz ob u)):Inv X pins σ (upd H a (.dT kvs)) s:=by
 have ne:∀ b,H b=none→b≠a:=fun b q z=>by rw [z,e] at q; cases q
 have nt:∀ b xs,H b=some (.tup xs)→b≠a:=fun b xs q z=>by rw [z,e] at q; cases q
 have no:∀ b c,H b=some (.own c)→b≠a:=fun b c q z=>by rw [z,e] at q; cases q
 refine ⟨I.ok,I.os,I.bare,⟨I.base.keep,I.base.slot,fun b ob q n hx=>?_,I.base.there,fun b xs q=>?_,fun b ob u q=>?_,fun b ps q=>?_⟩,I.loc,I.cell,?_,fun x c q=>?_,fun p hp=>?_,fun b u q=>?_,I.len⟩
 ·have:=I.base.free b ob q n hx
  rw [upd_ne (ne b this)]
  exact this
 ·have:=I.base.tups b xs q
  rw [upd_ne (nt b xs this)]
  exact this
 ·rw [upd_ne (fun z=>nb ob u (by rw [← z]; exact q))]
  exact I.base.frzs b ob u q
 ·obtain ⟨more,z⟩:=I.base.tbls b ps q
  exact ⟨more,by rw [upd_ne (fun y=>by rw [y,e] at z; cases z)]; exact z⟩
 ·rw [upd_ne (ne _ I.free)]
  exact I.free
 ·rw [upd_ne (ne _ (I.freeC x c q))]
  exact I.freeC x c q
 ·obtain ⟨h1,h2,h3⟩:=I.pin p hp
  exact ⟨h1,by rw [upd_ne (ne _ h2)]; exact h2,h3⟩
 ·have hs:∀ u,ObjOk X.prog X.w H s.heap b u→ObjOk X.prog X.w (upd H a (.dT kvs)) s.heap b u:=fun u k=>k.stay (fun _ _ _ z=>z) (fun c z=>by rw [upd_ne (no c b z)]; exact z) fun c xs z=>by rw [upd_ne (nt c xs z)]; exact z
  by_cases z:b=a
  ·subst z
   rw [upd_same] at q
   cases q
   exact hs _ (I.hok b _ e).2
  ·rw [upd_ne z] at q
   exact hs _ (I.hok b _ q)
def tLendD (i:Nat) (t u:TS):TS:=fun D σ H=>∃ a kvs,σ[i]?=some (some (.ref a))∧H a=some (.dT kvs)∧∀ o,t { nx:=fun σ' H'=>H' a=some (.frz o (.dT kvs))∧u D σ' (upd H' a (.dT kvs)),rt:=fun _ _=>False } σ (upd H a (.frz o (.dT kvs)))
theorem qss_lendD {t u:TS} (i:Nat) (h1:QS X st t) (h2:QSs X rest u):QSs X (st :: rest) (tLendD i t u):=⟨fun pins s σ H D I ⟨a,kvs,_,e2,k⟩=>by
 obtain ⟨o,I2⟩:=Inv.frzD I e2
 have nb:∀ ob v,X.H₀ a≠some (.frz ob v):=fun ob v z=>by
  have:=I.base.frzs a ob v z
  rw [e2] at this
  cases this
 refine wpAny_execs_cons (thn (h1.u pins s σ _ _ I2 (k o)) fun f s1 q=>?_)
 cases f with
 | next =>
  obtain ⟨σ',H',I',q1,q2⟩:=q
  exact h2.u pins s1 σ' _ D (Inv.unfD I' q1 nb) q2
 | ret v =>
  obtain ⟨_,_,_,_,_,z⟩:=q
  exact z.elim
 | brk =>
  obtain ⟨_,_,_,z⟩:=q
  exact z.elim
 | cont =>
  obtain ⟨_,_,_,z⟩:=q
  exact z.elim⟩
end
section
variable {X:Cx} {EX:St→XK} {K:PySem.W.Frag} {B B' H H0:Hp} {τ:VSt} {σ:St} {x:Str} {e:Expr} {te:TV} {rest:List Stmt} {u:TVS} {pos pos':Pos}
def NoDt (d:D):Prop:=∀ (K:PySem.W.Frag) (B B':Hp) (v:V),(∀ a o,B a=some o→(∀ ob u,o≠.frz ob u)→B' a=some o)→Rep K B d v→Rep K B' d v
theorem NoDt.all {ds:List D} (h:∀ d∈ds,NoDt d) (k:∀ a o,B a=some o→(∀ ob u,o≠.frz ob u)→B' a=some o):∀ {xs:List V},Reps K B ds xs→Reps K B' ds xs:=by
 induction ds with
 | nil=>intro xs r; unfold Reps at r ⊢; exact r
 | cons d ds ih =>
  intro xs r
  unfold Reps at r ⊢
  obtain ⟨x,t,rfl,r1,r2⟩:=r
  exact ⟨x,t,rfl,h d (List.mem_cons_self ..) K B B' x k r1,ih (fun d m=>h d (List.mem_cons_of_mem _ m)) r2⟩
theorem nodt_str (z:Str):NoDt (.str z):=fun _ _ _ _ _ r=>by unfold Rep at r ⊢; exact r
theorem nodt_tup {ds:List D} (h:∀ d∈ds,NoDt d):NoDt (.tup ds):=fun K B B' v k r=>by
 unfold Rep at r ⊢
 obtain ⟨a,xs,rfl,t,r⟩:=r
 exact ⟨a,xs,rfl,t.elim (fun q=>.inl (k a _ q fun _ _ z=>by cases z)) .inr,NoDt.all h k r⟩
theorem nodt_lst {ds:List D} (h:∀ d∈ds,NoDt d):NoDt (.lst ds):=fun K B B' v k r=>by
 unfold Rep at r ⊢
 obtain ⟨a,xs,rfl,t,r⟩:=r
 exact ⟨a,xs,rfl,k a _ t (fun _ _ z=>by cases z),NoDt.all h k r⟩
theorem nodt_ways (ws:List (List Str)):NoDt (.lst (ws.map fun w=>.tup (w.map D.str))):=nodt_lst fun d m=>by
 obtain ⟨w,_,rfl⟩:=List.mem_map.mp m
 exact nodt_tup fun d m=>by
  obtain ⟨z,_,rfl⟩:=List.mem_map.mp m
  exact nodt_str z
def vLendD (i j:Nat) (te:TV) (u:TVS):TVS:=fun Dv τ=>match τ[i]? with
 | some (some (.own (.dT ks ds)))=>te (τ.set i (some (.peek (.dT ks ds)))) fun r=>pubR r fun d=>NoDt d∧u Dv (τ.set j (some (.val d)))
 | _=>False
end
end L2
namespace L2
open PySem PySem.Spec PyProof.Rows
section
variable {X:Cx} {EX:St→XK} {pos p cpos:Pos} {x y:Str} {e:Expr} {es:List Expr} {tA:TVA} {K:PySem.W.Frag} {B B' H H0:Hp} {τ:VSt} {σ:St}
def KeptT (d:D):Prop:=∀ (K:PySem.W.Frag) (B B':Hp) (v:V),(∀ a xs,B a=some (.tup xs)→B' a=some (.tup xs))→Rep K B d v→Rep K B' d v
theorem KeptT.all {ds:List D} (h:∀ d∈ds,KeptT d) (k:∀ a xs,B a=some (.tup xs)→B' a=some (.tup xs)):∀ {xs:List V},Reps K B ds xs→Reps K B' ds xs:=by
 induction ds with
 | nil=>intro xs r; unfold Reps at r ⊢; exact r
 | cons d ds ih =>
  intro xs r
  unfold Reps at r ⊢
  obtain ⟨x,t,rfl,r1,r2⟩:=r
  exact ⟨x,t,rfl,h d (List.mem_cons_self ..) K B B' x k r1,ih (fun d m=>h d (List.mem_cons_of_mem _ m)) r2⟩
theorem keptT_bl (b:Bool):KeptT (.bl b):=fun _ _ _ _ _ r=>by unfold Rep at r ⊢; exact r
theorem keptT_str (z:Str):KeptT (.str z):=fun _ _ _ _ _ r=>by unfold Rep at r ⊢; exact r
theorem keptT_tup {ds:List D} (h:∀ d∈ds,KeptT d):KeptT (.tup ds):=fun K B B' v k r=>by
 unfold Rep at r ⊢
 obtain ⟨a,xs,rfl,t,r⟩:=r
 exact ⟨a,xs,rfl,t.elim (fun q=>.inl (k a _ q)) .inr,KeptT.all h k r⟩
theorem keptT_way (w:List Str):KeptT (.tup (w.map D.str)):=keptT_tup fun d m=>by
 obtain ⟨z,_,rfl⟩:=List.mem_map.mp m
 exact keptT_str z
def vUnpL (i i0 i1 i2:Nat) (g:DP) (tA:TVA):TVS:=fun Dv τ=>match τ[i]? with
 | some (some (.own (.dT ks vs)))=>tA τ fun a=>exA a (fun _=>False) fun ds=>(∀ d∈vs,Kept d)∧(∀ d∈ds,Kept d)∧g (.dT ks vs :: ds) fun r=>match r with
  | .val (.tup [d0,d1,.lst es])=>KeptT d0∧KeptT d1∧(∀ d∈es,∃ z,d=.str z)∧Dv.nx (((τ.set i0 (some (.val d0))).set i1 (some (.val d1))).set i2 (some (.own (.lst es))))
  | _=>False
 | _=>False
theorem slots_unpL {K:PySem.W.Frag} {H0 B1 H1 B2 H2:Hp} {τ:VSt} {σ:St} {i0 i1 i2:Nat} {d0 d1:D} {es:List D} {v0 v1:V} {l ad:Addr} {xs:List V} {kvs:List (List Key × V)} (S:Slots K H0 B1 H1 τ σ) (sh:Same H0 H1) (s1:Same B1 H1) (hB:B1 ad=none) (hA:H1 ad=some (.dT kvs)) (p:Stp (upd (resB B1) ad (.dT kvs)) H1 B2 H2) (k0:KeptT d0) (k1:KeptT d1) (ks:∀ d∈es,∃ z,d=.str z) (r0:Rep K B2 d0 v0) (r1:Rep K B2 d1 v1) (hl:B2 l=some (.lst xs)) (rs:Reps K B2 es xs) :
  ∃ B3,Stp B1 H1 B3 H2∧Slots K H0 B3 H2 (((τ.set i0 (some (.val d0))).set i1 (some (.val d1))).set i2 (some (.own (.lst es)))) (((σ.set i0 (some v0)).set i1 (some v1)).set i2 (some (.ref l))):=by
 have ni:=no_int ks rs
 have ra:resB B1 ad=none:=by unfold resB; rw [hB]
 have b2a:B2 ad=some (.dT kvs):=p.b _ _ upd_same
 have la:l≠ad:=fun z=>by rw [z,b2a] at hl; cases hl
 have hH:H1 l=none:=by
  rcases p.d l (by rw [hl]; exact fun z=>by cases z) with z | z | ⟨zs,z⟩
  ·rw [upd_ne la] at z
   cases e:resB B1 l with
   | none=>exact absurd e z
   | some o =>
    have:=p.b l o (by rw [upd_ne la]; exact e)
    rw [hl] at this
    cases this
    exact absurd (resB_at e).2 ni
  ·exact z
  ·have e1:=p.h _ _ z
   rw [p.s _ _ hl] at e1
   cases e1
 have hB1:B1 l=none:=s1.free hH
 let B3:Hp:=fun a=>if a=l∨a=ad then none else match B2 a with | some z=>some z | none=>B1 a
 have b3l:B3 l=none:=if_pos (.inl rfl)
 have b3n:∀ a,a≠l→a≠ad→B3 a=match B2 a with | some z=>some z | none=>B1 a:=fun a h h'=>if_neg fun z=>z.elim h h'
 have st:Stp B1 H1 B3 H2:=by
  refine ⟨fun a o e=>?_,p.h,fun a o e=>?_,fun a h=>?_⟩
  ·have na:a≠l:=fun z=>by rw [z,hB1] at e; cases e
   have nb:a≠ad:=fun z=>by rw [z,hB] at e; cases e
   rw [b3n a na nb]
   cases e2:B2 a with
   | none=>exact e
   | some w =>
    have q1:=p.s _ _ e2
    rw [p.h _ _ (s1 _ _ e)] at q1
    exact q1.symm
  ·by_cases na:a=l∨a=ad
   ·rw [show B3 a=none from if_pos na] at e; cases e
   ·rw [b3n a (fun z=>na (.inl z)) fun z=>na (.inr z)] at e
    cases e2:B2 a with
    | none=>rw [e2] at e; exact p.h _ _ (s1 _ _ e)
    | some w=>rw [e2] at e; cases e; exact p.s _ _ e2
  ·by_cases na:a=l∨a=ad
   ·rw [show B3 a=none from if_pos na] at h; exact absurd rfl h
   ·have nb:a≠ad:=fun z=>na (.inr z)
    rw [b3n a (fun z=>na (.inl z)) nb] at h
    cases e2:B2 a with
    | none=>rw [e2] at h; exact .inl h
    | some w =>
     rcases p.d a (by rw [e2]; exact fun z=>by cases z) with z | z
     ·rw [upd_ne nb] at z
      cases e:resB B1 a with
      | none=>exact absurd e z
      | some o=>exact .inl (by rw [(resB_at e).1]; exact fun z=>by cases z)
     ·exact .inr z
 have kp:∀ a ys,B2 a=some (.tup ys)→B3 a=some (.tup ys):=fun a ys e=>by
  have na:a≠l:=fun z=>by rw [z,hl] at e; cases e
  have nb:a≠ad:=fun z=>by rw [z,b2a] at e; cases e
  rw [b3n a na nb,e]
 refine ⟨B3,st,?_⟩
 have S3:=S.step st
 have S4:=(S3.setVal i0 (k0 K B2 B3 v0 kp r0)).setVal i1 (k1 K B2 B3 v1 kp r1)
 refine S4.setOwn i2 (sh.free hH) b3l ⟨xs,p.s _ _ hl,KeptT.all (fun d m=>by obtain ⟨z,rfl⟩:=ks d m; exact keptT_str z) kp rs⟩ fun j e q z=>?_
 rcases getSet q with ⟨_,w,_⟩ | ⟨n1,q⟩
 ·cases w
 rcases getSet q with ⟨_,w,_⟩ | ⟨n0,q⟩
 ·cases w
 rw [List.getElem?_set_ne n1,List.getElem?_set_ne n0] at z
 obtain ⟨c,qc,_,_,oc⟩:=S.own j e q
 rw [z] at qc
 cases qc
 exact oc.some hH
theorem vs_unpL {i i0 i1 i2 k n:Nat} {x0 x1 x2:Str} {ps:List Str} {g:DP} {p0 p1 p2 py tpos:Pos} (hN:X.N.Nodup) (h0:X.N[i0]?=some x0) (h1:X.N[i1]?=some x1) (h2:X.N[i2]?=some x2) (l0:Loc X.env.scope x0) (l1:Loc X.env.scope x1) (l2:Loc X.env.scope x2) (hc:X.calm=true)
  (C:Cal X.prog X.w X.K X.mg X.base k x ps (spOf X.K g)) (hr:Room k X.A) (hg:Gl X x) (ha:VA X EX es tA) (hy:X.N[i]?=some y:=by rfl) (hv:Vis X.env.scope y:=by first | exact Or.inl rfl | exact Or.inr (Or.inl rfl) | exact Or.inr (Or.inr rfl)) (hd:(y == ("__debug__" : Str))=false:=by decide)
  (hcd:(y == ("__classdict__" : Str))=false:=by decide) (hp:((.Name y py:Expr) :: es).all plainE=true:=by rfl) (hdb:(x == ("__debug__" : Str))=false:=by decide)
  (f0:X.fn x0=true∨X.env.scope.names.lookup x0=some .local:=by first | exact .inl rfl | exact .inr rfl | assumption) (f1:X.fn x1=true∨X.env.scope.names.lookup x1=some .local:=by first | exact .inl rfl | exact .inr rfl | assumption) (f2:X.fn x2=true∨X.env.scope.names.lookup x2=some .local:=by first | exact .inl rfl | exact .inr rfl | assumption)
  (q0:(assignEach [.Name x0 p0,.Name x1 p1,.Name x2 p2] X.env).map (·.2)=assign (.Name x0 p0) X.env :: (assignEach [.Name x1 p1,.Name x2 p2] X.env).map (·.2):=by rfl)
  (q1:(assignEach [.Name x1 p1,.Name x2 p2] X.env).map (·.2)=assign (.Name x1 p1) X.env :: (assignEach [.Name x2 p2] X.env).map (·.2):=by rfl)
  (q2:(assignEach [.Name x2 p2] X.env).map (·.2)=assign (.Name x2 p2) X.env :: (assignEach [] X.env).map (·.2):=by rfl)
  (hn:(assignEach [.Name x0 p0,.Name x1 p1,.Name x2 p2] X.env).length=3:=by rfl) (hst:(assignEach [.Name x0 p0,.Name x1 p1,.Name x2 p2] X.env).findIdx? (·.1)=none:=by rfl)
  (hs:swapsWithSole [.Tuple [.Name x0 p0,.Name x1 p1,.Name x2 p2] n tpos] (.Call (.Name x p) (.Name y py :: es) [] cpos) pos.line X.env=pure false:=by rfl) (hw:swappedStores [.Tuple [.Name x0 p0,.Name x1 p1,.Name x2 p2] n tpos] (.Call (.Name x p) (.Name y py :: es) [] cpos) X.env=pure none:=by rfl)
  (ht:(assignEach [.Tuple [.Name x0 p0,.Name x1 p1,.Name x2 p2] n tpos] X.env).map (·.2)=[assign (.Tuple [.Name x0 p0,.Name x1 p1,.Name x2 p2] n tpos) X.env]:=by rfl) :
  VS X EX (.Assign [.Tuple [.Name x0 p0,.Name x1 p1,.Name x2 p2] n tpos] (.Call (.Name x p) (.Name y py :: es) [] cpos) pos) (vUnpL i i0 i1 i2 g tA) :=
 let ⟨_,a1,a2⟩:=ha.u; ⟨_,qs_asg (qe_cal C hr hg (qac (qv i hy hv hd hcd) a1 rfl) hp hdb) (qg_tup hc (qgs_cons (qg_name hN h0 l0 f0) (qgs_cons (qg_name hN h1 l1 f1) (qgs_cons (qg_name hN h2 l2 f2) qgs_nil q2) q1) q0) hn hst) hs hw ht,fun B0 H0 B H τ σ Dv Dh p S h E=>by
  unfold vUnpL at h
  split at h
  ·rename_i kk vv ei
   obtain ⟨ad,qa,_,_,kvs0,e10,_⟩:=S.own i _ ei
   refine ⟨.ref ad,qa,a2 H0 B H τ σ _ _ p.s S h (xno fun _ q=>q) fun ds vs B1 H1 pa ra h1=>?_⟩
   obtain ⟨hkv,hk,h1⟩:=h1
   have S1:=S.step pa
   obtain ⟨ad',qa',_,hBa,kvs,e1,e2,e3⟩:=S1.own i _ ei
   rw [qa] at qa'
   cases qa'
   have ra0:resB B1 ad=none:=by unfold resB; rw [hBa]
   have kb:∀ a o,B1 a=some o→LiB o→upd (resB B1) ad (.dT kvs) a=some o:=fun a o e l=>by
    rw [upd_ne (fun z=>by rw [z,hBa] at e; cases e)]
    exact resB_of e l
   refine ⟨.dT kk vv :: ds,upd (resB B1) ad (.dT kvs),_,fun a o e=>?_,?_,h1,fun n C B' H' hq _ _=>hq.elim,fun r v B2 H2 hq p2 q2=>?_⟩
   ·by_cases z:a=ad
    ·subst z
     rw [upd_same] at e
     cases e
     exact e1
    ·rw [upd_ne z] at e
     exact pa.s _ _ (resB_at e).1
   ·rw [List.append_nil]
    unfold Reps
    refine ⟨.ref ad,vs,rfl,?_,Kept.all hk kb ra⟩
    unfold Rep
    exact ⟨ad,kvs,rfl,.inl upd_same,e2,Kept.all hkv kb e3⟩
   ·split at hq
    ·rename_i d0 d1 es
     obtain ⟨k0,k1,ks,hq⟩:=hq
     have rp:Rep X.K B2 (.tup [d0,d1,.lst es]) v:=q2
     unfold Rep at rp
     obtain ⟨t,xs,rfl,hta,hrs⟩:=rp
     unfold Reps at hrs
     obtain ⟨v0,vs0,rfl,hv0,hrs⟩:=hrs
     unfold Reps at hrs
     obtain ⟨v1,vs1,rfl,hv1,hrs⟩:=hrs
     unfold Reps at hrs
     obtain ⟨v2,vs2,rfl,hv2,hrs⟩:=hrs
     unfold Reps at hrs
     subst hrs
     unfold Rep at hv2
     obtain ⟨l,ys,rfl,hyl,hys⟩:=hv2
     obtain ⟨B3,st,S3⟩:=slots_unpL (i0:=i0) (i1:=i1) (i2:=i2) S1 (p.h.trans pa.h) pa.s hBa e1 p2 k0 k1 ks hv0 hv1 hyl hys
     exact ⟨t,_,rfl,p2.s.sqT hta.sq,rfl,v0,_,rfl,v1,_,rfl,.ref l,_,rfl,rfl,E.nx B3 H2 _ _ ((p.trans pa).trans st) S3 hq⟩
    ·exact hq.elim
  ·exact h.elim⟩
end
end L2
namespace L2
open PySem PySem.Spec PyProof.Rows
section
variable {X:Cx} {elts:List Expr} {kk:Nat} {tp p pos:Pos}
end
section
variable {X:Cx} {EX:St→XK} {elts:List Expr} {kk:Nat} {tp p pos:Pos} {K:PySem.W.Frag} {B:Hp} {a b:Expr} {ta tb:TV}
end
section
variable {X:Cx} {EX:St→XK}
end
end L2
namespace L2
open PySem PySem.Spec PyProof.Rows Builtin.Str
section
variable {X:Cx}
abbrev TJ:=St→Hp→Str→VK→Prop
structure QJ (X:Cx) (vs:List Expr) (t:TJ):Prop where
 u:∀ (pins:List (Addr × Obj)) (s:Shared) (σ:St) (H:Hp) (out:Str) (Q:VK),Inv X pins σ H s→t σ H out Q→wpAny (model X.prog X.w) X.A (joinParts out (evalEach vs X.env)) (EP X pins σ Q) X.xe s
end
section
variable {X:Cx} {EX:St→XK} {K:PySem.W.Frag} {o e e1 e2:Expr} {to te t1 t2:TV} {apos cpos p pos:Pos} {x:Str} {rest:List Expr}
abbrev TVJ:=VSt→Str→(R→Prop)→Prop
def RfJ (K:PySem.W.Frag) (t:TJ) (u:TVJ):Prop:=∀ (H0 B H:Hp) (τ:VSt) (σ:St) (out:Str) (Q:VK) (Qd:R→Prop),Same B H→Slots K H0 B H τ σ→u τ out Qd→(∀ r v B' H',Stp B H B' H'→RepR K B' H H' r v→Qd r→Q v H')→t σ H out Q
structure VJ (X:Cx) (EX:St→XK) (vs:List Expr) (t:TVJ):Prop where
 u:∃ tj,QJ X vs tj∧RfJ X.K tj t
end
end L2
namespace L2
open PySem PySem.Spec PyProof.Rows
section
variable {X:Cx} {EX:St→XK} {K:PySem.W.Frag} {B H H0:Hp} {e:Expr} {t:TV} {τ:VSt} {σ:St}
end
end L2
namespace L2
open PySem PySem.Spec PyProof.Rows
def hidH (H:Hp) (c:Addr):Hp:=fun b=>if b=c then none else H b
theorem hid_ne {H:Hp} {b c:Addr} (n:b≠c):hidH H c b=H b:=if_neg n
theorem hid_at {H:Hp} {c:Addr}:hidH H c c=none:=if_pos rfl
theorem hid_same {H:Hp} {c:Addr}:Same (hidH H c) H:=fun b o e=>by
 by_cases z:b=c
 ·subst z
  rw [hid_at] at e
  cases e
 ·rw [hid_ne z] at e
  exact e
section
variable {X:Cx} {EX:St→XK} {K:PySem.W.Frag} {B H B' H' H0 B0 B1 H1:Hp} {st:Stmt} {rest:List Stmt} {t u:TVS} {e a:Expr} {te ta:TV} {tT:TVT} {tA:TVA} {es:List Expr} {pos pos' p p2 apos cpos:Pos} {x y:Str} {τ:VSt} {σ:St} {r:R} {v:V}
theorem own_io {c ad:Addr} {ds:List D} (h:OwnAt K B H (.io c ds) ad):ad=c∧∃ xs,H ad=some (.lst xs)∧Reps K B ds xs:=let ⟨xs,e,z,r⟩:=h; ⟨z,xs,e,r⟩
theorem own_ioA {c ad:Addr} {e:D} (h:OwnAt K B H e ad) (ha:ioA e=some c):ad=c:=by
 cases e with
 | io c' ds=>cases ha; exact (own_io h).1
 | ioT c' ks ds=>cases ha; obtain ⟨_,_,z,_⟩:=h; exact z
 | _=>cases ha
def vRetI (te:TV):TVS:=fun Dv τ=>te τ fun r=>exS τ Dv r (pubR r fun _=>Dv.ro τ r)
theorem vs_retI (h:VE X EX e te):VS X EX (.Return (some e) pos) (vRetI te) :=
 let ⟨_,a1,a2⟩:=h.u; ⟨_,qs_ret a1,fun B0 H0 B H τ σ Dv Dh p S h E=>a2 H0 B H τ σ _ _ p.s S h (E.raised p S) fun r v B' H' q hr hq=>by
  cases r with
  | val d=>exact E.ro (.val d) v B' H' τ σ (p.trans q) (S.step q) hr (fun _ _ _ _ z=>by cases z) hq
  | own d =>
   refine E.ro (.own d) v B' H' τ σ (p.trans q) (S.step q) (hr.back p.h) (fun _ _ i c _ e ha z=>?_) hq
   obtain ⟨ad,rfl,hn,_⟩:=hr
   cases z
   obtain ⟨a',_,_,_,ow⟩:=S.own i _ e
   have:=ow.some
   rw [own_ioA ow ha] at this
   exact this hn
  | peek d=>exact hq.elim
  | exc n=>exact hr.elim⟩
def RfAI (K:PySem.W.Frag) (EX:St→XK) (te:TA) (t:TVA) (k j:Nat):Prop:=∀ (H0 B H:Hp) (τ:VSt) (σ:St) (Q:List V→Hp→Prop) (Qd:AR→Prop),Same B H→Slots K H0 B H τ σ→(∃ c ps,τ[j]?=some (some (R.own (.io c ps))))→t τ Qd→(∀ n C B' H',Stp B H B' H'→clsOf K n C→Qd (.exc n)→EX σ (.ref C) none H') →
 (∀ ds vs B' H' ad,Stp B H B' H'→k≤vs.length→σ[j]?=some (some (.ref ad))→Reps K B' ds vs→Qd (.ok ds)→Q (vs.insertIdx k (.ref ad)) H')→te σ H Q
structure VAI (X:Cx) (EX:St→XK) (es:List Expr) (t:TVA) (k j:Nat):Prop where
 u:∃ te,QA X es te∧RfAI X.K EX te t k j
abbrev DPI:=List D→List D→(R→List D→Prop)→Prop
def ioOut (k:Nat) (c:Addr) (τ:VSt) (P:List D→Prop):Prop:=match τ[k]? with
 | some (some (.own (.io c' ps)))=>c'=c∧P ps
 | _=>False
def startI (N:List Str) (k:Nat) (c:Addr) (ds ps:List D):VSt:=(ds.map fun d=>some (R.val d)).insertIdx k (some (.own (.io c ps)))++List.replicate (N.length - (ds.length+1)) none
theorem Slots.consV {d:D} (S:Slots K H0 B H τ σ) (h:Rep K B d v):Slots K H0 B H (some (.val d) :: τ) (some v :: σ):=by
 refine ⟨by have:=S.len; simp [this],fun i f e=>?_,fun i f e=>?_,fun i f e=>?_,fun i j f g ad e1 e2 e3 e4=>?_⟩
 ·cases i with
  | zero=>simp at e; subst e; exact ⟨v,rfl,h⟩
  | succ i=>simpa using S.val i f (by simpa using e)
 ·cases i with
  | zero=>simp at e
  | succ i=>simpa using S.fz i f (by simpa using e)
 ·cases i with
  | zero=>simp at e
  | succ i=>simpa using S.own i f (by simpa using e)
 ·cases i with
  | zero=>simp at e1
  | succ i =>
   cases j with
   | zero=>simp at e2
   | succ j =>
    rw [S.sep i j f g ad (by simpa using e1) (by simpa using e2) (by simpa using e3) (by simpa using e4)]
theorem Slots.consO {d:D} {ds:List D} {c:Addr} (S:Slots K H0 B H (ds.map fun d=>some (R.val d)) σ) (h0:H0 c=none) (hb:B c=none) (o:OwnAt K B H d c):Slots K H0 B H (some (.own d) :: ds.map fun d=>some (R.val d)) (some (.ref c) :: σ):=by
 refine ⟨by have:=S.len; simp [this],fun i f e=>?_,fun i f e=>?_,fun i f e=>?_,fun i j f g ad e1 e2 e3 e4=>?_⟩
 ·cases i with
  | zero=>simp at e
  | succ i=>simpa using S.val i f (by simpa using e)
 ·cases i with
  | zero=>simp at e
  | succ i=>simp at e
 ·cases i with
  | zero=>simp at e; subst e; exact ⟨c,rfl,h0,hb,o⟩
  | succ i=>simp at e
 ·cases i with
  | zero =>
   cases j with
   | zero=>rfl
   | succ j=>simp at e2
  | succ i=>simp at e1
theorem Stp.lent {c:Addr} (p:Stp B0 H0 B1 H1) (h0:H0 c=none) (q:Stp B1 (hidH H1 c) B' H') (hb:B' c=none):Stp B0 H0 B' H' :=
 ⟨p.b.trans q.b,fun b o e=>by
  have n:b≠c:=fun z=>by rw [z,h0] at e; cases e
  exact q.h _ _ (by rw [hid_ne n]; exact p.h _ _ e),q.s,fun b z=>by
  have n:b≠c:=fun w=>by rw [w] at z; exact z hb
  rcases q.d b z with w | w | ⟨xs,w⟩
  ·exact p.d b w
  ·rw [hid_ne n] at w
   exact .inr (.inl (p.h.free w))
  ·rw [hid_ne n] at w
   cases e:H0 b with
   | none=>exact .inr (.inl rfl)
   | some o =>
    rw [p.h _ _ e] at w
    exact .inr (.inr ⟨xs,w⟩)⟩
theorem pubI {c:Addr} {Hh:Hp} {Q:D→Prop} (q:Stp B1 Hh B' H') (hc:B' c=none) (h:RepR K B' Hh H' r v) (ne:∀ d,r=.own d→v≠.ref c) (hq:pubR r Q):∃ d B2,Stp B1 Hh B2 H'∧Same B' B2∧B2 c=none∧Rep K B2 d v∧Q d:=by
 cases r with
 | val d=>exact ⟨d,B',q,Same.refl _,hc,h,hq⟩
 | own d =>
  have ne':=ne d rfl
  obtain ⟨ad,rfl,h0,hb,o⟩:=h
  obtain ⟨u,e,rp⟩:=o.pub hb
  have n:c≠ad:=fun z=>ne' (by rw [z])
  refine ⟨d,upd B' ad u,⟨q.b.trans (same_upd hb _),q.h,same_updL q.s e,fun b z=>?_⟩,same_upd hb _,by rw [upd_ne n]; exact hc,rp,hq⟩
  by_cases w:b=ad
  ·exact .inr (.inl (w ▸ h0))
  ·rw [upd_ne w] at z
   exact q.d b z
 | peek d=>exact hq.elim
 | exc n=>exact hq.elim
def vCallI (g:DPI) (j:Nat) (tA:TVA) (τ:VSt) (k:D→VSt→Prop):Prop:=match τ[j]? with
 | some (some (.own (.io c ps)))=>tA τ fun a=>match a with
  | .ok ds=>g ds ps fun r qs=>pubR r fun d=>k d (τ.set j (some (.own (.io c qs))))
  | .exc _=>False
 | _=>False
def vSetCI (i:Nat) (g:DPI) (j:Nat) (tA:TVA):TVS:=fun Dv τ=>vCallI g j tA τ fun d τ'=>Dv.nx (τ'.set i (some (.val d)))
def vAsgI (g:DPI) (j:Nat) (tA:TVA) (tg:TVG):TVS:=fun Dv τ=>vCallI g j tA τ fun d τ'=>tg d τ' Dv.nx
end
section
variable {K:PySem.W.Frag} {x qual:Str} {st:Stmt} {f:Addr} {fd:FuncData} {ps:List Str}
theorem len_cons {α:Type} {us:List α} {n:Nat} (h:us.length=n+1):∃ a t,us=a :: t∧t.length=n:=by
 cases us with
 | nil=>cases h
 | cons a t=>exact ⟨a,t,rfl,Nat.succ.inj h⟩
theorem Fun.binds1 (F:Fun K x qual st f fd) (hp:ps.length=1) (h:∀ (kV doc pm:Value) (an:Option Addr) (cdv ct a0:Value),bindArgs (PySem.W.fnOf x qual (defArgs st) (defBody st) (defScope st) .none kV doc pm an cdv ct) ⟨[a0],[]⟩=pure (ps.zip [a0])):Binds K fd ps [] :=
 F.binds fun kV doc pm an cdv ct us hl=>by
  obtain ⟨a0,t,rfl,h0⟩:=len_cons (hl.trans hp)
  cases List.length_eq_zero_iff.mp h0
  exact h kV doc pm an cdv ct a0
theorem Fun.binds2 (F:Fun K x qual st f fd) (hp:ps.length=2) (h:∀ (kV doc pm:Value) (an:Option Addr) (cdv ct a0 a1:Value),bindArgs (PySem.W.fnOf x qual (defArgs st) (defBody st) (defScope st) .none kV doc pm an cdv ct) ⟨[a0,a1],[]⟩=pure (ps.zip [a0,a1])):Binds K fd ps [] :=
 F.binds fun kV doc pm an cdv ct us hl=>by
  obtain ⟨a0,t,rfl,h0⟩:=len_cons (hl.trans hp)
  obtain ⟨a1,t,rfl,h1⟩:=len_cons h0
  cases List.length_eq_zero_iff.mp h1
  exact h kV doc pm an cdv ct a0 a1
theorem Fun.binds3 (F:Fun K x qual st f fd) (hp:ps.length=3) (h:∀ (kV doc pm:Value) (an:Option Addr) (cdv ct a0 a1 a2:Value),bindArgs (PySem.W.fnOf x qual (defArgs st) (defBody st) (defScope st) .none kV doc pm an cdv ct) ⟨[a0,a1,a2],[]⟩=pure (ps.zip [a0,a1,a2])):Binds K fd ps [] :=
 F.binds fun kV doc pm an cdv ct us hl=>by
  obtain ⟨a0,t,rfl,h0⟩:=len_cons (hl.trans hp)
  obtain ⟨a1,t,rfl,h1⟩:=len_cons h0
  obtain ⟨a2,t,rfl,h2⟩:=len_cons h1
  cases List.length_eq_zero_iff.mp h2
  exact h kV doc pm an cdv ct a0 a1 a2
theorem Fun.binds4 (F:Fun K x qual st f fd) (hp:ps.length=4) (h:∀ (kV doc pm:Value) (an:Option Addr) (cdv ct a0 a1 a2 a3:Value),bindArgs (PySem.W.fnOf x qual (defArgs st) (defBody st) (defScope st) .none kV doc pm an cdv ct) ⟨[a0,a1,a2,a3],[]⟩=pure (ps.zip [a0,a1,a2,a3])):Binds K fd ps [] :=
 F.binds fun kV doc pm an cdv ct us hl=>by
  obtain ⟨a0,t,rfl,h0⟩:=len_cons (hl.trans hp)
  obtain ⟨a1,t,rfl,h1⟩:=len_cons h0
  obtain ⟨a2,t,rfl,h2⟩:=len_cons h1
  obtain ⟨a3,t,rfl,h3⟩:=len_cons h2
  cases List.length_eq_zero_iff.mp h3
  exact h kV doc pm an cdv ct a0 a1 a2 a3
end
end L2
namespace L2
open PySem PySem.Spec PyProof.Rows
section
variable {X:Cx} {EX:St→XK} {a b e:Expr} {es:List Expr} {pos p tp:Pos} {tA:TVA} {te:TV}
end
end L2
namespace L2
open PySem PySem.Spec PyProof.Rows
section
variable {X:Cx} {EX:St→XK} {K:PySem.W.Frag} {B H B' H' H0 B0 B1 H1:Hp} {st:Stmt} {rest:List Stmt} {t u:TVS} {e a:Expr} {te ta tk:TV} {tT:TVT} {tA:TVA} {es:List Expr} {pos pos' p p2 apos cpos:Pos} {x y:Str} {τ:VSt} {σ:St} {r:R} {v:V}
theorem own_ioT {c ad:Addr} {ks:List (List Str)} {ds:List D} (h:OwnAt K B H (.ioT c ks ds) ad):ad=c∧∃ kvs,H ad=some (.dT kvs)∧kvs.map (·.1)=ks.map wK∧Reps K B ds (kvs.map (·.2)):=let ⟨xs,e,z,r⟩:=h; ⟨z,xs,e,r⟩
def vVarIT (i:Nat):TV:=fun τ Q=>match τ[i]? with
 | some (some (.own (.ioT _ ks ds)))=>Q (.peek (.dT ks ds))
 | _=>False
theorem rf_varIT {i:Nat}:RfE K EX (tVar i) (vVarIT i):=fun H0 B H τ σ Q Qd s S h _ k=>by
 unfold vVarIT at h
 split at h
 ·rename_i c ks ds e
  obtain ⟨ad,q,_,hb,ow⟩:=S.own i _ e
  obtain ⟨_,xs,hx,rp⟩:=own_ioT ow
  exact ⟨.ref ad,q,k (.peek (.dT ks ds)) (.ref ad) B H (.refl s) ⟨ad,rfl,hb,xs,hx,rp⟩ h⟩
 ·exact h.elim
theorem vvIT (i:Nat) (hN:X.N[i]?=some x:=by rfl) (hv:Vis X.env.scope x:=by first | exact Or.inl rfl | exact Or.inr (Or.inl rfl) | exact Or.inr (Or.inr rfl)) (hd:(x == ("__debug__" : Str))=false:=by decide)
  (hcd:(x == ("__classdict__" : Str))=false:=by decide):VE X EX (.Name x pos) (vVarIT i):=⟨_,qv i hN hv hd hcd,rf_varIT⟩
def toIo (c:Addr):D→D
 | .dT ks ds=>.ioT c ks ds
 | d=>d
def vDPutI (i:Nat) (tk te:TV):TVS:=fun Dv τ=>match τ[i]? with
 | some (some (.own (.ioT c ks ds)))=>te τ fun r=>exS τ Dv r <| pubR r fun d=>tk τ fun rk=>match rk.d with
  | .tup es=>∃ w,es=w.map D.str∧("" : Str)∉w∧ks.length < sizeLine∧Dv.nx (τ.set i (some (.own (toIo c (putD ks ds w d)))))
  | _=>False
 | _=>False
theorem vs_dputI {ek:Expr} (i:Nat) (hu:X.A.units+64 < cLine) (hk:VE X EX ek tk) (h:VE X EX e te) (hN:X.N[i]?=some x:=by rfl) (hv:Vis X.env.scope x:=by first | exact Or.inl rfl | exact Or.inr (Or.inl rfl) | exact Or.inr (Or.inr rfl)) (hd:(x == ("__debug__" : Str))=false:=by decide)
  (hcd:(x == ("__classdict__" : Str))=false:=by decide) (hs:swapsWith e (some (.Subscript (.Name x p) ek p2)) pos.line X.env=pure false:=by rfl):VS X EX (.Assign [.Subscript (.Name x p) ek p2] e pos) (vDPutI i tk te) :=
 let ⟨_,a1,a2⟩:=h.u; let ⟨_,b1,b2⟩:=hk.u; ⟨_,qs_dput (by lia) (qv i hN hv hd hcd) b1 a1 hs,fun B0 H0 B H τ σ Dv Dh p S h E=>by
  unfold vDPutI at h
  split at h
  ·rename_i c ks ds e1
   obtain ⟨ad,e2,_,_,_⟩:=S.own i _ e1
   refine a2 H0 B H τ σ _ _ p.s S h (E.raised p S) fun r v B' H' q hr hq=>?_
   obtain ⟨d,B2,q2,_,rp,hn⟩:=pub q hr (hr.okS hq)
   refine ⟨.ref ad,e2,b2 H0 B2 H' τ σ _ _ q2.s (S.step q2) hn (xno fun _ q=>q) fun rk vk B3 H3 q3 hk hh=>?_⟩
   split at hh
   ·rename_i es ek
    obtain ⟨w,rfl,hne,hz,hn⟩:=hh
    obtain ⟨b,rfl,hb⟩:=hk.pk.way ek hne
    have qq:=q2.trans q3
    have S3:=S.step qq
    obtain ⟨a',f1,h0,hbb,ow⟩:=S3.own i _ e1
    obtain ⟨ec,kvs,f4,f5,f6⟩:=own_ioT ow
    rw [e2] at f1
    cases f1
    have hl:kvs.length < sizeLine:=by
     have:kvs.length=ks.length:=by simpa using congrArg List.length f5
     lia
    refine ⟨ad,_,rfl,DPut.t (k:=wK w) f4 (by rw [wK_kV]; exact q3.s _ _ hb) hl,?_⟩
    obtain ⟨ks',ds',ep,g1,g2⟩:=put_rel w f5 f6 (rp.same q3.b)
    rw [ep] at hn
    exact E.nx B3 _ _ σ ((p.trans qq).upd h0 hbb) (S3.upd (d:=.ioT c ks' ds') e1 e2 ⟨_,upd_same,ec,g1,g2⟩) hn
   ·exact hh.elim
  ·exact h.elim⟩
def RfAIT (K:PySem.W.Frag) (EX:St→XK) (te:TA) (t:TVA) (k j:Nat):Prop:=∀ (H0 B H:Hp) (τ:VSt) (σ:St) (Q:List V→Hp→Prop) (Qd:AR→Prop),Same B H→Slots K H0 B H τ σ→(∃ ks ps,τ[j]?=some (some (R.own (.dT ks ps))))→t τ Qd→(∀ n C B' H',Stp B H B' H'→clsOf K n C→Qd (.exc n)→EX σ (.ref C) none H') →
 (∀ ds vs B' H' ad,Stp B H B' H'→k≤vs.length→σ[j]?=some (some (.ref ad))→Reps K B' ds vs→Qd (.ok ds)→Q (vs.insertIdx k (.ref ad)) H')→te σ H Q
structure VAIT (X:Cx) (EX:St→XK) (es:List Expr) (t:TVA) (k j:Nat):Prop where
 u:∃ te,QA X es te∧RfAIT X.K EX te t k j
theorem vait_here (j:Nat) (hr:VA X EX es tA) (hN:X.N[j]?=some x:=by rfl) (hv:Vis X.env.scope x:=by first | exact Or.inl rfl | exact Or.inr (Or.inl rfl) | exact Or.inr (Or.inr rfl)) (hd:(x == ("__debug__" : Str))=false:=by decide)
  (hcd:(x == ("__classdict__" : Str))=false:=by decide):VAIT X EX (.Name x pos :: es) tA 0 j :=
 let ⟨_,b1,b2⟩:=hr.u; ⟨_,qac (qv j hN hv hd hcd) b1 rfl,fun H0 B H τ σ Q Qd s S ⟨c,ps,e⟩ h xc k=>by
  obtain ⟨ad,q,_,hb,ow⟩:=S.own j _ e
  exact ⟨.ref ad,q,b2 H0 B H τ σ _ _ s S h xc fun ds vs B1 H1 p1 q1 h1=>k ds vs B1 H1 ad p1 (Nat.zero_le _) q q1 h1⟩⟩
abbrev DPJ:=List D→List (List Str)→List D→(R→List (List Str)→List D→Prop)→Prop
def spOfJ (K:PySem.W.Frag) (g:DPJ) (k:Nat):Sp:=fun vs H Q _=>∃ ds ws B c ks ps Qd,Same B H∧Reps K B ds ws∧k≤ws.length∧vs=ws.insertIdx k (.ref c)∧B c=none∧OwnAt K B H (.ioT c ks ps) c∧g ds ks ps Qd ∧
 ∀ r v B' H' ks' ps',Qd r ks' ps'→Stp B (hidH H c) B' H'→B' c=none→OwnAt K B' H' (.ioT c ks' ps') c→RepR K B' (hidH H c) H' r v→(∀ d,r=.own d→v≠.ref c)→Q v H'
def ioOutT (k:Nat) (c:Addr) (τ:VSt) (P:List (List Str)→List D→Prop):Prop:=match τ[k]? with
 | some (some (.own (.ioT c' ks ps)))=>c'=c∧P ks ps
 | _=>False
theorem ioOutT_of {k:Nat} {c:Addr} {P:List (List Str)→List D→Prop} (h:ioOutT k c τ P):∃ ks ps,τ[k]?=some (some (.own (.ioT c ks ps)))∧P ks ps:=by
 unfold ioOutT at h
 split at h
 ·rename_i c' ks ps e
  obtain ⟨rfl,h⟩:=h
  exact ⟨ks,ps,e,h⟩
 ·exact h.elim
abbrev EnJ (k:Nat) (c:Addr) (Q:R→List (List Str)→List D→Prop):VEnds:={ nx:=fun τ=>ioOutT k c τ (Q (.val .non)),rt:=fun _=>False,ro:=fun τ r=>ioOutT k c τ (Q r) }
def startJ (N:List Str) (k:Nat) (c:Addr) (ds:List D) (ks:List (List Str)) (ps:List D):VSt:=(ds.map fun d=>some (R.val d)).insertIdx k (some (.own (.ioT c ks ps)))++List.replicate (N.length - (ds.length+1)) none
theorem startJ_slots {c:Addr} {ks:List (List Str)} {ps:List D} (h0:H0 c=none) (hb:B c=none) (o:OwnAt K B H (.ioT c ks ps) c):∀ (k:Nat) {ds:List D} {ws:List V},Reps K B ds ws→k≤ws.length→Slots K H0 B H ((ds.map fun d=>some (R.val d)).insertIdx k (some (.own (.ioT c ks ps)))) ((ws.insertIdx k (.ref c)).map some)
 | 0,ds,ws,h,_=>by
  rw [List.insertIdx_zero,List.insertIdx_zero]
  exact (reps_slots h).consO h0 hb o
 | k+1,ds,ws,h,l=>by
  cases ds with
  | nil =>
   unfold Reps at h
   subst h
   exact absurd l (by simp)
  | cons d ds =>
   unfold Reps at h
   obtain ⟨w,ws,rfl,h1,h2⟩:=h
   rw [List.map_cons,List.insertIdx_succ_cons,List.insertIdx_succ_cons,List.map_cons]
   exact (startJ_slots h0 hb o k h2 (Nat.le_of_succ_le_succ l)).consV h1
theorem Fun.okJ {P:Program} {w:World} {mg:Str→Option Value} {base:Heap} {x qual:Str} {st:Stmt} {f:Addr} {fd:FuncData} {N ps:List Str} {k m:Nat} {g:DPJ} (F:Fun K x qual st f fd) (S:FnScope N ps (defScope st)) (len:∀ ds ks zs Q,g ds ks zs Q→ds.length+1=ps.length)
  (hbody:∀ (cdv:Value) (A:Around) (outer:List Env) (s:Shared) (H:Hp) (E:XK),Room m (A.deeper (envOfC qual (defScope st) s.heap.objs.size f cdv)) →
   ∃ t,VSs (cxOf CX0 P w K mg base N qual (defScope st) f cdv A outer s H E).nox EX0 (defBody st) t∧∀ ds ks zs c Q,g ds ks zs Q→t (EnJ k c Q) (startJ N k c ds ks zs)):FnOk P w K mg base CX0 (m+1) f fd ps (spOfJ K g k):=by
 refine F.okQ S (fun vs H Q E h=>?_) (fun cdv A outer s H vs Q E hr h=>?_)
 ·obtain ⟨ds,ws,B,c,ks,zs,Qd,_,rp,lk,rfl,_,_,hg,_⟩:=h
  rw [List.length_insertIdx_of_le_length lk,← rp.length]
  exact len ds ks zs Qd hg
 ·obtain ⟨ds,ws,B,c,ks,zs,Qd,sm,rp,lk,rfl,hb,ow,hg,kk⟩:=h
  obtain ⟨t,⟨ts,q1,q2⟩,ht⟩:=hbody cdv A outer s H E hr
  refine ⟨ts,q1,q2 B (hidH H c) B H (startJ N k c ds ks zs) (start N (ws.insertIdx k (.ref c))) _ _ ⟨Same.refl _,hid_same,sm,fun _ z=>.inl z⟩ ?_ (ht ds ks zs c Qd hg) ⟨fun B' H' τ σ p S h=>?_,fun _ _ _ _ _ _ h=>h.elim,fun _ _ _ _ _ _ h=>h.elim,fun _ _ _ _ _ _ h=>h.elim,fun _ _ _ _ _ _ _ _ _ h=>h.elim,fun r v B' H' τ σ p S hr ne h=>?_⟩⟩
  ·unfold startJ start
   rw [rp.length,List.length_insertIdx_of_le_length lk]
   exact (startJ_slots hid_at hb ow k rp lk).more _
  ·obtain ⟨ks',qs,e,q⟩:=ioOutT_of h
   obtain ⟨a',_,_,hb',ow'⟩:=S.own k _ e
   obtain ⟨rfl,_⟩:=own_ioT ow'
   exact kk (.val .non) .non B' H' ks' qs q p hb' ow' (repV rfl) fun _ z=>by cases z
  ·obtain ⟨ks',qs,e,q⟩:=ioOutT_of h
   obtain ⟨a',_,_,hb',ow'⟩:=S.own k _ e
   obtain ⟨rfl,_⟩:=own_ioT ow'
   exact kk r v B' H' ks' qs q p hb' ow' hr fun d z=>ne d _ k _ z e rfl
theorem Slots.lentJ {c:Addr} {j:Nat} {ks ks':List (List Str)} {ps qs:List D} (S:Slots K H0 B1 H1 τ σ) (e:τ[j]?=some (some (.own (.dT ks ps)))) (e1:σ[j]?=some (some (.ref c))) (q:Stp B1 (hidH H1 c) B' H') (hb:B' c=none) (o:OwnAt K B' H' (.ioT c ks' qs) c):Slots K H0 B' H' (τ.set j (some (.own (.dT ks' qs)))) σ:=by
 obtain ⟨a',e1',h0,_,ow⟩:=S.own j _ e
 rw [e1] at e1'
 cases e1'
 obtain ⟨_,kvs,f4,f5,f6⟩:=own_ioT o
 refine ⟨by rw [List.length_set,S.len],fun k d q'=>?_,fun k d q'=>?_,fun k d q'=>?_,fun k l d f b q1 q2 q3 q4=>?_⟩
 ·rcases getSet q' with ⟨rfl,z,_⟩ | ⟨_,q'⟩
  ·cases z
  ·obtain ⟨w,w1,w2⟩:=S.val k d q'
   exact ⟨w,w1,w2.same q.b⟩
 ·rcases getSet q' with ⟨rfl,z,_⟩ | ⟨_,q'⟩
  ·cases z
  ·obtain ⟨w,w1,w2⟩:=S.fz k d q'
   exact ⟨w,w1,w2.same q.b⟩
 ·rcases getSet q' with ⟨rfl,z,_⟩ | ⟨n,q'⟩
  ·cases z
   exact ⟨_,e1,h0,hb,kvs,f4,f5,f6⟩
  ·obtain ⟨b,w1,w2,w3,w4⟩:=S.own k d q'
   have nb:b≠c:=fun z=>n (S.sep j k _ _ c e q' e1 (by rw [← z]; exact w1))
   have hs:hidH H1 c b≠none:=by rw [hid_ne nb]; exact w4.some
   refine ⟨b,w1,w2,q.keep w3 hs (fun xs=>by rw [hid_ne nb]; exact w4.nt xs),w4.step q.b ?_⟩
   rw [q.h.at hs,hid_ne nb]
 ·have hk:∃ d',τ[k]?=some (some (.own d')):=by
   rcases getSet q1 with ⟨rfl,_,_⟩ | ⟨_,q'⟩
   ·exact ⟨_,e⟩
   ·exact ⟨_,q'⟩
  have hl:∃ d',τ[l]?=some (some (.own d')):=by
   rcases getSet q2 with ⟨rfl,_,_⟩ | ⟨_,q'⟩
   ·exact ⟨_,e⟩
   ·exact ⟨_,q'⟩
  obtain ⟨_,hk⟩:=hk
  obtain ⟨_,hl⟩:=hl
  exact S.sep k l _ _ b hk hl q3 q4
def vCallJ (g:DPJ) (j:Nat) (tA:TVA) (τ:VSt) (k:D→VSt→Prop):Prop:=match τ[j]? with
 | some (some (.own (.dT ks ps)))=>tA τ fun a=>match a with
  | .ok ds=>g ds ks ps fun r ks' qs=>pubR r fun d=>k d (τ.set j (some (.own (.dT ks' qs))))
  | .exc _=>False
 | _=>False
theorem rf_callJ {g:DPJ} {j k:Nat} {teA:TA} (hA:RfAIT K EX teA tA k j) {Q:VK} {P:D→VSt→Prop} (pp:Stp B0 H0 B H) (S:Slots K H0 B H τ σ) (h:vCallJ g j tA τ P) (kk:∀ d τ' v B' H',Stp B0 H0 B' H'→Slots K H0 B' H' τ' σ→Rep K B' d v→P d τ'→Q v H'):tCall (spOfJ K g k) [] E0 teA σ H Q:=by
 unfold vCallJ at h
 split at h
 ·rename_i ks ps e
  refine hA H0 B H τ σ _ _ pp.s S ⟨ks,ps,e⟩ h (xno fun _ q=>q) fun ds vs B1 H1 ad p1 lk hj rp h1=>?_
  have S1:=S.step p1
  obtain ⟨a',e1,h0,hb,kvs,f4,f5,f6⟩:=S1.own j _ e
  rw [hj] at e1
  cases e1
  refine ⟨ds,vs,B1,ad,ks,ps,_,p1.s,rp,lk,by rw [List.append_nil],hb,⟨kvs,f4,rfl,f5,f6⟩,h1,fun r v B' H' ks' qs hq q hc o hr ne=>?_⟩
  obtain ⟨d,B2,q2,s2,hc2,rp2,hd⟩:=pubI q hc hr ne hq
  exact kk d _ v B2 H' ((pp.trans p1).lent h0 q2 hc2) (S1.lentJ e hj q2 hc2 (o.step s2 rfl)) rp2 hd
 ·exact h.elim
def vSetCJ (i:Nat) (g:DPJ) (j:Nat) (tA:TVA):TVS:=fun Dv τ=>vCallJ g j tA τ fun d τ'=>Dv.nx (τ'.set i (some (.val d)))
theorem vs_setCJ {i m k j:Nat} {ps:List Str} {g:DPJ} (hN:X.N.Nodup) (hi:X.N[i]?=some y) (hx:Loc X.env.scope y) (C:Cal X.prog X.w X.K X.mg X.base m x ps (spOfJ X.K g k)) (hr:Room m X.A) (hg:Gl X x) (ha:VAIT X EX (e :: es) tA k j) (hp:(e :: es).all plainE=true:=by rfl) (hdb:(x == ("__debug__" : Str))=false:=by decide)
  (hs:swapsWith (.Call (.Name x p) (e :: es) [] p2) (some (.Name y pos')) pos.line X.env=pure false:=by rfl)
  (hf:X.fn y=true∨X.env.scope.names.lookup y=some .local:=by first | exact .inl rfl | exact .inr rfl | assumption):VS X EX (.Assign [.Name y pos'] (.Call (.Name x p) (e :: es) [] p2) pos) (vSetCJ i g j tA) :=
 let ⟨_,a1,a2⟩:=ha.u; ⟨_,qs_set hN hi hx (qe_cal C hr hg a1 hp hdb) hs hf,fun B0 H0 B H τ σ Dv Dh p S h E=>rf_callJ a2 p S h fun d τ' v B' H' q S' rp hd=>E.nx B' H' _ _ q (S'.setVal i rp) hd⟩
def vSetLJ (i:Nat) (g:DPJ) (j:Nat) (tA:TVA):TVS:=fun Dv τ=>vCallJ g j tA τ fun d τ'=>∃ ds,d=.tup ds∧Dv.nx (τ'.set i (some (.own (.lst ds))))
theorem vs_setLJ {p3 p4:Pos} {i m k j:Nat} {ps:List Str} {g:DPJ} (hN:X.N.Nodup) (hi:X.N[i]?=some y) (hx:Loc X.env.scope y) (hgl:Gl X "list") (hml:X.mg "list" = none) (C:Cal X.prog X.w X.K X.mg X.base m x ps (spOfJ X.K g k)) (hr:Room m X.A) (hg:Gl X x) (ha:VAIT X EX (e :: es) tA k j) (hp:(e :: es).all plainE=true:=by rfl) (hdb:(x == ("__debug__" : Str))=false:=by decide)
  (hs:swapsWith (.Call (.Name "list" p3) [.Call (.Name x p) (e :: es) [] p2] [] p4) (some (.Name y pos')) pos.line X.env=pure false:=by rfl)
  (hf:X.fn y=true∨X.env.scope.names.lookup y=some .local:=by first | exact .inl rfl | exact .inr rfl | assumption):VS X EX (.Assign [.Name y pos'] (.Call (.Name "list" p3) [.Call (.Name x p) (e :: es) [] p2] [] p4) pos) (vSetLJ i g j tA) :=
 let ⟨_,c1,c2⟩:=(vf_list (X:=X)).u; let ⟨_,a1,a2⟩:=ha.u; ⟨_,qs_set hN hi hx (qct c1 hgl hml PyProof.Rows.Boot.«list» (qac (qe_cal C hr hg a1 hp hdb) qa_nil rfl) (by simp [plainE]) (by decide) (by decide)) hs hf,fun B0 H0 B H τ σ Dv Dh p S h E=>rf_callJ a2 p S h fun d τ' v B' H' q S' rp hd=>by
  obtain ⟨ds,ed,hd⟩:=hd
  refine c2 B' H' v (.val d) _ (fun r=>r=.own (.lst ds)) q.s rp (by subst ed; rfl) fun r v2 B2 H2 q2 hr hq=>?_
  subst hq
  obtain ⟨ad,rfl,h0,hb,o⟩:=hr
  refine E.nx B2 H2 _ _ (q.trans q2) ((S'.step q2).setOwn i (q.h.free h0) hb o fun j e he z=>?_) hd
  obtain ⟨c,qc,_,_,oc⟩:=S'.own j e he
  rw [z] at qc
  cases qc
  exact oc.some h0⟩
def repL (ds:List D) (n:Nat):List D:=(List.replicate n ds).flatten
def vMulL (rx ry:R) (Q:R→Prop):Prop:=match rx.d,ry.d with
 | .lst ds,.int n=>-(2 ^ 63)≤n∧n < 2 ^ 63∧ds.length * n.toNat≤sizeLine∧Q (.own (.lst (repL ds n.toNat)))
 | _,_=>False
theorem reps_rep {ds:List D} {xs:List V} (h:Reps K B ds xs):∀ n,Reps K B (repL ds n) (List.replicate n xs).flatten
 | 0=>by unfold repL; unfold Reps; rfl
 | n+1=>by
  have:=h.append (reps_rep h n)
  unfold repL at this ⊢
  rw [List.replicate_succ,List.replicate_succ,List.flatten_cons,List.flatten_cons]
  exact this
theorem vo_mulL:VO X (binaryOp .Mult) vMulL:=⟨_,op_rep,fun B H x y rx ry Q Qd s px py h k=>by
 unfold vMulL at h
 split at h
 ·rename_i ds n e1 e2
  obtain ⟨a,xs,rfl,h1,r1⟩:=px.lst s e1
  obtain ⟨c1,c2,c3,hq⟩:=h
  exact ⟨a,n,xs,rfl,py.scal (by rw [e2]; rfl),h1,c1,c2,by rw [← r1.length]; exact c3,fun p hp=>k (.own (.lst (repL ds n.toNat))) _ B _ (.grow s (same_upd hp _)) ⟨p,rfl,hp,s.free hp,own_newL (reps_rep r1 _)⟩ hq⟩
 ·exact h.elim⟩
end
section
variable {X:Cx} {p kp pos:Pos} {a d:Expr}
end
section
variable {X:Cx} {EX:St→XK} {p kp pos cp:Pos} {a:Expr} {te:TV} {j:Nat}
end
section
variable {prog:Program} {w:World} {A:Around} {E:Value→Shared→Prop} {s:Shared} {d:Addr} {es:Array DictEntry} {ep:Nat}
end
section
variable {X:Cx}
end
section
variable {P:Program} {w:World} {K:PySem.W.Frag} {mg:Str→Option Value} {base h:Heap} {x:Str} {st:Stmt} {k:Nat} {ps:List Str} {sp:Sp}
def DefAt (K:PySem.W.Frag) (x:Str) (st:Stmt):Prop:=∃ (f:Addr) (fd:FuncData),PySem.W.nsIn K mainGlobals x=some (some (.ref f))∧Fun K x x st f fd
theorem at_mk {f:Addr} {oc:Value} {od an:Option Addr} {osl:Array (Option Value)} {kV doc pm cdv ct:Value} (a:PySem.W.nsIn K mainGlobals x=some (some (.ref f))) (l:K.lookup f=some ⟨oc,od,.func (PySem.W.fnOf x x (defArgs st) (defBody st) (defScope st) .none kV doc pm an cdv ct),osl⟩)
  (c:PySem.W.codeIn K cdv x=true) (q:PySem.W.keepIn K (.ref f)=true):DefAt K x st:=⟨f,_,a,fun_mk l c q⟩
theorem calD (P:Program) (w:World) (base:Heap) (X:K.In h) (G:h.Ns mainGlobals mg) (D:DefAt K x st) (ok:∀ {f:Addr} {fd:FuncData},Fun K x x st f fd→FnOk P w K mg base CX0 k f fd ps sp) (b:∀ {f:Addr} {fd:FuncData},Fun K x x st f fd→Binds K fd ps []):Cal P w K mg base k x ps sp :=
 let ⟨_,_,a,F⟩:=D; .mk (ok F) (PySem.W.mg_of X G a) F.kp (b F)
theorem calDX (P:Program) (w:World) (base:Heap) (X:K.In h) (G:h.Ns mainGlobals mg) (D:DefAt K x st) (ok:∀ {f:Addr} {fd:FuncData},Fun K x x st f fd→FnOk P w K mg base (CXR P w) k f fd ps sp) (b:∀ {f:Addr} {fd:FuncData},Fun K x x st f fd→Binds K fd ps []):CalX P w K mg base k x ps sp :=
 let ⟨_,_,a,F⟩:=D; .mk (ok F) (PySem.W.mg_of X G a) F.kp (b F)
end
end L2
namespace L2
open PySem PySem.Spec PyProof.Rows
section
variable {X:Cx}
end
end L2
namespace L2
open PySem PySem.Spec PyProof.Rows
section
variable {X:Cx} {EX:St→XK} {K:PySem.W.Frag} {B B' H H0:Hp} {τ:VSt} {σ:St} {x:Str} {e:Expr} {te:TV} {rest:List Stmt} {u:TVS} {pos pos':Pos}
theorem slots_frzJ {i:Nat} {a ca:Addr} {o:Obj} {ks:List (List Str)} {ds:List D} {kvs:List (List Key × V)} (S:Slots K H0 B H τ σ) (e:τ[i]?=some (some (.own (.ioT ca ks ds)))) (q:σ[i]?=some (some (.ref a))) (hb:B a=none) (e2:kvs.map (·.1)=ks.map wK) (e3:Reps K B ds (kvs.map (·.2))) :
  Slots K H0 (upd B a (.frz o (.dT kvs))) (upd H a (.frz o (.dT kvs))) (τ.set i (some (.peek (.dT ks ds)))) σ:=by
 have sb:=same_upd hb (HO.frz o (.dT kvs))
 refine ⟨by rw [List.length_set,S.len],fun j f q'=>?_,fun j f q'=>?_,fun j f q'=>?_,fun j k f g c q1 q2 q3 q4=>?_⟩
 ·rcases getSet q' with ⟨rfl,z,l⟩ | ⟨n,q'⟩
  ·cases z
  ·obtain ⟨w,q1,r⟩:=S.val j f q'
   exact ⟨w,q1,r.same sb⟩
 ·rcases getSet q' with ⟨rfl,z,l⟩ | ⟨n,q'⟩
  ·cases z
   exact ⟨_,q,a,ks,ds,kvs,o,rfl,rfl,upd_same,e2,e3.same sb⟩
  ·obtain ⟨w,q1,r⟩:=S.fz j f q'
   exact ⟨w,q1,r.same sb⟩
 ·rcases getSet q' with ⟨rfl,z,l⟩ | ⟨n,q'⟩
  ·cases z
  ·obtain ⟨c,q1,h0',hb',w⟩:=S.own j f q'
   have ne:c≠a:=fun z=>by subst z; exact n (S.sep i j _ f c e q' q q1)
   exact ⟨c,q1,h0',by rw [upd_ne ne]; exact hb',w.step sb (upd_ne ne)⟩
 ·rcases getSet q1 with ⟨rfl,z,l⟩ | ⟨n,q1⟩
  ·cases z
  rcases getSet q2 with ⟨rfl,z,l⟩ | ⟨n2,q2⟩
  ·cases z
  exact S.sep j k f g c q1 q2 q3 q4
def vLendJ (i j:Nat) (te:TV) (u:TVS):TVS:=fun Dv τ=>match τ[i]? with
 | some (some (.own (.ioT _ ks ds)))=>te (τ.set i (some (.peek (.dT ks ds)))) fun r=>pubR r fun d=>NoDt d∧u Dv (τ.set j (some (.val d)))
 | _=>False
theorem vss_lendJ {i j:Nat} (hN:X.N.Nodup) (hi:X.N[j]?=some x) (hx:Loc X.env.scope x) (h:VC X EX e te) (hr:VSs X EX rest u) (hs:swapsWith e (some (.Name x pos')) pos.line X.env=pure true:=by rfl)
  (hf:X.fn x=true∨X.env.scope.names.lookup x=some .local:=by first | exact .inl rfl | exact .inr rfl | assumption):VSs X EX (.Assign [.Name x pos'] e pos :: rest) (vLendJ i j te u) :=
 let ⟨_,a1,a2⟩:=h.u; let ⟨_,r1,r2⟩:=hr.u; ⟨_,qss_lendD i (qs_setC hN hi hx a1 hs hf) r1,fun B0 H0 B H τ σ Dv Dh p S h E=>by
  unfold vLendJ at h
  split at h
  ·rename_i ca ks ds e
   obtain ⟨a,q,h0,hb,kvs,e1,_,e2,e3⟩:=S.own i _ e
   refine ⟨a,kvs,q,e1,fun o=>?_⟩
   have sH:Same (upd B a (.frz o (.dT kvs))) (upd H a (.frz o (.dT kvs))):=fun c w z=>by
    by_cases y:c=a
    ·subst y
     rw [upd_same] at z ⊢
     exact z
    ·rw [upd_ne y] at z ⊢
     exact p.s _ _ z
   refine a2 H0 _ _ _ σ _ _ sH (slots_frzJ S e q hb e2 e3) h (xno fun _ q=>q) fun r v B1 H1 q1 hr hq=>?_
   obtain ⟨d,B2,q2,_,rp,nd,hn⟩:=pub q1 hr hq
   have bf:B2 a=some (.frz o (.dT kvs)):=q2.b _ _ upd_same
   have hfz:H1 a=some (.frz o (.dT kvs)):=q2.s _ _ bf
   refine ⟨hfz,?_⟩
   let B3:Hp:=fun b=>if b=a then none else B2 b
   have b3:∀ b,b≠a→B3 b=B2 b:=fun b n=>if_neg n
   have b3a:B3 a=none:=if_pos rfl
   have st:Stp B H B3 (upd H1 a (.dT kvs)):=by
    refine ⟨fun b w z=>?_,fun b w z=>?_,fun b w z=>?_,fun b z=>?_⟩
    ·have n:b≠a:=fun y=>by rw [y,hb] at z; cases z
     rw [b3 b n]
     exact q2.b _ _ (by rw [upd_ne n]; exact z)
    ·by_cases n:b=a
     ·subst n
      rw [e1] at z
      cases z
      exact upd_same
     ·rw [upd_ne n]
      exact q2.h _ _ (by rw [upd_ne n]; exact z)
    ·by_cases n:b=a
     ·rw [n,b3a] at z; cases z
     ·rw [b3 b n] at z
      rw [upd_ne n]
      exact q2.s _ _ z
    ·by_cases n:b=a
     ·rw [n,b3a] at z; exact absurd rfl z
     ·rw [b3 b n] at z
      have:=q2.d b z
      rw [upd_ne n,upd_ne n] at this
      exact this
   have rp3:Rep X.K B3 d v:=nd X.K B2 B3 v (fun b w z nf=>by
    have n:b≠a:=fun y=>by rw [y,bf] at z; cases z; exact nf _ _ rfl
    rw [b3 b n]
    exact z) rp
   exact r2 B0 H0 B3 _ _ _ _ _ (p.trans st) ((S.step st).setVal j rp3) hn E
  ·exact h.elim⟩
end
end L2
set_option maxHeartbeats 4000000
namespace K52
open PySem L2
local macro_rules | `(tactic| simp! only [$xs,*])=>`(tactic| simp only [vSeq,vIfS,vBl,vOp,vLt,vLe,vGt,vGe,vI2',vI2,vVar,vF1,vLen,vList,vListD,vTuple,vStr,vRet,vRetO,vRetN,vIxR,vNext,vC,vAdd,vSub,vMul,vDiv,vMod,vPow,vEq,vNe,vSlice,vSlR,vNoPart,vPart,vNeg,vCall,vCallN,vCons,vNil,vTup,vLst,vSet,vSetO,vAppend,ownL,vFor,vRng1,vRng2,vItems,vComp,vIsin,isTy,vNotT,vAndT,vOrT,vNotE,vAndE,vOrE,vIfE,vAsg,vgName,vgNil,vgCons,vgTup,vMulL,vVarIT,vDPutI,toIo,vSetCJ,vSetLJ,vCallJ,ioOutT,startJ,vFrz,vItemsF,frz,vDrop,vAll,vJoin,vIsN,vChain,startD,dV,scal,rd_val,rd_own,rd_peek,rd_exc,pub_val,pub_own,ex_val,ex_own,ex_peek,ex_exc,exA_val,exA_own,exA_peek,exA_exc,exS_val,exS_own,exS_peek,exS_exc,exA_ok,exA_raise,exI_ok,exI_exc,more_ok,more_exc,vRaise,vTry,VEnds.calm,VEnds.wiped,vDGet,vDIn,vDGet1,vDNewT,vDPut,ownT,vDisp1,vSorted,vCalC,tupR,vPop0,vAug,vInsert,vUnpL,vNeD,vStarts,vSplit,vMulS,vIn,vRetI,vCallI,vSetCI,vAsgI,ioOut,startI,List.insertIdx_zero,List.insertIdx_succ_cons,strsOf,strsOf_map,Option.map_some,List.map_cons,List.map_nil,List.length_cons,List.length_nil,List.cons_append,List.nil_append,List.getElem?_cons_zero,List.getElem?_cons_succ,List.set_cons_zero,List.set_cons_succ,List.replicate_succ,List.replicate_zero,Nat.reduceSub,Nat.reduceAdd,if_true,if_false,ite_true,ite_false,Bool.not_true,Bool.not_false,decide_true,decide_false,eq_int,eq_str,cmp_int,cmp_str,dep_int,dep_str,true_and,and_true,Nat.zero_le,List.take_succ_cons,List.take_zero,reduceIte,Bool.false_eq_true,eq_self,List.length_map,V.int.injEq,V.str.injEq,CDiv,Int.reduceLT,Int.zero_add,and_self,List.cons.injEq,D.scr.injEq,D.int.injEq,D.str.injEq,D.tup.injEq,D.lst.injEq,D.bl.injEq,and_assoc,exists_and_left,exists_eq_left,exists_eq_left',map_str_iff,map_int_iff,snoc_str,snoc_int,drop_str,cat_str,cutL_map,Int.reduceLE,Int.le_refl,take_str,dropn_str,atI_lit,atI_neg1,Option.some.injEq,$xs,*])
local macro_rules | `(tactic| dsimp! only [$xs,*])=>`(tactic| ((try dsimp only [vIfS,vBl,vOp,vLt,vLe,vGt,vGe,vI2',vI2,vVar,vF1,vLen,vList,vListD,vTuple,vStr,vRet,vRetO,vRetN,vIxR,vNext,vC,vAdd,vSub,vMul,vDiv,vMod,vPow,vEq,vNe,vSlice,vSlR,vNoPart,vPart,vNeg,vCall,vCallN,vCons,vNil,vTup,vLst,vSet,vSetO,vAppend,ownL,vFor,vRng1,vRng2,vItems,vComp,vIsin,isTy,vNotT,vAndT,vOrT,vNotE,vAndE,vOrE,vIfE,vAsg,vgName,vgNil,vgCons,vgTup,vMulL,vVarIT,vDPutI,toIo,vSetCJ,vSetLJ,vCallJ,ioOutT,startJ,vFrz,vItemsF,frz,vDrop,vAll,vJoin,vIsN,vChain,startD,dV,scal,rd_val,rd_own,rd_peek,rd_exc,pub_val,pub_own,ex_val,ex_own,ex_peek,ex_exc,exA_val,exA_own,exA_peek,exA_exc,exS_val,exS_own,exS_peek,exS_exc,exA_ok,exA_raise,exI_ok,exI_exc,more_ok,more_exc,vRaise,vTry,VEnds.calm,VEnds.wiped,vDGet,vDIn,vDGet1,vDNewT,vDPut,ownT,vDisp1,vSorted,vCalC,tupR,vPop0,vAug,vInsert,vUnpL,vNeD,vStarts,vSplit,vMulS,vIn,vRetI,vCallI,vSetCI,vAsgI,ioOut,startI,List.insertIdx_zero,List.insertIdx_succ_cons,strsOf,Option.map_some,List.map_cons,List.map_nil,List.length_cons,List.length_nil,List.cons_append,List.nil_append,List.getElem?_cons_zero,List.getElem?_cons_succ,List.set_cons_zero,List.set_cons_succ,List.take_succ_cons,List.take_zero,CDiv,$xs,*]); (try simp only [vIfS,vBl,vOp,vLt,vLe,vGt,vGe,vI2',vI2,vVar,vF1,vLen,vList,vListD,vTuple,vStr,vRet,vRetO,vRetN,vIxR,vNext,vC,vAdd,vSub,vMul,vDiv,vMod,vPow,vEq,vNe,vSlice,vSlR,vNoPart,vPart,vNeg,vCall,vCallN,vCons,vNil,vTup,vLst,vSet,vSetO,vAppend,ownL,vFor,vRng1,vRng2,vItems,vComp,vIsin,isTy,vNotT,vAndT,vOrT,vNotE,vAndE,vOrE,vIfE,vAsg,vgName,vgNil,vgCons,vgTup,vMulL,vVarIT,vDPutI,toIo,vSetCJ,vSetLJ,vCallJ,ioOutT,startJ,vFrz,vItemsF,frz,vDrop,vAll,vJoin,vIsN,vChain,startD,dV,scal,rd_val,rd_own,rd_peek,rd_exc,pub_val,pub_own,ex_val,ex_own,ex_peek,ex_exc,exA_val,exA_own,exA_peek,exA_exc,exS_val,exS_own,exS_peek,exS_exc,exA_ok,exA_raise,exI_ok,exI_exc,more_ok,more_exc,vRaise,vTry,VEnds.calm,VEnds.wiped,vDGet,vDIn,vDGet1,vDNewT,vDPut,ownT,vDisp1,vSorted,vCalC,tupR,vPop0,vAug,vInsert,vUnpL,vNeD,vStarts,vSplit,vMulS,vIn,vRetI,vCallI,vSetCI,vAsgI,ioOut,startI,List.insertIdx_zero,List.insertIdx_succ_cons,strsOf,strsOf_map,Option.map_some,List.map_cons,List.map_nil,List.length_cons,List.length_nil,List.cons_append,List.nil_append,List.getElem?_cons_zero,List.getElem?_cons_succ,List.set_cons_zero,List.set_cons_succ,List.replicate_succ,List.replicate_zero,Nat.reduceSub,Nat.reduceAdd,if_true,if_false,ite_true,ite_false,Bool.not_true,Bool.not_false,decide_true,decide_false,eq_int,eq_str,cmp_int,cmp_str,dep_int,dep_str,true_and,and_true,Nat.zero_le,List.take_succ_cons,List.take_zero,reduceIte,Bool.false_eq_true,eq_self,List.length_map,V.int.injEq,V.str.injEq,CDiv,Int.reduceLT,Int.zero_add,and_self,List.cons.injEq,D.scr.injEq,D.int.injEq,D.str.injEq,D.tup.injEq,D.lst.injEq,D.bl.injEq,and_assoc,exists_and_left,exists_eq_left,exists_eq_left',map_str_iff,map_int_iff,snoc_str,snoc_int,drop_str,cat_str,cutL_map,Int.reduceLE,Int.le_refl,take_str,dropn_str,atI_lit,atI_neg1,Option.some.injEq,$xs,*])))
def NS:Str:="abcdefghijklmnopqrstuvwxyz0123456789"
theorem in_NS (c:Nat):(!(Builtin.Str.occurrences NS ⟨#[c]⟩ 0 NS.length 1).isEmpty)=decide (c∈NS.cps.toList):=StrLaws.found_one NS c
theorem slash:("/" : Str)=⟨#[47]⟩:=by decide +kernel
theorem no_slash:(47:Nat)∉NS.cps.toList:=by decide +kernel
def nmL (l:List Nat):Bool:=decide (1≤l.length) && decide (l.length≤12) && l.all fun c=>decide (c∈NS.cps.toList)
def nmB (z:Str):Bool:=nmL z.cps.toList
def wdB (z:Str):Bool:=decide (z∈[(".": Str),".."]) || nmB z
theorem nm_free {z:Str} (h:nmB z=true):(47:Nat)∉z.cps.toList:=fun m=>by
 unfold nmB nmL at h
 rw [Bool.and_eq_true,List.all_eq_true] at h
 exact no_slash (of_decide_eq_true (h.2 47 m))
theorem nm_len {z:Str} (h:nmB z=true):1≤z.length∧z.length≤12:=by
 unfold nmB nmL at h
 rw [Bool.and_eq_true,Bool.and_eq_true] at h
 exact ⟨of_decide_eq_true h.1.1,of_decide_eq_true h.1.2⟩
def rt (z:Str):Bool:=z.cps.toList.head? == some 47
def wsW (z:Str):List Str:=(sp 47 (if rt z=true then z.cps.toList.drop 1 else z.cps.toList)).map mkS
def wordsW (z:Str):Option (Bool × List Str):=if z="/" then some (true,[]) else if (wsW z).length≤40∧(wsW z).all wdB=true then some (rt z,wsW z) else none
theorem nm_wd {z:Str} (h:nmB z=true):wdB z=true:=by unfold wdB; rw [h,Bool.or_true]
def g_is_name:DP:=fun ds Q=>∃ z,ds=[.str z]∧z.length≤5000∧Q (.val (.bl (nmB z)))
theorem len_is_name:∀ ds Q,g_is_name ds Q→ds.length=1:=by rintro ds Q ⟨_,rfl,_⟩; rfl
def g_is_word:DP:=fun ds Q=>∃ z,ds=[.str z]∧z.length≤5000∧Q (.val (.bl (wdB z)))
theorem len_is_word:∀ ds Q,g_is_word ds Q→ds.length=1:=by rintro ds Q ⟨_,rfl,_⟩; rfl
def g_words_of:DP:=fun ds Q=>∃ z,ds=[.str z]∧z.length≤5000∧(∀ r ws,wordsW z=some (r,ws)→Q (.val (.tup [.bl r,strsD ws])))∧(wordsW z=none→Q (.exc "NoWay"))
theorem len_words_of:∀ ds Q,g_words_of ds Q→ds.length=1:=by rintro ds Q ⟨_,rfl,_⟩; rfl
def cellI (ns:List Int) (k:Int):Int:=(ns[k.toNat]?).getD 0
def g_cell_at:DP:=fun ds Q=>∃ ns k,ds=[.scr ns,.int k]∧0≤k∧Q (.val (.int (cellI ns k)))
theorem len_cell_at:∀ ds Q,g_cell_at ds Q→ds.length=2:=by rintro ds Q ⟨_,_,rfl,_⟩; rfl
def g_mixed:DP:=fun ds Q=>∃ c t m,ds=[.int c,.int t,.int m]∧0≤t∧0 < m∧∀ i,0≤i→i < m→(t=0→i=(c % 10 ^ 18+1) * 48271 % 99991 % m)→Q (.val (.int i))
theorem len_mixed:∀ ds Q,g_mixed ds Q→ds.length=3:=by rintro ds Q ⟨_,_,_,rfl,_⟩; rfl
def g_name_by:DP:=fun ds Q=>∃ c v,ds=[.int c,.int v]∧0≤v∧∀ z:Str,nmB z=true→Q (.val (.str z))
theorem len_name_by:∀ ds Q,g_name_by ds Q→ds.length=2:=by rintro ds Q ⟨_,_,rfl,_⟩; rfl
abbrev En (Q:R→Prop):VEnds:={ nx:=fun _=>Q (.val .non),rt:=Q }
abbrev EnX (Q:R→Prop):VEnds:={ nx:=fun _=>Q (.val .non),rt:=Q,xc:=fun _ n=>Q (.exc n) }
def textL (ws:List Str):List Nat:=ws.flatMap fun w=>47 :: w.cps.toList
theorem sp_names:∀ (ws:List Str) (w:List Nat),47∉w→(∀ z∈ws,(47:Nat)∉z.cps.toList)→sp 47 (w++textL ws)=w :: ws.map (·.cps.toList)
 | [],w,hw,_=>by
  show sp 47 (w++[])=_
  rw [List.append_nil,sp_free 47 w hw]
  rfl
 | z :: ws,w,hw,h=>by
  show sp 47 (w++(47 :: z.cps.toList++textL ws))=_
  rw [List.cons_append,sp_cut 47 w _ hw,sp_names ws _ (h z (List.mem_cons_self ..)) fun y hy=>h y (List.mem_cons_of_mem _ hy)]
  rfl
theorem app_list (a b:Str):(a++b).cps.toList=a.cps.toList++b.cps.toList:=by
 show (a.cps++b.cps).toList=_
 rw [Array.toList_append]
theorem slashL:("/" : Str).cps.toList=[47]:=by rw [slash]
theorem join_list:∀ (ws:List Str) (w:Str),(PySem.Str.join "/" (w :: ws)).cps.toList=w.cps.toList++textL ws
 | [],w=>(List.append_nil _).symm
 | y :: ws,w=>by
  have e:PySem.Str.join "/" (w :: y :: ws)=w++("/" : Str)++PySem.Str.join "/" (y :: ws):=rfl
  rw [e,app_list,app_list,join_list ws y,slashL,List.append_assoc]
  rfl
theorem glue_list (w:Str) (ws:List Str):(glue "/" (w :: ws)).cps.toList=w.cps.toList++textL ws:=by
 show (Builtin.Str.glued "/" (w :: ws)).cps.toList=_
 rw [StrLaws.glued_eq_join,join_list]
theorem wd_free {z:Str} (h:wdB z=true):(47:Nat)∉z.cps.toList:=by
 unfold wdB at h
 rw [Bool.or_eq_true] at h
 rcases h with q | q
 ·have:=of_decide_eq_true q
  rw [List.mem_cons,List.mem_singleton] at this
  rcases this with rfl | rfl
  ·decide +kernel
  ·decide +kernel
 ·exact nm_free q
theorem wd_ne {z:Str} (h:wdB z=true):z≠"" := fun e=>by subst e; revert h; decide +kernel
theorem wd_cons {z:Str} (h:wdB z=true):∃ x xs,z.cps.toList=x :: xs∧x≠47:=by
 have hf:=wd_free h
 cases hc:z.cps.toList with
 | nil=>exact absurd (str_ext (by rw [hc]; decide +kernel)) (wd_ne h)
 | cons x xs=>exact ⟨x,xs,rfl,fun e=>by rw [hc,e] at hf; exact hf (List.mem_cons_self ..)⟩
theorem sp_words (w:Str) (ws:List Str) (h:∀ z∈w :: ws,wdB z=true):(sp 47 (w.cps.toList++textL ws)).map mkS=w :: ws:=by
 rw [sp_names ws _ (wd_free (h w (List.mem_cons_self ..))) fun z hz=>wd_free (h z (List.mem_cons_of_mem _ hz)),List.map_cons,mkS_list,List.map_map]
 congr 1
 exact (List.map_congr_left fun z _=>mkS_list z).trans (List.map_id _)
theorem words_rel {ws:List Str} (h0:ws≠[]) (hl:ws.length≤40) (hw:∀ z∈ws,wdB z=true):wordsW (glue "/" ws)=some (false,ws):=by
 cases ws with
 | nil=>exact absurd rfl h0
 | cons w ws =>
  obtain ⟨x,xs,e1,e2⟩:=wd_cons (hw w (List.mem_cons_self ..))
  have hr:rt (glue "/" (w :: ws))=false:=by
   unfold rt
   rw [glue_list,e1,List.cons_append,List.head?_cons]
   simpa using e2
  have hs:wsW (glue "/" (w :: ws))=w :: ws:=by
   unfold wsW
   rw [hr,if_neg (by decide),glue_list]
   exact sp_words w ws hw
  unfold wordsW
  rw [if_neg (fun z=>?_),hr,hs,if_pos ⟨hl,List.all_eq_true.mpr hw⟩]
  have hz:=congrArg (fun y:Str=>y.cps.toList.head?) z
  simp only [glue_list,e1,List.cons_append,List.head?_cons,slashL] at hz
  exact e2 (Option.some.inj hz)
theorem words_root {ws:List Str} (hl:ws.length≤40) (hw:∀ z∈ws,wdB z=true):wordsW (("/" : Str)++glue "/" ws)=some (true,ws):=by
 cases ws with
 | nil =>
  have:("/" : Str)++glue "/" []="/" := by decide +kernel
  rw [this]
  rfl
 | cons w ws =>
  obtain ⟨x,xs,e1,e2⟩:=wd_cons (hw w (List.mem_cons_self ..))
  have el:(("/" : Str)++glue "/" (w :: ws)).cps.toList=47 :: (w.cps.toList++textL ws):=by
   rw [app_list,glue_list,slashL]
   rfl
  have hr:rt (("/" : Str)++glue "/" (w :: ws))=true:=by
   unfold rt
   rw [el]
   rfl
  have hs:wsW (("/" : Str)++glue "/" (w :: ws))=w :: ws:=by
   unfold wsW
   rw [hr,if_pos rfl,el]
   exact sp_words w ws hw
  unfold wordsW
  rw [if_neg (fun z=>?_),hr,hs,if_pos ⟨hl,List.all_eq_true.mpr hw⟩]
  have hz:=congrArg (fun y:Str=>y.cps.toList.length) z
  simp only [el,slashL,e1,List.length_cons,List.cons_append] at hz
  have e3:([]:List Nat).length=0:=rfl
  omega
theorem wd_len {z:Str} (h:wdB z=true):z.length≤12:=by
 unfold wdB at h
 rw [Bool.or_eq_true] at h
 rcases h with q | q
 ·have:=of_decide_eq_true q
  rw [List.mem_cons,List.mem_singleton] at this
  rcases this with rfl | rfl
  ·decide +kernel
  ·decide +kernel
 ·exact (nm_len q).2
theorem sum_wd:∀ {ws:List Str},(∀ z∈ws,wdB z=true)→(ws.map (·.length)).sum≤12 * ws.length
 | [],_=>Nat.le_refl _
 | w :: ws,h=>by
  have:=sum_wd fun z m=>h z (List.mem_cons_of_mem w m)
  have:=wd_len (h w (List.mem_cons_self ..))
  rw [List.map_cons,List.sum_cons,List.length_cons]
  omega
theorem one_slash:("/" : Str).length=1:=by decide +kernel
theorem glue_wd {ws:List Str} (h:∀ z∈ws,wdB z=true):(glue "/" ws).length≤13 * ws.length:=by
 have:=glue_len "/" ws
 have:=sum_wd h
 rw [one_slash] at *
 omega
theorem wd_dot:wdB "." = true:=by decide +kernel
theorem wd_dots:wdB ".." = true:=by decide +kernel
theorem glue_two (x y:Str) (ys:List Str):(glue "/" (x :: y :: ys)).cps.toList=x.cps.toList++47 :: (glue "/" (y :: ys)).cps.toList:=by
 rw [glue_list,glue_list]
 rfl
def upL (k:Nat):List Nat:=(List.replicate k [46,46,47]).flatten
theorem up_glue (w:Str) (ws:List Str):∀ k:Nat,upL k++(glue "/" (w :: ws)).cps.toList=(glue "/" (List.replicate k (".." : Str)++w :: ws)).cps.toList
 | 0=>rfl
 | k+1=>by
  have ih:=up_glue w ws k
  have hd:((".." : Str)).cps.toList=[46,46]:=by decide +kernel
  have hn:∃ y ys,List.replicate k (".." : Str)++w :: ws=y :: ys:=by
   cases k with
   | zero=>exact ⟨_,_,rfl⟩
   | succ k=>exact ⟨_,_,rfl⟩
  obtain ⟨y,ys,e⟩:=hn
  rw [e] at ih
  rw [List.replicate_succ,List.cons_append,e,glue_two,hd,← ih]
  rfl
theorem up_mul:∀ k:Fin 13,(Txt.mul "../" ((k.val:Nat):Int)).cps.toList=upL k.val:=by decide +kernel
theorem up_ok:∀ k:Fin 13,MulOk "../" ((k.val:Nat):Int):=by unfold MulOk; decide +kernel
theorem up_text {k:Nat} (hk:k≤12) {ws:List Str} (h0:ws≠[]):Txt.mul "../" (k:Int)++glue "/" ws=glue "/" (List.replicate k (".." : Str)++ws):=by
 cases ws with
 | nil=>exact absurd rfl h0
 | cons w ws =>
  apply str_ext
  rw [app_list,up_mul ⟨k,by omega⟩,up_glue]
theorem v_ifn {t:TVT} {a u:TVS} {Dv:VEnds} {τ:VSt} (P:Bool→Prop) (ht:∀ Y:Bool→Prop,(∀ c,P c→Y c)→t τ Y) (ha:P true→a { nx:=u Dv,rt:=Dv.rt,bk:=Dv.bk,ct:=Dv.ct,xc:=Dv.xc,ro:=Dv.ro } τ) (hb:P false→u Dv τ):vSeq (vIfS t a vNext) u Dv τ:=v_seq (v_if P ht ha hb)
def stepW (w:List Str) (z:Str):List Str:=if z=Str.ofString "." then w else if z=Str.ofString ".." then w.dropLast else w++[z]
def startW (r:Bool) (w:List Str):List Str:=if r=true then [] else w
inductive WR where
 | ok (tr:List (List Str × Str × List Str)) (w:List Str) (f:Nat)
 | exc (n:Str)
def trD (t:List Str × Str × List Str):D:=.tup [wayD t.1,.str t.2.1,wayD t.2.2]
def wrR:WR→R
 | .ok tr w f=>.val (.tup [.lst (tr.map trD),wayD w,.int f])
 | .exc n=>.exc n
inductive WalkTo (L:List Str→Option (Str × Str)):List Str→List Str→Nat→List (List Str × Str × List Str)→WR→Prop
 | nil {w f tr}:WalkTo L w [] f tr (.ok tr w f)
 | miss {w z zs f tr} (h:L (stepW w z)=none):WalkTo L w (z :: zs) f tr (.exc "Missing")
 | file {w z zs f tr t} (h:L (stepW w z)=some (mFile,t)) (hz:zs≠[]):WalkTo L w (z :: zs) f tr (.exc "NotFolder")
 | many {w z zs tr t} (h:L (stepW w z)=some (mLink,t)):WalkTo L w (z :: zs) 8 tr (.exc "Astray")
 | link {w z zs f tr t r vs res} (h:L (stepW w z)=some (mLink,t)) (hf:f≠8) (hw:wordsW t=some (r,vs)) (go:WalkTo L (startW r w) (vs++zs) (f+1) (tr++[(w,z,startW r w)]) res):WalkTo L w (z :: zs) f tr res
 | plain {w z zs f tr m t res} (h:L (stepW w z)=some (m,t)) (hm:m≠mLink) (hz:m=mFile→zs=[]) (go:WalkTo L (stepW w z) zs f (tr++[(w,z,stepW w z)]) res):WalkTo L w (z :: zs) f tr res
structure FT (rs:List Row):Prop where
 nd:(rs.map (·.1)).Nodup
 ne:∀ r∈rs,r.1≠[]
 nm:∀ r∈rs,Wy14 r.1
 len:rs.length < 200
 lk:∀ r∈rs,r.2.1=mLink→r.2.2.length≤3000∧∃ b vs,wordsW r.2.2=some (b,vs)
def look (rs:List Row) (w:List Str):Option (Str × Str):=if w=[] then some (mFolder,tEmpty) else (rs.find? fun r=>decide (r.1=w)).map (·.2)
def prsR (rs:List Row):List (List Str × D):=([],thD (mFolder,tEmpty)) :: rs.map fun r=>(r.1,thD r.2)
theorem lkP_prs (rs:List Row) (w:List Str):lkP (prsR rs) w=(look rs w).map thD:=by
 unfold lkP prsR look
 by_cases h0:w=[]
 ·subst h0
  rfl
 ·rw [if_neg h0,List.find?_cons_of_neg (by simpa using fun z:[]=w=>h0 z.symm),List.find?_map,Option.map_map,Option.map_map]
  congr 1
def g_above:DP:=fun ds Q=>∃ w,ds=[wayD w]∧Q (.val (wayD w.dropLast))
def g_step:DP:=fun ds Q=>∃ (w:List Str) (z:Str),ds=[wayD w,.str z]∧w.length < 1000∧Q (.val (wayD (stepW w z)))
def g_start_of:DP:=fun ds Q=>∃ (r:Bool) (w:List Str),ds=[.bl r,wayD w]∧Q (.val (wayD (startW r w)))
def g_one_more:DP:=fun ds Q=>∃ f:Nat,ds=[.int f]∧(f=8→Q (.exc "Astray"))∧(f≠8→Q (.val (.int (f+1:Nat))))
def g_things_of:DP:=fun ds Q=>∃ rs:List Row,ds=[rowsL rs]∧FT rs∧Q (.own (dictD (prsR rs)))
def WayG (w:List Str):Prop:=w.length≤100∧("" : Str)∉w
def g_walk:DP:=fun ds Q=>∃ (rs:List Row) (w:List Str) (zs:List Str) (f:Nat),ds=[dictD (prsR rs),wayD w,strsD zs,.int f]∧FT rs∧WayG w∧zs.length≤40∧(∀ z∈zs,wdB z=true)∧f≤8∧∀ res,WalkTo (look rs) w zs f [] res→Q (wrR res)
theorem len_above:∀ ds Q,g_above ds Q→ds.length=1:=by rintro ds Q ⟨_,rfl,_⟩; rfl
theorem len_step:∀ ds Q,g_step ds Q→ds.length=2:=by rintro ds Q ⟨_,_,rfl,_⟩; rfl
theorem len_start_of:∀ ds Q,g_start_of ds Q→ds.length=2:=by rintro ds Q ⟨_,_,rfl,_⟩; rfl
theorem len_one_more:∀ ds Q,g_one_more ds Q→ds.length=1:=by rintro ds Q ⟨_,rfl,_⟩; rfl
theorem len_things_of:∀ ds Q,g_things_of ds Q→ds.length=1:=by rintro ds Q ⟨_,rfl,_⟩; rfl
theorem len_walk:∀ ds Q,g_walk ds Q→ds.length=4:=by rintro ds Q ⟨_,_,_,_,rfl,_⟩; rfl
theorem words_ok {t:Str} {r:Bool} {vs:List Str} (h:wordsW t=some (r,vs)):vs.length≤40∧∀ z∈vs,wdB z=true:=by
 unfold wordsW at h
 by_cases e:t="/"
 ·rw [if_pos e] at h
  cases h
  exact ⟨by decide,fun z m=>by cases m⟩
 ·rw [if_neg e] at h
  by_cases e2:(wsW t).length≤40∧(wsW t).all wdB=true
  ·rw [if_pos e2] at h
   cases h
   exact ⟨e2.1,fun z m=>List.all_eq_true.mp e2.2 z m⟩
  ·rw [if_neg e2] at h
   cases h
theorem step_ne {w:List Str} {z:Str} (hw:("" : Str)∉w) (hz:wdB z=true):("" : Str)∉stepW w z:=by
 unfold stepW
 split
 ·exact hw
 ·split
  ·exact fun m=>hw (List.dropLast_subset w m)
  ·intro m
   rcases List.mem_append.mp m with m | m
   ·exact hw m
   ·exact wd_ne hz (List.mem_singleton.mp m).symm
theorem step_len (w:List Str) (z:Str):(stepW w z).length≤w.length+1:=by
 unfold stepW
 split
 ·omega
 ·split
  ·rw [List.length_dropLast]; omega
  ·rw [List.length_append,List.length_singleton]; exact Nat.le_refl _
theorem start_ne (r:Bool) {w:List Str} (hw:("" : Str)∉w):("" : Str)∉startW r w:=by
 unfold startW
 split
 ·exact List.not_mem_nil
 ·exact hw
theorem start_len (r:Bool) (w:List Str):(startW r w).length≤w.length:=by
 unfold startW
 split
 ·exact Nat.zero_le _
 ·exact Nat.le_refl _
theorem eqSN (ss:List Str):eqD (.lst (ss.map D.str)) (.lst [])=decide (ss=[]):=bool_iff (by
 rw [eqD_iff,decide_eq_true_iff]
 cases ss with
 | nil=>exact ⟨fun _=>rfl,fun _=>rfl⟩
 | cons s ss=>exact ⟨fun h=>absurd (D.lst.inj h) (List.cons_ne_nil _ _),fun h=>absurd h (List.cons_ne_nil _ _)⟩)
theorem depSN (ss:List Str):depD (.lst (ss.map D.str))≤50:=by
 unfold depD
 rw [dep_strs]
 decide
def TextTo (rs:List Row) (w:List Str) (t:Str) (res:WR):Prop:=(wordsW t=none∧res=.exc "NoWay")∨∃ r zs,wordsW t=some (r,zs)∧WalkTo (look rs) (startW r w) zs 0 [] res
def wayR:WR→R
 | .ok _ w _=>.val (wayD w)
 | .exc n=>.exc n
def g_walked:DP:=fun ds Q=>∃ (rs:List Row) (w:List Str) (t:Str),ds=[rowsL rs,wayD w,.str t]∧FT rs∧WayG w∧t.length≤5000∧∀ res,TextTo rs w t res→Q (wrR res)
def g_find_way:DP:=fun ds Q=>∃ (rs:List Row) (w:List Str) (t:Str),ds=[rowsL rs,wayD w,.str t]∧FT rs∧WayG w∧t.length≤5000∧∀ res,TextTo rs w t res→Q (wayR res)
inductive PlaceTo (rs:List Row) (w:List Str) (t:Str) (f:Nat):WR→Prop
 | noway (h:wordsW t=none):PlaceTo rs w t f (.exc "NoWay")
 | noplace {r zs} (h:wordsW t=some (r,zs)) (hz:zs=[]∨nmB (zs.getLastD "")=false):PlaceTo rs w t f (.exc "NoPlace")
 | bad {r zs n} (h:wordsW t=some (r,zs)) (hz:zs≠[]) (hn:nmB (zs.getLastD "")=true) (go:WalkTo (look rs) (startW r w) zs.dropLast f [] (.exc n)):PlaceTo rs w t f (.exc n)
 | file {r zs tr v f' m x} (h:wordsW t=some (r,zs)) (hz:zs≠[]) (hn:nmB (zs.getLastD "")=true) (go:WalkTo (look rs) (startW r w) zs.dropLast f [] (.ok tr v f')) (hm:look rs v=some (m,x)) (hf:m≠mFolder):PlaceTo rs w t f (.exc "NotFolder")
 | ok {r zs tr v f' x} (h:wordsW t=some (r,zs)) (hz:zs≠[]) (hn:nmB (zs.getLastD "")=true) (go:WalkTo (look rs) (startW r w) zs.dropLast f [] (.ok tr v f')) (hm:look rs v=some (mFolder,x)):PlaceTo rs w t f (.ok [] (v++[zs.getLastD ""]) f')
theorem len_walked:∀ ds Q,g_walked ds Q→ds.length=3:=by rintro ds Q ⟨_,_,_,rfl,_⟩; rfl
theorem len_find_way:∀ ds Q,g_find_way ds Q→ds.length=3:=by rintro ds Q ⟨_,_,_,rfl,_⟩; rfl
theorem walk_seen {rs:List Row}:∀ {w zs f tr res},WalkTo (look rs) w zs f tr res→(∃ mt,look rs w=some mt)→∀ {tr' w' f'},res=.ok tr' w' f'→∃ mt,look rs w'=some mt:=by
 intro w zs f tr res h
 induction h with
 | nil=>intro hl tr' w' f' e; cases e; exact hl
 | miss=>intro _ _ _ _ e; cases e
 | file=>intro _ _ _ _ e; cases e
 | many=>intro _ _ _ _ e; cases e
 | link h hf hw go ih =>
  intro hl tr' w' f' e
  refine ih ?_ e
  unfold startW
  split
  ·exact ⟨_,rfl⟩
  ·exact hl
 | plain h hm hz go ih=>intro hl tr' w' f' e; exact ih ⟨_,h⟩ e
theorem look_way {rs:List Row} (F:FT rs) {w:List Str} {mt:Str × Str} (h:look rs w=some mt):Wy14 w:=by
 unfold look at h
 by_cases e0:w=[]
 ·subst e0
  exact ⟨by decide,fun z m=>by cases m⟩
 ·rw [if_neg e0] at h
  obtain ⟨r,h1,h2⟩:=Option.map_eq_some_iff.mp h
  have:=of_decide_eq_true (List.find?_some (p:=fun r:Row=>decide (r.1=w)) h1)
  rw [← this]
  exact F.nm r (List.mem_of_find?_eq_some h1)
theorem startG (r:Bool) {w:List Str} (h:WayG w):WayG (startW r w):=⟨Nat.le_trans (start_len r w) h.1,start_ne r h.2⟩
def g_cells:DP:=fun ds Q=>∃ (ns:List Int) (a b m:Int),ds=[.scr ns,.int a,.int b,.int m]∧0≤a∧0≤b∧0≤m∧m≤60∧∀ cs:List Int,cs.length=m.toNat→Q (.own (.lst (cs.map D.int)))
theorem len_cells:∀ ds Q,g_cells ds Q→ds.length=4:=by rintro ds Q ⟨_,_,_,_,rfl,_⟩; rfl
def WyH (w:List Str):Prop:=w.length≤12∧∀ z∈w,nmB z=true
def mkH (r:Row):Prop:=r.2=(mFolder,tEmpty)∨r.2.1=mFile∨(r.2.1=mLink∧r.2.2.length≤3000∧∃ b vs,wordsW r.2.2=some (b,vs))
structure Hall (rs:List Row):Prop where
 nd:(rs.map (·.1)).Nodup
 ne:∀ r∈rs,r.1≠[]
 wy:∀ r∈rs,WyH r.1
 cl:∀ r∈rs,r.1.dropLast=[]∨(r.1.dropLast,mFolder,tEmpty)∈rs
 kd:∀ r∈rs,mkH r
structure HInv (i:Nat) (rs:List Row) (fs:List (List Str)):Prop where
 hall:Hall rs
 len:rs.length≤i
 ne:fs≠[]
 fol:∀ f∈fs,f=[]∨(f,mFolder,tEmpty)∈rs
 fln:fs.length≤i+1
theorem WyH.ne {w:List Str} (h:WyH w):("" : Str)∉w:=fun m=>by
 have:=(nm_len (h.2 _ m)).1
 have e:("" : Str).length=0:=by decide +kernel
 omega
theorem HInv.folW {i:Nat} {rs:List Row} {fs:List (List Str)} (I:HInv i rs fs) {f:List Str} (h:f∈fs):WyH f:=by
 rcases I.fol f h with rfl | q
 ·exact ⟨by decide,fun z m=>by cases m⟩
 ·exact I.hall.wy _ q
theorem HInv.stay {i:Nat} {rs:List Row} {fs:List (List Str)} (I:HInv i rs fs):HInv (i+1) rs fs:=⟨I.hall,by have:=I.len; omega,I.ne,I.fol,by have:=I.fln; omega⟩
theorem HInv.put {i:Nat} {rs:List Row} {fs:List (List Str)} (I:HInv i rs fs) {f:List Str} (mf:f∈fs) {z m t:Str} (hz:nmB z=true) (hl:(f++[z]).length≤12) (nw:f++[z]∉rs.map (·.1)) (hm:mkH (f++[z],m,t)) :
  HInv (i+1) (rs++[(f++[z],m,t)]) fs∧((m,t)=(mFolder,tEmpty)→HInv (i+1) (rs++[(f++[z],m,t)]) (fs++[f++[z]])):=by
 have hf:=I.folW mf
 have A:Hall (rs++[(f++[z],m,t)]):={
  nd:=by
   rw [List.map_append,List.nodup_append]
   refine ⟨I.hall.nd,by simp,fun a ha b hb e=>?_⟩
   rw [List.map_singleton,List.mem_singleton] at hb
   subst e hb
   exact nw ha
  ne:=fun r mr=>by
   rcases List.mem_append.mp mr with q | q
   ·exact I.hall.ne r q
   ·rw [List.mem_singleton.mp q]
    simp
  wy:=fun r mr=>by
   rcases List.mem_append.mp mr with q | q
   ·exact I.hall.wy r q
   ·rw [List.mem_singleton.mp q]
    refine ⟨hl,fun y my=>?_⟩
    rcases List.mem_append.mp my with q | q
    ·exact hf.2 y q
    ·rw [List.mem_singleton.mp q]
     exact hz
  cl:=fun r mr=>by
   rcases List.mem_append.mp mr with q | q
   ·exact (I.hall.cl r q).imp id (List.mem_append_left _)
   ·rw [List.mem_singleton.mp q]
    show (f++[z]).dropLast=[]∨_
    rw [List.dropLast_concat]
    exact (I.fol f mf).imp id (List.mem_append_left _)
  kd:=fun r mr=>by
   rcases List.mem_append.mp mr with q | q
   ·exact I.hall.kd r q
   ·rw [List.mem_singleton.mp q]
    exact hm }
 have hlen:=I.len
 have hfln:=I.fln
 refine ⟨⟨A,by rw [List.length_append,List.length_singleton]; omega,I.ne,fun g mg=>(I.fol g mg).imp id (List.mem_append_left _),by omega⟩,fun e=>⟨A,by rw [List.length_append,List.length_singleton]; omega,by simp,fun g mg=>?_,by rw [List.length_append,List.length_singleton]; omega⟩⟩
 rcases List.mem_append.mp mg with q | q
 ·exact (I.fol g q).imp id (List.mem_append_left _)
 ·rw [List.mem_singleton.mp q]
  cases e
  exact .inr (List.mem_append_right _ (List.mem_singleton.mpr rfl))
def g_link_by:DP:=fun ds Q=>∃ (ws:List (List Str)) (over:List Str) (c:Int) (z:Str),ds=[.lst (ws.map wayD),wayD over,.int c,.str z]∧(∀ w∈ws,w≠[]∧WyH w)∧WyH over∧nmB z=true∧∀ t:Str,t.length≤3000→(∃ b vs,wordsW t=some (b,vs))→Q (.val (.str t))
def g_hall_by:DP:=fun ds Q=>∃ (cs:List Int) (st:Int),ds=[.lst (cs.map D.int),.int st]∧cs.length≤60∧∀ rs,Hall rs→rs.length≤cs.length→Q (.own (dictD (rs.map prR)))
def g_tree_of:DP:=fun ds Q=>∃ rs:List Row,ds=[dictD (rs.map prR)]∧Hall rs∧rs.length < 64∧∀ ts:List Row,ts.Perm rs→RSorted ts→Q (.own (rowsL ts))
theorem len_link_by:∀ ds Q,g_link_by ds Q→ds.length=4:=by rintro ds Q ⟨_,_,_,_,rfl,_⟩; rfl
theorem len_hall_by:∀ ds Q,g_hall_by ds Q→ds.length=2:=by rintro ds Q ⟨_,_,rfl,_⟩; rfl
theorem len_tree_of:∀ ds Q,g_tree_of ds Q→ds.length=1:=by rintro ds Q ⟨_,rfl,_⟩; rfl
theorem look_in {rs:List Row} (nd:(rs.map (·.1)).Nodup) {r:Row} (hr:r∈rs) (h0:r.1≠[]):look rs r.1=some r.2:=by
 unfold look
 rw [if_neg h0,find_one nd hr]
 rfl
theorem look_out {rs:List Row} {w:List Str} (h0:w≠[]) (h:w∉rs.map (·.1)):look rs w=none:=by
 unfold look
 rw [if_neg h0,Option.map_eq_none_iff,List.find?_eq_none]
 intro r mr e
 exact h (List.mem_map.mpr ⟨r,mr,of_decide_eq_true e⟩)
theorem look_perm {rs ts:List Row} (nd:(rs.map (·.1)).Nodup) (hp:ts.Perm rs) (w:List Str):look ts w=look rs w:=by
 by_cases h0:w=[]
 ·subst h0
  rfl
 ·by_cases h:w∈rs.map (·.1)
  ·obtain ⟨r,mr,rfl⟩:=List.mem_map.mp h
   rw [look_in nd mr h0,look_in ((hp.map _).nodup_iff.mpr nd) (hp.mem_iff.mpr mr) h0]
  ·rw [look_out h0 h,look_out h0 fun q=>h ((hp.map _).mem_iff.mp q)]
theorem WyH.wy {w:List Str} (h:WyH w):Wy14 w:=⟨by have:=h.1; omega,fun z m=>nm_len (h.2 z m)⟩
theorem hall_ft {rs ts:List Row} (H:Hall rs) (hl:rs.length < 64) (hp:ts.Perm rs):FT ts where
 nd:=(hp.map _).nodup_iff.mpr H.nd
 ne:=fun r mr=>H.ne r (hp.mem_iff.mp mr)
 nm:=fun r mr=>(H.wy r (hp.mem_iff.mp mr)).wy
 len:=by rw [hp.length_eq]; omega
 lk:=fun r mr e=>by
  rcases H.kd r (hp.mem_iff.mp mr) with q | q | q
  ·rw [q] at e
   exact absurd e (by decide +kernel)
  ·exact absurd (q.symm.trans e) (by decide +kernel)
  ·exact q.2
theorem hall_up {rs:List Row} (H:Hall rs) {r:Row} (hr:r∈rs):∀ (n k:Nat),r.1.length=k+n→0 < n→look rs (r.1.take k)=some (mFolder,tEmpty)
 | 0,_,_,h=>absurd h (Nat.lt_irrefl 0)
 | n+1,k,hk,_=>by
  have key:∀ q∈rs,q.1=r.1.take (k+1)→look rs (r.1.take k)=some (mFolder,tEmpty):=fun q mq eq=>by
   have e:q.1.dropLast=r.1.take k:=by
    rw [eq,List.dropLast_eq_take,List.length_take,List.take_take]
    congr 1
    omega
   rcases H.cl q mq with c | c
   ·rw [e] at c
    rw [c]
    rfl
   ·have h0:(q.1.dropLast,mFolder,tEmpty).1≠[]:=H.ne _ c
    have:=look_in H.nd c h0
    rw [e] at this
    exact this
  by_cases hn:n=0
  ·subst hn
   exact key r hr (by rw [List.take_of_length_le (by omega)])
  ·have ih:=hall_up H hr n (k+1) (by omega) (by omega)
   unfold look at ih
   rw [if_neg (fun e=>by
    have:=congrArg List.length e
    rw [List.length_take] at this
    have e0:([]:List Str).length=0:=rfl
    omega)] at ih
   obtain ⟨q,h1,h2⟩:=Option.map_eq_some_iff.mp ih
   exact key q (List.mem_of_find?_eq_some h1) (of_decide_eq_true (List.find?_some (p:=fun q:Row=>decide (q.1=r.1.take (k+1))) h1))
theorem step_name {z:Str} (h:nmB z=true) (w:List Str):stepW w z=w++[z]:=by
 unfold stepW
 rw [if_neg (fun e=>by subst e; revert h; decide +kernel),if_neg (fun e=>by subst e; revert h; decide +kernel)]
theorem walk_down {L:List Str→Option (Str × Str)}:∀ (v w:List Str) (f:Nat) (tr:List (List Str × Str × List Str)) (res:WR),(∀ z∈v,nmB z=true)→(∀ k,0 < k→k < v.length→∃ t,L (w++v.take k)=some (mFolder,t))→(v≠[]→∃ m t,L (w++v)=some (m,t)∧m≠mLink)→WalkTo L w v f tr res→∃ tr',res=.ok tr' (w++v) f
 | [],w,f,tr,res,_,_,_,h=>by
  cases h
  exact ⟨tr,by rw [List.append_nil]⟩
 | z :: v,w,f,tr,res,hn,hf,hl,h=>by
  have es:=step_name (hn z (List.mem_cons_self ..)) w
  have hn':∀ y∈v,nmB y=true:=fun y my=>hn y (List.mem_cons_of_mem _ my)
  have look1:∃ m t,L (w++[z])=some (m,t)∧m≠mLink∧(m=mFile→v=[]):=by
   by_cases hv:v=[]
   ·subst hv
    obtain ⟨m,t,h1,h2⟩:=hl (by simp)
    exact ⟨m,t,h1,h2,fun _=>rfl⟩
   ·obtain ⟨t,h1⟩:=hf 1 (by decide) (by have:=List.length_pos_iff.mpr hv; rw [List.length_cons]; omega)
    exact ⟨mFolder,t,h1,by decide +kernel,fun e=>absurd e (by decide +kernel)⟩
  obtain ⟨m,t,h1,h2,h3⟩:=look1
  cases h with
  | miss q=>rw [es,h1] at q; cases q
  | file q hz=>rw [es,h1] at q; cases q; exact absurd (h3 rfl) hz
  | many q=>rw [es,h1] at q; cases q; exact absurd rfl h2
  | link q _ _ _=>rw [es,h1] at q; cases q; exact absurd rfl h2
  | plain q _ _ go =>
   rw [es] at go
   obtain ⟨tr',e⟩:=walk_down v (w++[z]) f _ res hn' (fun k k0 k1=>by
    have:=hf (k+1) (by omega) (by rw [List.length_cons]; omega)
    rw [List.take_succ_cons] at this
    rw [List.append_assoc]
    exact this) (fun hv=>by
    obtain ⟨m,t,h1,h2⟩:=hl (by simp)
    exact ⟨m,t,by rw [List.append_assoc]; exact h1,h2⟩) go
   exact ⟨tr',by rw [e,List.append_assoc]; rfl⟩
theorem take_more {α:Type} (l:List α) (k j:Nat):l.take k++(l.drop k).take j=l.take (k+j):=(List.take_add ..).symm
theorem hall_text {rs ts:List Row} (H:Hall rs) (hp:ts.Perm rs) {r:Row} (hr:r∈rs) (hm:r.2.1≠mLink) {k:Nat} (hk:k < r.1.length) {res:WR} {f:Nat} {tr:List (List Str × Str × List Str)} (h:WalkTo (look ts) (r.1.take k) (r.1.drop k) f tr res):∃ tr',res=.ok tr' r.1 f:=by
 have W:=H.wy r hr
 have:=walk_down (r.1.drop k) (r.1.take k) f tr res (fun z mz=>W.2 z (List.mem_of_mem_drop mz)) (fun j j0 j1=>?_) (fun _=>⟨r.2.1,r.2.2,?_,hm⟩) h
 ·rw [List.take_append_drop] at this
  exact this
 ·rw [List.length_drop] at j1
  rw [look_perm H.nd hp,take_more]
  exact ⟨_,hall_up H hr (r.1.length - (k+j)) (k+j) (by omega) (by omega)⟩
 ·rw [List.take_append_drop,look_perm H.nd hp,look_in H.nd hr (H.ne r hr)]
theorem hall_above {rs ts:List Row} (H:Hall rs) (hp:ts.Perm rs) {r:Row} (hr:r∈rs) {k:Nat} (hk:k < r.1.length):look ts (r.1.take k)=some (mFolder,tEmpty):=by
 rw [look_perm H.nd hp]
 exact hall_up H hr (r.1.length - k) k (by omega) (by omega)
theorem text_one {ts:List Row} {w:List Str} {t:Str} {b:Bool} {zs:List Str} (ht:wordsW t=some (b,zs)) {res:WR} (h:TextTo ts w t res):WalkTo (look ts) (startW b w) zs 0 [] res:=by
 rcases h with ⟨q,_⟩ | ⟨r,vs,q,go⟩
 ·rw [ht] at q; cases q
 ·rw [ht] at q; cases q; exact go
def textW (r:Bool) (zs:List Str):Str:=if r=true then ("/" : Str)++glue "/" zs else glue "/" zs
def g_aim_by:DP:=fun ds Q=>∃ (rs:List Row) (c:Int) (cs:List Int) (st:Int),ds=[dictD (rs.map prR),.lst ((c :: cs).map D.int),.int st]∧Hall rs∧rs.length < 64∧cs.length≤4∧∀ w r zs,look rs w=some (mFolder,tEmpty)→Wy14 w→zs.length≤24→(∀ z∈zs,wdB z=true)→Q (.val (.tup [wayD w,.bl r,strsD zs]))
def g_text_of:DP:=fun ds Q=>∃ (r:Bool) (zs:List Str),ds=[.bl r,strsD zs]∧zs.length≤40∧(∀ z∈zs,wdB z=true)∧Q (.val (.str (textW r zs)))
theorem len_aim_by:∀ ds Q,g_aim_by ds Q→ds.length=3:=by rintro ds Q ⟨_,_,_,_,rfl,_⟩; rfl
theorem len_text_of:∀ ds Q,g_text_of ds Q→ds.length=2:=by rintro ds Q ⟨_,_,rfl,_⟩; rfl
theorem fileLink:¬ mFile=mLink:=by decide +kernel
theorem walk_one {L:List Str→Option (Str × Str)}:∀ {w zs f tr a},WalkTo L w zs f tr a→∀ {b},WalkTo L w zs f tr b→a=b:=by
 intro w zs f tr a h
 induction h with
 | nil=>intro b k; cases k; rfl
 | miss h =>
  intro b k
  cases k with
  | miss=>rfl
  | file q=>rw [h] at q; cases q
  | many q=>rw [h] at q; cases q
  | link q=>rw [h] at q; cases q
  | plain q=>rw [h] at q; cases q
 | file h hz =>
  intro b k
  cases k with
  | miss q=>rw [h] at q; cases q
  | file q=>rfl
  | many q=>rw [h] at q; exact absurd (congrArg Prod.fst (Option.some.inj q)) fileLink
  | link q=>rw [h] at q; exact absurd (congrArg Prod.fst (Option.some.inj q)) fileLink
  | plain q hm hz'=>rw [h] at q; cases q; exact absurd (hz' rfl) hz
 | many h =>
  intro b k
  cases k with
  | miss q=>rw [h] at q; cases q
  | file q=>rw [h] at q; exact absurd (congrArg Prod.fst (Option.some.inj q)).symm fileLink
  | many q=>rfl
  | link q hf=>exact absurd rfl hf
  | plain q hm=>rw [h] at q; cases q; exact absurd rfl hm
 | link h hf hw go ih =>
  intro b k
  cases k with
  | miss q=>rw [h] at q; cases q
  | file q=>rw [h] at q; exact absurd (congrArg Prod.fst (Option.some.inj q)).symm fileLink
  | many q=>exact absurd rfl hf
  | link q hf' hw' go' =>
   rw [h] at q
   cases q
   rw [hw] at hw'
   cases hw'
   exact ih go'
  | plain q hm=>rw [h] at q; cases q; exact absurd rfl hm
 | plain h hm hz go ih =>
  intro b k
  cases k with
  | miss q=>rw [h] at q; cases q
  | file q hz'=>rw [h] at q; cases q; exact absurd (hz rfl) hz'
  | many q=>rw [h] at q; cases q; exact absurd rfl hm
  | link q=>rw [h] at q; cases q; exact absurd rfl hm
  | plain q hm' hz' go'=>exact ih go'
def xc3 (n:Str):Prop:=n∈[("Missing" : Str),"NotFolder","Astray"]
def xc5 (n:Str):Prop:=n∈[("NoWay" : Str),"NoPlace","Missing","NotFolder","Astray"]
theorem walk_end {L:List Str→Option (Str × Str)}:∀ {w zs f tr a},WalkTo L w zs f tr a→f≤8→(∀ n,a=.exc n→xc3 n)∧∀ tr' v f',a=.ok tr' v f'→f≤f'∧f'≤8:=by
 intro w zs f tr a h
 induction h with
 | nil=>intro hf; exact ⟨fun n e=>(by cases e),fun _ _ _ e=>by cases e; exact ⟨Nat.le_refl _,hf⟩⟩
 | miss=>intro hf; exact ⟨fun n e=>by cases e; simp [xc3],fun _ _ _ e=>by cases e⟩
 | file=>intro hf; exact ⟨fun n e=>by cases e; simp [xc3],fun _ _ _ e=>by cases e⟩
 | many=>intro hf; exact ⟨fun n e=>by cases e; simp [xc3],fun _ _ _ e=>by cases e⟩
 | link h h8 hw go ih =>
  intro hf
  obtain ⟨i1,i2⟩:=ih (by omega)
  exact ⟨i1,fun tr' v f' e=>by have:=i2 tr' v f' e; omega⟩
 | plain h hm hz go ih=>exact ih
theorem place_end {rs:List Row} {w:List Str} {t:Str} {f:Nat} {a:WR} (h:PlaceTo rs w t f a) (hf:f≤8):(∀ n,a=.exc n→xc5 n)∧∀ tr v f',a=.ok tr v f'→f≤f'∧f'≤8:=by
 cases h with
 | noway h=>exact ⟨fun n e=>by cases e; simp [xc5],fun _ _ _ e=>by cases e⟩
 | noplace h hz=>exact ⟨fun n e=>by cases e; simp [xc5],fun _ _ _ e=>by cases e⟩
 | bad h hz hn go =>
  refine ⟨fun n e=>?_,fun _ _ _ e=>by cases e⟩
  have:=(walk_end go hf).1 n e
  simp only [xc3,List.mem_cons,List.not_mem_nil,or_false] at this
  simp only [xc5,List.mem_cons,List.not_mem_nil,or_false]
  rcases this with q | q | q <;> simp [q]
 | file h hz hn go hm hf'=>exact ⟨fun n e=>by cases e; simp [xc5],fun _ _ _ e=>by cases e⟩
 | ok h hz hn go hm=>exact ⟨fun n e=>(by cases e),fun tr v f' e=>by cases e; exact (walk_end go hf).2 _ _ _ rfl⟩
theorem lkP_look {rs:List Row} {w:List Str} (h0:w≠[]):lkP (rs.map prR) w=(look rs w).map thD:=by
 rw [lkP_pr]
 unfold look
 rw [if_neg h0,Option.map_map]
 rfl
theorem look_mem {rs:List Row} {w:List Str} {mt:Str × Str} (h0:w≠[]) (h:look rs w=some mt):(w,mt)∈rs:=by
 unfold look at h
 rw [if_neg h0] at h
 obtain ⟨r,h1,h2⟩:=Option.map_eq_some_iff.mp h
 have e:=of_decide_eq_true (List.find?_some (p:=fun r:Row=>decide (r.1=w)) h1)
 have:r=(w,mt):=by rw [← e,← h2]
 rw [← this]
 exact List.mem_of_find?_eq_some h1
theorem look_up {rs:List Row} (H:Hall rs) {w:List Str} {mt:Str × Str} (h:look rs w=some mt):look rs w.dropLast=some (mFolder,tEmpty):=by
 by_cases h0:w=[]
 ·subst h0
  rfl
 ·have m:=look_mem h0 h
  have hl:0 < w.length:=List.length_pos_iff.mpr h0
  rw [List.dropLast_eq_take]
  exact hall_up H m 1 (w.length - 1) (by show w.length=_; omega) (by decide)
theorem dotdot:¬ Str.ofString ".." = Str.ofString "." := by decide +kernel
theorem step_dot (w:List Str):stepW w (Str.ofString ".")=w:=by unfold stepW; rw [if_pos rfl]
theorem step_dots (w:List Str):stepW w (Str.ofString "..")=w.dropLast:=by unfold stepW; rw [if_neg dotdot,if_pos rfl]
theorem place_ok {ts:List Row} {w:List Str} {t:Str} {f f':Nat} {tr:List (List Str × Str × List Str)} {v:List Str} (h:PlaceTo ts w t f (.ok tr v f')):∃ u z x,v=u++[z]∧nmB z=true∧look ts u=some (mFolder,x):=by
 cases h with
 | ok h hz hn go hm=>exact ⟨_,_,_,rfl,hn,hm⟩
theorem words_text {r:Bool} {zs:List Str} (h:zs≠[]∨r=true) (hl:zs.length≤40) (hw:∀ z∈zs,wdB z=true):wordsW (textW r zs)=some (r,zs):=by
 unfold textW
 cases r with
 | true=>rw [if_pos rfl]; exact words_root hl hw
 | false =>
  rw [if_neg (by decide)]
  exact words_rel (h.elim id fun e=>by cases e) hl hw
theorem walk_nolink {L:List Str→Option (Str × Str)}:∀ {w zs f tr a},WalkTo L w zs f tr a→(∀ x,L w≠some (mLink,x))→(∀ x,L []≠some (mLink,x))→∀ {tr' v f'},a=.ok tr' v f'→∀ x,L v≠some (mLink,x):=by
 intro w zs f tr a h
 induction h with
 | nil=>intro hl _ tr' v f' e; cases e; exact hl
 | miss=>intro _ _ _ _ _ e; cases e
 | file=>intro _ _ _ _ _ e; cases e
 | many=>intro _ _ _ _ _ e; cases e
 | link h hf hw go ih =>
  intro hl h0 tr' v f' e
  refine ih ?_ h0 e
  unfold startW
  split
  ·exact h0
  ·exact hl
 | plain h hm hz go ih =>
  intro hl h0 tr' v f' e
  refine ih (fun x q=>?_) h0 e
  rw [h] at q
  cases q
  exact hm rfl
inductive GoalS (ts:List Row):List Str→Nat→WR→Prop
 | ok {v f} (no:∀ x,look ts v≠some (mLink,x)):GoalS ts v f (.ok [] v f)
 | many {v x} (h:look ts v=some (mLink,x)):GoalS ts v 8 (.exc "Astray")
 | bad {v f x n} (h:look ts v=some (mLink,x)) (n8:f≠8) (p:PlaceTo ts v.dropLast x (f+1) (.exc n)):GoalS ts v f (.exc n)
 | link {v f x tr v2 f2 res} (h:look ts v=some (mLink,x)) (n8:f≠8) (p:PlaceTo ts v.dropLast x (f+1) (.ok tr v2 f2)) (go:GoalS ts v2 f2 res):GoalS ts v f res
theorem walk_shift {L:List Str→Option (Str × Str)}:∀ {w zs k tr a},WalkTo L w zs k tr a→∀ (d:Nat) (tr':List (List Str × Str × List Str)),k+d≤8→(∀ n,a=.exc n→WalkTo L w zs (k+d) tr' (.exc n)∨WalkTo L w zs (k+d) tr' (.exc "Astray"))∧∀ t v k2,a=.ok t v k2→(k2+d≤8→∃ t',WalkTo L w zs (k+d) tr' (.ok t' v (k2+d)))∧(8 < k2+d→WalkTo L w zs (k+d) tr' (.exc "Astray")):=by
 intro w zs k tr a h
 induction h with
 | nil=>intro d tr' hd; exact ⟨fun n e=>(by cases e),fun t v k2 e=>by cases e; exact ⟨fun _=>⟨_,.nil⟩,fun q=>absurd q (by omega)⟩⟩
 | miss h=>intro d tr' hd; exact ⟨fun n e=>(by cases e; exact .inl (.miss h)),fun _ _ _ e=>by cases e⟩
 | file h hz=>intro d tr' hd; exact ⟨fun n e=>(by cases e; exact .inl (.file h hz)),fun _ _ _ e=>by cases e⟩
 | many h =>
  intro d tr' hd
  have:d=0:=by omega
  subst this
  exact ⟨fun n e=>(by cases e; exact .inl (.many h)),fun _ _ _ e=>by cases e⟩
 | @link w z zs f tr t r vs res h hf hw go ih =>
  intro d tr' hd
  by_cases h8:f+d=8
  ·have st:WalkTo L w (z :: zs) (f+d) tr' (.exc "Astray"):=by rw [h8]; exact .many h
   refine ⟨fun n _=>.inr st,fun t v k2 e=>⟨fun q=>?_,fun _=>st⟩⟩
   have:=(walk_end go (by omega)).2 t v k2 e
   omega
  ·have e1:f+1+d=f+d+1:=by omega
   obtain ⟨i1,i2⟩:=ih d (tr'++[(w,z,startW r w)]) (by omega)
   rw [e1] at i1 i2
   refine ⟨fun n e=>(i1 n e).imp (fun q=>.link h h8 hw q) fun q=>.link h h8 hw q,fun t v k2 e=>⟨fun q=>?_,fun q=>.link h h8 hw ((i2 t v k2 e).2 q)⟩⟩
   obtain ⟨t',q'⟩:=(i2 t v k2 e).1 q
   exact ⟨t',.link h h8 hw q'⟩
 | @plain w z zs f tr m t res h hm hz go ih =>
  intro d tr' hd
  obtain ⟨i1,i2⟩:=ih d (tr'++[(w,z,stepW w z)]) hd
  refine ⟨fun n e=>(i1 n e).imp (fun q=>.plain h hm hz q) fun q=>.plain h hm hz q,fun t v k2 e=>⟨fun q=>?_,fun q=>.plain h hm hz ((i2 t v k2 e).2 q)⟩⟩
  obtain ⟨t',q'⟩:=(i2 t v k2 e).1 q
  exact ⟨t',.plain h hm hz q'⟩
def isLk (t:List Str × Str × List Str):Bool:=decide (¬ t.2.1=Str.ofString ".") && decide (¬ t.2.1=Str.ofString "..") && decide (¬ t.2.2=t.1++[t.2.1])
def lnkN (tr:List (List Str × Str × List Str)):Nat:=(tr.filter isLk).length
theorem lnkN_snoc (tr:List (List Str × Str × List Str)) (t:List Str × Str × List Str):lnkN (tr++[t])=lnkN tr+if isLk t=true then 1 else 0:=by
 unfold lnkN
 rw [List.filter_append,List.length_append]
 by_cases h:isLk t=true
 ·rw [if_pos h,List.filter_cons_of_pos h]
  rfl
 ·rw [if_neg h,List.filter_cons_of_neg h]
  rfl
theorem not_more (w:List Str) (z:Str) (r:Bool):¬ startW r w=w++[z]:=fun e=>by
 have:=congrArg List.length e
 rw [List.length_append,List.length_singleton] at this
 have:=start_len r w
 omega
theorem walk_links {rs:List Row} (H:Hall rs) (hlen:rs.length < 64):∀ {w zs k tr a},WalkTo (look rs) w zs k tr a→(∃ mt,look rs w=some mt∧mt.1≠mLink)→(∀ t∈tr,t.1.length≤14)→∀ t v k2,a=.ok t v k2→lnkN t+k=lnkN tr+k2∧∀ q∈t,q.1.length≤14:=by
 have F:=hall_ft H hlen (List.Perm.refl rs)
 intro w zs k tr a h
 induction h with
 | nil=>intro _ ht t v k2 e; cases e; exact ⟨rfl,ht⟩
 | miss=>intro _ _ _ _ _ e; cases e
 | file=>intro _ _ _ _ _ e; cases e
 | many=>intro _ _ _ _ _ e; cases e
 | @link w z zs f tr t0 r vs res h hf hw go ih =>
  intro hl ht t v k2 e
  obtain ⟨mt,hm,hn⟩:=hl
  have W:=(look_way F hm).1
  have fl:¬ mFolder=mLink:=by decide +kernel
  have d1:¬ z=Str.ofString "." := fun q=>by
   subst q
   rw [step_dot,hm] at h
   cases h
   exact hn rfl
  have d2:¬ z=Str.ofString ".." := fun q=>by
   subst q
   rw [step_dots,look_up H hm] at h
   exact fl (congrArg Prod.fst (Option.some.inj h))
  have lk:isLk (w,z,startW r w)=true:=by
   unfold isLk
   rw [decide_eq_true d1,decide_eq_true d2,decide_eq_true (not_more w z r)]
   rfl
  have hs:∃ mt,look rs (startW r w)=some mt∧mt.1≠mLink:=by
   unfold startW
   split
   ·exact ⟨_,rfl,fl⟩
   ·exact ⟨mt,hm,hn⟩
  obtain ⟨i1,i2⟩:=ih hs (fun q mq=>(List.mem_append.mp mq).elim (ht q) fun y=>by rw [List.mem_singleton.mp y]; exact W) t v k2 e
  rw [lnkN_snoc,if_pos lk] at i1
  exact ⟨by omega,i2⟩
 | @plain w z zs f tr m t0 res h hm' hz go ih =>
  intro hl ht t v k2 e
  obtain ⟨mt,hm,hn⟩:=hl
  have W:=(look_way F hm).1
  have lk:¬ isLk (w,z,stepW w z)=true:=fun q=>by
   unfold isLk at q
   rw [Bool.and_eq_true,Bool.and_eq_true] at q
   have q1:=of_decide_eq_true q.1.1
   have q2:=of_decide_eq_true q.1.2
   have q3:=of_decide_eq_true q.2
   unfold stepW at q3
   rw [if_neg q1,if_neg q2] at q3
   exact q3 rfl
  obtain ⟨i1,i2⟩:=ih ⟨_,h,hm'⟩ (fun q mq=>(List.mem_append.mp mq).elim (ht q) fun y=>by rw [List.mem_singleton.mp y]; exact W) t v k2 e
  rw [lnkN_snoc,if_neg lk] at i1
  exact ⟨by omega,i2⟩
def trR:WR→R
 | .ok tr _ _=>.val (.lst (tr.map trD))
 | .exc n=>.exc n
def g_trail_of:DP:=fun ds Q=>∃ (ts:List Row) (w:List Str) (t:Str),ds=[rowsL ts,wayD w,.str t]∧FT ts∧WayG w∧t.length≤5000∧∀ res,TextTo ts w t res→Q (trR res)
def g_links:DP:=fun ds Q=>∃ tr:List (List Str × Str × List Str),ds=[.lst (tr.map trD)]∧(∀ t∈tr,t.1.length≤14)∧Q (.val (.int (lnkN tr)))
theorem len_trail_of:∀ ds Q,g_trail_of ds Q→ds.length=3:=by rintro ds Q ⟨_,_,_,rfl,_⟩; rfl
theorem len_links:∀ ds Q,g_links ds Q→ds.length=1:=by rintro ds Q ⟨_,rfl,_⟩; rfl
section
variable {L:List Str→Option (Str × Str)}
theorem walk_count:∀ {w zs k tr a},WalkTo L w zs k tr a→∀ t v k2,a=.ok t v k2→k≤k2:=by
 intro w zs k tr a h
 induction h with
 | nil=>intro _ _ _ e; cases e; exact Nat.le_refl _
 | miss=>intro _ _ _ e; cases e
 | file=>intro _ _ _ e; cases e
 | many=>intro _ _ _ e; cases e
 | link h hf hw go ih=>intro t v k2 e; have:=ih t v k2 e; omega
 | plain h hm hz go ih=>intro t v k2 e; exact ih t v k2 e
theorem walk_steps:∀ {w zs k tr a},WalkTo L w zs k tr a→k≤8→∀ t v k2,a=.ok t v k2→t.length≤tr.length+zs.length+41 * (8 - k):=by
 intro w zs k tr a h
 induction h with
 | nil=>intro _ _ _ _ e; cases e; omega
 | miss=>intro _ _ _ _ e; cases e
 | file=>intro _ _ _ _ e; cases e
 | many=>intro _ _ _ _ e; cases e
 | link h hf hw go ih =>
  intro hk t v k2 e
  have:=ih (by omega) t v k2 e
  have:=(words_ok hw).1
  simp only [List.length_append,List.length_cons,List.length_nil] at *
  omega
 | plain h hm hz go ih =>
  intro hk t v k2 e
  have:=ih hk t v k2 e
  simp only [List.length_append,List.length_cons,List.length_nil] at *
  omega
theorem walk_exc (more:List Str):∀ {w zs f tr a},WalkTo L w zs f tr a→∀ n,a=.exc n→WalkTo L w (zs++more) f tr (.exc n):=by
 intro w zs f tr a h
 induction h with
 | nil=>intro n e; cases e
 | miss h=>intro n e; cases e; exact .miss h
 | file h hz=>intro n e; cases e; exact .file h (fun q=>hz (List.append_eq_nil_iff.mp q).1)
 | many h=>intro n e; cases e; exact .many h
 | link h hf hw go ih=>intro n e; exact .link h hf hw (by have:=ih n e; rw [List.append_assoc] at this; exact this)
 | @plain w z zs f tr m t res h hm hz go ih =>
  intro n e
  by_cases q:m=mFile
  ·have:=hz q
   subst this
   cases go
   cases e
  ·exact .plain h hm (fun e=>absurd e q) (ih n e)
theorem walk_on {more:List Str} {b:WR}:∀ {w zs f tr a},WalkTo L w zs f tr a→∀ tr1 v k1,a=.ok tr1 v k1→(∀ t,L v≠some (mFile,t))→WalkTo L v more k1 tr1 b→WalkTo L w (zs++more) f tr b:=by
 intro w zs f tr a h
 induction h with
 | nil=>intro tr1 v k1 e _ g; cases e; exact g
 | miss=>intro _ _ _ e; cases e
 | file=>intro _ _ _ e; cases e
 | many=>intro _ _ _ e; cases e
 | link h hf hw go ih=>intro tr1 v k1 e hv g; exact .link h hf hw (by have:=ih tr1 v k1 e hv g; rw [List.append_assoc] at this; exact this)
 | @plain w z zs f tr m t res h hm hz go ih =>
  intro tr1 v k1 e hv g
  by_cases q:m=mFile
  ·have:=hz q
   subst this
   cases go
   cases e
   rw [q] at h
   exact absurd h (hv _)
  ·exact .plain h hm (fun e=>absurd e q) (ih tr1 v k1 e hv g)
theorem walk_file {more:List Str} (h0:more≠[]):∀ {w zs f tr a},WalkTo L w zs f tr a→∀ tr1 v k1,a=.ok tr1 v k1→(∀ t,L w≠some (mFile,t))→(∀ t,L []≠some (mFile,t))→(∃ t,L v=some (mFile,t))→WalkTo L w (zs++more) f tr (.exc "NotFolder"):=by
 intro w zs f tr a h
 induction h with
 | nil=>intro tr1 v k1 e hw _ hv; cases e; obtain ⟨t,q⟩:=hv; exact absurd q (hw t)
 | miss=>intro _ _ _ e; cases e
 | file=>intro _ _ _ e; cases e
 | many=>intro _ _ _ e; cases e
 | @link w z zs f tr t r vs res h hf hw go ih =>
  intro tr1 v k1 e hw' h0' hv
  refine .link h hf hw ?_
  have:=ih tr1 v k1 e (by unfold startW; split; exact h0'; exact hw') h0' hv
  rw [List.append_assoc] at this
  exact this
 | @plain w z zs f tr m t res h hm hz go ih =>
  intro tr1 v k1 e hw' h0' hv
  by_cases q:m=mFile
  ·have:=hz q
   subst this
   rw [q] at h
   exact .file h h0
  ·exact .plain h hm (fun e=>absurd e q) (ih tr1 v k1 e (fun t' e'=>by rw [h] at e'; cases e'; exact q rfl) h0' hv)
theorem walk_trail:∀ {w zs k tr a},WalkTo L w zs k tr a→∀ (d:Nat) (hd:List (List Str × Str × List Str)) t v k2,a=.ok t v k2→k2+d≤8→WalkTo L w zs (k+d) (hd++tr) (.ok (hd++t) v (k2+d)):=by
 intro w zs k tr a h
 induction h with
 | nil=>intro d hd t v k2 e _; cases e; exact .nil
 | miss=>intro _ _ _ _ _ e; cases e
 | file=>intro _ _ _ _ _ e; cases e
 | many=>intro _ _ _ _ _ e; cases e
 | @link w z zs f tr t0 r vs res h hf hw go ih =>
  intro d hd t v k2 e l
  have kb:f+1≤k2:=(walk_count go _ _ _ e)
  have:=ih d hd t v k2 e l
  rw [← List.append_assoc,show f+1+d=f+d+1 by omega] at this
  exact .link h (by omega) hw this
 | @plain w z zs f tr m t0 res h hm hz go ih =>
  intro d hd t v k2 e l
  have:=ih d hd t v k2 e l
  rw [← List.append_assoc] at this
  exact .plain h hm hz this
end
theorem Hall.add {rs:List Row} (H:Hall rs) {f:List Str} (mf:f=[]∨(f,mFolder,tEmpty)∈rs) {z m t:Str} (hz:nmB z=true) (hl:(f++[z]).length≤12) (nw:f++[z]∉rs.map (·.1)) (hm:mkH (f++[z],m,t)):Hall (rs++[(f++[z],m,t)]) :=
 ((⟨H,Nat.le_refl _,by simp,fun g mg=>by rw [List.mem_singleton.mp mg]; exact mf,by simp⟩:HInv rs.length rs [f]).put List.mem_cons_self hz hl nw hm).1.hall
theorem Hall.perm {rs ts:List Row} (H:Hall rs) (p:ts.Perm rs):Hall ts where
 nd:=(p.map _).nodup_iff.mpr H.nd
 ne:=fun r m=>H.ne r (p.mem_iff.mp m)
 wy:=fun r m=>H.wy r (p.mem_iff.mp m)
 cl:=fun r m=>(H.cl r (p.mem_iff.mp m)).imp id fun q=>p.mem_iff.mpr q
 kd:=fun r m=>H.kd r (p.mem_iff.mp m)
theorem look_row {ts:List Row} {v:List Str} {b:Str × Str} (h:look ts v=some b) (v0:v≠[]):(v,b)∈ts:=look_mem v0 h
theorem repL_one (d:D):∀ n,repL [d] n=List.replicate n d
 | 0=>rfl
 | n+1=>by
  have:=repL_one d n
  unfold repL at this ⊢
  rw [List.replicate_succ,List.flatten_cons,this,List.replicate_succ]
  rfl
theorem repL_strs (ws:List Str):∀ n,repL (ws.map D.str) n=((List.replicate n ws).flatten).map D.str
 | 0=>rfl
 | n+1=>by
  have:=repL_strs ws n
  unfold repL at this ⊢
  rw [List.replicate_succ,List.flatten_cons,this,List.replicate_succ,List.flatten_cons,List.map_append]
theorem rep_in {ws:List Str} {n:Nat} {z:Str} (h:z∈(List.replicate n ws).flatten):z∈ws:=by
 obtain ⟨l,ml,mz⟩:=List.mem_flatten.mp h
 rw [(List.mem_replicate.mp ml).2] at mz
 exact mz
theorem rep_len (ws:List Str):∀ n,((List.replicate n ws).flatten).length=n * ws.length
 | 0=>by simp
 | n+1=>by rw [List.replicate_succ,List.flatten_cons,List.length_append,rep_len ws n,Nat.succ_mul]; omega
theorem cmpT (a b:List Str × Str × List Str):cmpD (trD a) (trD b)=true:=by
 show cmpD (.tup [.tup (a.1.map D.str),.str a.2.1,.tup (a.2.2.map D.str)]) (.tup [.tup (b.1.map D.str),.str b.2.1,.tup (b.2.2.map D.str)])=true
 have h1:=cmpW a.1 b.1
 have h2:=cmpW a.2.2 b.2.2
 unfold cmpD at h1 h2 ⊢
 simp only [cmpDs,cmpD,h1,h2,cmp_str,Bool.and_self,Bool.true_and]
theorem cmpTs:∀ xs ys:List (List Str × Str × List Str),cmpDs (xs.map trD) (ys.map trD)=true
 | [],_=>by rw [List.map_nil]; unfold cmpDs; rfl
 | _ :: _,[]=>by rw [List.map_nil,List.map_cons]; unfold cmpDs; rfl
 | a :: xs,b :: ys=>by rw [List.map_cons,List.map_cons]; unfold cmpDs; rw [cmpT,cmpTs xs ys]; rfl
theorem cmpTL (xs ys:List (List Str × Str × List Str)):cmpD (.lst (xs.map trD)) (.lst (ys.map trD))=true:=by
 unfold cmpD
 exact cmpTs xs ys
theorem depT (a:List Str × Str × List Str):depD (trD a)≤20:=by
 show depD (.tup [.tup (a.1.map D.str),.str a.2.1,.tup (a.2.2.map D.str)])≤20
 unfold depD
 simp only [depDs,depD,dep_strs]
 decide
theorem depTs:∀ xs:List (List Str × Str × List Str),depDs (xs.map trD)≤20
 | []=>by rw [List.map_nil]; unfold depDs; omega
 | a :: xs=>by
  rw [List.map_cons]
  unfold depDs
  have:=depT a
  have:=depTs xs
  omega
theorem depTL (xs:List (List Str × Str × List Str)):depD (.lst (xs.map trD))≤50:=by
 unfold depD
 have:=depTs xs
 omega
theorem lendJ_at {i j:Nat} {c:Addr} {ks:List (List Str)} {ds:List D} {te:TV} {u:TVS} {Dv:VEnds} {τ:VSt} (e:τ[i]?=some (some (.own (.ioT c ks ds)))) (h:te (τ.set i (some (.peek (.dT ks ds)))) fun r=>pubR r fun d=>NoDt d∧u Dv (τ.set j (some (.val d)))):vLendJ i j te u Dv τ:=by
 unfold vLendJ
 rw [e]
 exact h
def wkD:WR→D
 | .ok tr v _=>.tup [.str "",wayD v,.lst (tr.map trD)]
 | .exc n=>.tup [.str n,.tup [],.lst []]
def g_l_walked:DP:=fun ds Q=>∃ (ts:List Row) (w:List Str) (t:Str),ds=[rowsL ts,wayD w,.str t]∧FT ts∧WayG w∧t.length≤5000∧(∃ b zs,wordsW t=some (b,zs))∧∀ res,TextTo ts w t res→Q (.val (wkD res))
def g_real:DP:=fun ds Q=>∃ (rs ts:List Row) (v:List Str),ds=[dictD (rs.map prR),rowsL ts,wayD v]∧Hall rs∧rs.length < 64∧ts.Perm rs∧(∃ mt,look rs v=some mt∧mt.1≠mLink)∧Q (.val (.bl true))
def g_behind:DPJ:=fun ds ks ps Q=>∃ (rs:List Row) (over:List Str) (c:Int) (cs:List Int) (st:Int),ds=[wayD over,.lst ((c :: cs).map D.int),.int st]∧ks=(rs.map prR).map (·.1)∧ps=(rs.map prR).map (·.2)∧Hall rs∧rs.length≤200∧cs.length≤3∧∀ ws:List Str,ws≠[]→ws.length≤15→(∀ z∈ws,wdB z=true)→Q (.val (strsD ws)) ks ps∧Q (.own (strsD ws)) ks ps
def g_spun:DPJ:=fun ds ks ps Q=>∃ (rs:List Row) (turn st:Int),ds=[.int turn,.int st]∧ks=(rs.map prR).map (·.1)∧ps=(rs.map prR).map (·.2)∧Hall rs∧rs.length≤200∧0≤turn∧turn≤4∧∀ (rs':List Row) (w:List Str),Hall rs'→rs'.length≤rs.length+1→w.length≤1→(∀ z∈w,nmB z=true)→Q (.val (wayD w)) ((rs'.map prR).map (·.1)) ((rs'.map prR).map (·.2))
def g_dug:DPJ:=fun ds ks ps Q=>∃ (rs:List Row) (over:List Str) (deep st:Int),ds=[wayD over,.int deep,.int st]∧ks=(rs.map prR).map (·.1)∧ps=(rs.map prR).map (·.2)∧Hall rs∧(over=[]∨(over,mFolder,tEmpty)∈rs)∧over.length≤12∧0≤deep∧deep≤12∧rs.length≤200∧∀ (rs':List Row) (o:List Str),Hall rs'→rs'.length≤rs.length+(deep - over.length).toNat→(o=[]∨(o,mFolder,tEmpty)∈rs')→(∀ r∈rs,r∈rs')→Q (.val (wayD o)) ((rs'.map prR).map (·.1)) ((rs'.map prR).map (·.2))
inductive MeetP:WR→WR→WR→Prop
 | far {tr v k tr2 v2 k2} (h1:lnkN tr=k) (h2:lnkN tr2=k2) (h:8 < k+k2):MeetP (.ok tr v k) (.ok tr2 v2 k2) (.exc "Astray")
 | near {tr v k tr2 v2 k2 k3} (h1:lnkN tr=k) (h2:lnkN tr2=k2) (h:k+k2≤8):MeetP (.ok tr v k) (.ok tr2 v2 k2) (.ok (tr++tr2) v2 k3)
 | same {tr v k n} (h1:lnkN tr=k) (h:n≠("" : Str)):MeetP (.ok tr v k) (.exc n) (.exc n)
 | lost {tr v k n} (h1:lnkN tr=k) (h0:k≠0) (h:n≠("" : Str)):MeetP (.ok tr v k) (.exc n) (.exc "Astray")
def Trl:WR→Prop
 | .ok tr v _=>(∀ t∈tr,t.1.length≤14)∧tr.length≤400∧v.length≤1000
 | .exc _=>True
def g_meet:DP:=fun ds Q=>∃ a b c,ds=[wkD a,wkD b,wkD c]∧MeetP a b c∧Trl a∧Trl b∧Q (.val (.bl true))
def g_law:DP:=fun ds Q=>∃ ns,ds=[.scr ns]∧Q (.val (.bl true))
theorem len_l_walked:∀ ds Q,g_l_walked ds Q→ds.length=3:=by rintro ds Q ⟨_,_,_,rfl,_⟩; rfl
theorem len_real:∀ ds Q,g_real ds Q→ds.length=3:=by rintro ds Q ⟨_,_,_,rfl,_⟩; rfl
theorem len_behind:∀ ds ks ps Q,g_behind ds ks ps Q→ds.length+1=4:=by rintro ds ks ps Q ⟨_,_,_,_,_,rfl,_⟩; rfl
theorem len_spun:∀ ds ks ps Q,g_spun ds ks ps Q→ds.length+1=3:=by rintro ds ks ps Q ⟨_,_,_,rfl,_⟩; rfl
theorem len_dug:∀ ds ks ps Q,g_dug ds ks ps Q→ds.length+1=4:=by rintro ds ks ps Q ⟨_,_,_,_,rfl,_⟩; rfl
theorem len_meet:∀ ds Q,g_meet ds Q→ds.length=3:=by rintro ds Q ⟨_,_,_,rfl,_⟩; rfl
theorem len_law:∀ ds Q,g_law ds Q→ds.length=1:=by rintro ds Q ⟨_,rfl,_⟩; rfl
theorem text_same {ts:List Row} {w:List Str} {t:Str} {a b:WR} (h:TextTo ts w t a) (k:TextTo ts w t b):a=b:=by
 rcases h with ⟨e,rfl⟩ | ⟨r,zs,e,go⟩
 ·rcases k with ⟨_,rfl⟩ | ⟨r,zs,e2,_⟩
  ·rfl
  ·rw [e] at e2; cases e2
 ·rcases k with ⟨e2,_⟩ | ⟨r2,zs2,e2,go2⟩
  ·rw [e] at e2; cases e2
  ·rw [e] at e2
   cases e2
   exact walk_one go go2
theorem walk_any {L:List Str→Option (Str × Str)}:∀ {w zs f tr a},WalkTo L w zs f tr a→∀ n,a=.exc n→∀ tr',WalkTo L w zs f tr' (.exc n):=by
 intro w zs f tr a h
 induction h with
 | nil=>intro n e; cases e
 | miss h=>intro n e _; cases e; exact .miss h
 | file h hz=>intro n e _; cases e; exact .file h hz
 | many h=>intro n e _; cases e; exact .many h
 | link h hf hw go ih=>intro n e _; exact .link h hf hw (ih n e _)
 | plain h hm hz go ih=>intro n e _; exact .plain h hm hz (ih n e _)
theorem core_meet {rs:List Row} (H:Hall rs) (len:rs.length < 64) {w zs more:List Str} (hw:look rs w=some (mFolder,tEmpty)) {tr:List (List Str × Str × List Str)} {v:List Str} {k:Nat} (h:WalkTo (look rs) w zs 0 [] (.ok tr v k)) (hv:∀ t,look rs v≠some (mFile,t)) {b c:WR} (hb:WalkTo (look rs) v more 0 [] b) (hc:WalkTo (look rs) w (zs++more) 0 [] c):MeetP (.ok tr v k) b c:=by
 have fl:¬ mFolder=mLink:=by decide +kernel
 have n0:lnkN ([]:List (List Str × Str × List Str))=0:=rfl
 have k8:=((walk_end h (by decide)).2 _ _ _ rfl).2
 have h1:=(walk_links H len h ⟨_,hw,fl⟩ (by simp) _ _ _ rfl).1
 have sv:∃ mt,look rs v=some mt∧mt.1≠mLink:=by
  obtain ⟨mt,q⟩:=walk_seen h ⟨_,hw⟩ rfl
  refine ⟨mt,q,fun e=>?_⟩
  have:=walk_nolink h (fun x e=>by rw [hw] at e; exact fl (congrArg Prod.fst (Option.some.inj e))) (fun x e=>fl (congrArg Prod.fst (Option.some.inj (show some (mFolder,tEmpty)=_ from e)))) rfl mt.2
  exact this (by rw [q,← e])
 have on:∀ {a:WR},WalkTo (look rs) v more k tr a→c=a:=fun g=>walk_one hc (walk_on h _ _ _ rfl hv g)
 cases b with
 | ok t2 v2 k2 =>
  have h2:=(walk_links H len hb sv (by simp) _ _ _ rfl).1
  by_cases q:k+k2≤8
  ·have g:=walk_trail hb k tr _ _ _ rfl (by omega)
   rw [Nat.zero_add,List.append_nil] at g
   rw [on g]
   exact .near (by omega) (by omega) q
  ·have g:=((walk_shift hb k tr (by omega)).2 _ _ _ rfl).2 (by omega)
   rw [Nat.zero_add] at g
   rw [on g]
   exact .far (by omega) (by omega) (by omega)
 | exc n =>
  have x3:=(walk_end hb (by decide)).1 n rfl
  have nn:n≠("" : Str):=fun e=>by subst e; revert x3; unfold xc3; decide
  by_cases q:k=0
  ·subst q
   rw [on (walk_any hb n rfl tr)]
   exact .same (by omega) nn
  ·have g:=(walk_shift hb k tr (by omega)).1 n rfl
   rw [Nat.zero_add] at g
   rcases g with g | g
   ·rw [on g]
    exact .same (by omega) nn
   ·rw [on g]
    exact .lost (by omega) q nn
theorem core_trl {rs:List Row} (H:Hall rs) (len:rs.length < 64) {w zs:List Str} (hz:zs.length≤40) (hw:∃ mt,look rs w=some mt∧mt.1≠mLink) {a:WR} (h:WalkTo (look rs) w zs 0 [] a):Trl a:=by
 cases a with
 | exc n=>exact trivial
 | ok tr v k =>
  have F:=hall_ft H len (List.Perm.refl rs)
  have h1:=(walk_links H len h hw (by simp) _ _ _ rfl).2
  have h2:=walk_steps h (by decide) _ _ _ rfl
  obtain ⟨mt,q,_⟩:=hw
  obtain ⟨mt2,q2⟩:=walk_seen h ⟨mt,q⟩ rfl
  have:=(look_way F q2).1
  have e0:([]:List (List Str × Str × List Str)).length=0:=rfl
  exact ⟨h1,by omega,by omega⟩
def b_cell_at:TVS:=(vSeq (vIfS (vBl (vOp vLt (vVar 1) (vF1 vLen (vVar 0))))
  (vRet (vOp vIxR (vVar 0) (vVar 1)))
  vNext)
 (vRet (vC (.int 0))))
abbrev N_cell_at:List Str:=["_law_script","_law_k"]
theorem w_cell_at:∀ ds Q,g_cell_at ds Q→b_cell_at (En Q) (startD N_cell_at ds):=by
 rintro ds Q ⟨ns,k,rfl,h0,h⟩
 simp! only [b_cell_at]
 split
 ·rename_i c
  obtain ⟨v,hv,hv2⟩:=at_nat (xs:=ns) h0 (of_decide_eq_true c)
  unfold cellI at h
  rw [hv2] at h
  exact ⟨v,hv,h⟩
 ·rename_i c
  have hn:ns[k.toNat]?=none:=List.getElem?_eq_none (by have:=of_decide_eq_false (Bool.eq_false_iff.mpr c); omega)
  unfold cellI at h
  rw [hn] at h
  exact h
def b_mixed:TVS:=(vSeq (vSet 3 (vTup (vCons (vC (.int 48271)) (vCons (vC (.int 69621)) (vCons (vC (.int 16807)) (vCons (vC (.int 39373)) (vCons (vC (.int 21401)) (vCons (vC (.int 60493)) (vCons (vC (.int 87721)) (vCons (vC (.int 31337)) vNil))))))))))
 (vSeq (vSet 4 (vTup (vCons (vC (.int 99991)) (vCons (vC (.int 99989)) (vCons (vC (.int 99971)) (vCons (vC (.int 99961)) (vCons (vC (.int 99929)) (vCons (vC (.int 99923)) (vCons (vC (.int 99907)) (vCons (vC (.int 99901)) vNil))))))))))
 (vRet (vOp vMod (vOp vMod (vOp vMul (vOp vAdd (vOp vMod (vVar 0) (vOp vPow (vC (.int 10)) (vC (.int 18)))) (vC (.int 1))) (vOp vIxR (vVar 3) (vOp vMod (vVar 1) (vC (.int 8))))) (vOp vIxR (vVar 4) (vOp vMod (vVar 1) (vC (.int 8))))) (vVar 2)))))
abbrev N_mixed:List Str:=["_law_cell","_law_turn","_law_many","_law_by","_law_prime"]
def mxA:List Int:=[48271,69621,16807,39373,21401,60493,87721,31337]
def mxB:List Int:=[99991,99989,99971,99961,99929,99923,99907,99901]
theorem w_mixed:∀ ds Q,g_mixed ds Q→b_mixed (En Q) (startD N_mixed ds):=by
 rintro ds Q ⟨c,t,m,rfl,h0,hm,h⟩
 refine v_cut (fun τ=>τ=[some (.val (.int c)),some (.val (.int t)),some (.val (.int m)),some (.val (.tup (mxA.map D.int))),none]) ?_ fun nx hnx=>?now
 case now =>
  dsimp! only [true_and]
  exact ⟨by decide,hnx _ rfl⟩
 rintro τ rfl
 refine v_cut (fun τ=>τ=[some (.val (.int c)),some (.val (.int t)),some (.val (.int m)),some (.val (.tup (mxA.map D.int))),some (.val (.tup (mxB.map D.int)))]) ?_ fun nx hnx=>?now
 case now =>
  dsimp! only [true_and]
  exact ⟨by decide,hnx _ rfl⟩
 rintro τ rfl
 have q0:=Int.emod_nonneg t (show (8:Int)≠0 by decide)
 have q1:=Int.emod_lt_of_pos t (show (0:Int) < 8 by decide)
 obtain ⟨a,ha,ha2⟩:=at_nat (xs:=mxA) (k:=t % 8) q0 q1
 obtain ⟨b,hb,hb2⟩:=at_nat (xs:=mxB) (k:=t % 8) q0 q1
 have ba:∀ x∈mxA,0≤x∧x < 100000:=by decide
 have bb:∀ x∈mxB,0 < x:=by decide
 have a1:=ba a (List.mem_of_getElem? ha2)
 have b1:=bb b (List.mem_of_getElem? hb2)
 have hA:∀ Y:R→Prop,Y (.val (.int (c % 10 ^ Int.toNat 18+1)))→vOp vAdd (vOp vMod (vVar 0) (vOp vPow (vC (.int 10)) (vC (.int 18)))) (vC (.int 1)) [some (.val (.int c)),some (.val (.int t)),some (.val (.int m)),some (.val (.tup (mxA.map D.int))),some (.val (.tup (mxB.map D.int)))] Y:=fun Y y=>by
  dsimp! only [true_and]
  exact ⟨⟨by decide,by decide,by decide⟩,by decide,y⟩
 have hB:∀ Y:R→Prop,Y (.val (.int a))→vOp vIxR (vVar 3) (vOp vMod (vVar 1) (vC (.int 8))) [some (.val (.int c)),some (.val (.int t)),some (.val (.int m)),some (.val (.tup (mxA.map D.int))),some (.val (.tup (mxB.map D.int)))] Y:=fun Y y=>by
  dsimp! only [true_and]
  exact ⟨.int a,by rw [atI_map,ha]; rfl,y⟩
 have hC:∀ Y:R→Prop,Y (.val (.int b))→vOp vIxR (vVar 4) (vOp vMod (vVar 1) (vC (.int 8))) [some (.val (.int c)),some (.val (.int t)),some (.val (.int m)),some (.val (.tup (mxA.map D.int))),some (.val (.tup (mxB.map D.int)))] Y:=fun Y y=>by
  dsimp! only [true_and]
  exact ⟨.int b,by rw [atI_map,hb]; rfl,y⟩
 exact hA _ (hB _ ⟨.inr ⟨by omega,by omega⟩,hC _ ⟨b1,hm,h _ (Int.emod_nonneg _ (by omega)) (Int.emod_lt_of_pos _ hm) fun e=>by
  subst e
  have e1:a=48271:=by simpa [mxA] using ha2.symm
  have e2:b=99991:=by simpa [mxB] using hb2.symm
  rw [e1,e2,show Int.toNat 18=18 from rfl]⟩⟩)
def b_name_by:TVS:=(vSeq (vSet 2 (vC (.str ("abcdefghijklmnopqrstuvwxyz0123456789" : Str))))
 (vSeq (vSet 3 (vOp vAdd (vC (.int 1)) (vOp vMod (vVar 0) (vC (.int 12)))))
 (vSeq (vSet 4 (vOp vMod (vOp vDiv (vVar 0) (vC (.int 12))) (vVar 3)))
 (vSeq (vSet 5 (vC (.str ("" : Str))))
 (vSeq (vFor (vRng1 (vVar 3)) (vgName 6)
  (vSeq (vSet 7 (vOp vAdd (vOp vDiv (vVar 0) (vC (.int 5184))) (vOp vMul (vVar 6) (vOp vMod (vOp vDiv (vVar 0) (vC (.int 144))) (vC (.int 36))))))
 (vSeq (vIfS (vBl (vOp vEq (vVar 6) (vVar 4)))
  (vSet 7 (vOp vAdd (vVar 7) (vVar 1)))
  vNext)
 (vSet 5 (vOp vAdd (vVar 5) (vOp vIxR (vVar 2) (vOp vMod (vVar 7) (vC (.int 36)))))))))
 (vSeq (vIfS (vAndT (vBl (vOp vEq (vOp vMod (vOp vDiv (vVar 0) (vC (.int 3))) (vC (.int 2))) (vC (.int 1)))) (vBl (vOp vEq (vOp vMod (vVar 1) (vC (.int 5))) (vC (.int 4)))))
  (vSet 5 (vSlice (vVar 5) vNoPart (vPart (vOp vAdd (vC (.int 1)) (vOp vMod (vVar 1) (vVar 3))))))
  vNext)
 (vRet (vVar 5))))))))
abbrev N_name_by:List Str:=["_law_stem","_law_v","_law_signs","_law_size","_law_spot","_law_name","_law_k","_law_turn"]
theorem cps_append {z:Str} {d:Nat} (h:∀ y∈z.cps.toList,y∈NS.cps.toList) (hd:d∈NS.cps.toList):∀ y∈(z++⟨#[d]⟩:Str).cps.toList,y∈NS.cps.toList:=fun y hy=>by
 have e:(z++⟨#[d]⟩:Str).cps.toList=z.cps.toList++[d]:=by
  show (z.cps++#[d]).toList=_
  simp
 rw [e] at hy
 rcases List.mem_append.mp hy with q | q
 ·exact h y q
 ·rw [List.mem_singleton.mp q]; exact hd
theorem w_name_by:∀ ds Q,g_name_by ds Q→b_name_by (En Q) (startD N_name_by ds):=by
 rintro ds Q ⟨c,v,rfl,hv,h⟩
 have hm0:0≤c % 12:=Int.emod_nonneg _ (by decide)
 have hm1:c % 12 < 12:=Int.emod_lt_of_pos _ (by decide)
 have eN:(NS.cps.toList.length:Int)=36:=by decide +kernel
 have lN:NS.length≤sizeLine:=by decide +kernel
 refine v_cut (fun τ=>τ=[some (.val (.int c)),some (.val (.int v)),some (.val (.str NS)),none,none,none,none,none]) ?_ fun nx hnx=>?now
 case now =>
  dsimp! only [true_and]
  exact hnx _ rfl
 rintro τ rfl
 refine v_cut (fun τ=>τ=[some (.val (.int c)),some (.val (.int v)),some (.val (.str NS)),some (.val (.int (1+c % 12))),none,none,none,none]) ?_ fun nx hnx=>?now
 case now =>
  dsimp! only [true_and]
  exact hnx _ rfl
 rintro τ rfl
 generalize hn:1+c % 12=n
 have n1:1≤n:=by omega
 have n2:n≤12:=by omega
 refine v_cut (fun τ=>∃ sp:Int,τ=[some (.val (.int c)),some (.val (.int v)),some (.val (.str NS)),some (.val (.int n)),some (.val (.int sp)),none,none,none]) ?_ fun nx hnx=>?now
 case now =>
  dsimp! only [true_and]
  exact ⟨by omega,hnx _ ⟨_,rfl⟩⟩
 rintro τ ⟨sp,rfl⟩
 refine v_cut (fun τ=>τ=[some (.val (.int c)),some (.val (.int v)),some (.val (.str NS)),some (.val (.int n)),some (.val (.int sp)),some (.val (.str "")),none,none]) ?_ fun nx hnx=>?now
 case now =>
  dsimp! only [true_and]
  exact hnx _ rfl
 rintro τ rfl
 refine v_cut (fun τ=>∃ (z:Str) (a b:Option R),1≤z.length∧z.length≤12∧(∀ y∈z.cps.toList,y∈NS.cps.toList)∧τ=[some (.val (.int c)),some (.val (.int v)),some (.val (.str NS)),some (.val (.int n)),some (.val (.int sp)),some (.val (.str z)),a,b]) ?_ fun nx hnx=>?now
 case now =>
  dsimp! only [true_and]
  refine ⟨by omega,by omega,for_rng (fun i τ=>∃ (z:Str) (a b:Option R),z.length=i∧(∀ y∈z.cps.toList,y∈NS.cps.toList)∧τ=[some (.val (.int c)),some (.val (.int v)),some (.val (.str NS)),some (.val (.int n)),some (.val (.int sp)),some (.val (.str z)),a,b]) ⟨"",none,none,by decide +kernel,by decide +kernel,rfl⟩ ?_ ?_⟩
  ·rintro i τ hi ⟨z,a,b,hl,hns,rfl⟩ nx2 hnx2
   refine v_cut (fun τ=>∃ t:Int,τ=[some (.val (.int c)),some (.val (.int v)),some (.val (.str NS)),some (.val (.int n)),some (.val (.int sp)),some (.val (.str z)),some (.val (.int i)),some (.val (.int t))]) ?_ fun nx3 hnx3=>?now
   case now =>
    dsimp! only [true_and]
    have k0:=Int.emod_nonneg (c / 144) (show (36:Int)≠0 by decide)
    have k1:=Int.emod_lt_of_pos (c / 144) (show (0:Int) < 36 by decide)
    exact ⟨.inr ⟨by omega,by omega⟩,hnx3 _ ⟨_,rfl⟩⟩
   rintro τ ⟨t,rfl⟩
   refine v_cut (fun τ=>∃ t:Int,τ=[some (.val (.int c)),some (.val (.int v)),some (.val (.str NS)),some (.val (.int n)),some (.val (.int sp)),some (.val (.str z)),some (.val (.int i)),some (.val (.int t))]) ?_ fun nx3 hnx3=>?now
   case now =>
    dsimp! only [true_and]
    split
    ·exact hnx3 _ ⟨_,rfl⟩
    ·exact hnx3 _ ⟨_,rfl⟩
   clear t
   rintro τ ⟨t,rfl⟩
   dsimp! only [true_and]
   obtain ⟨d,hd,hd2⟩:=at_nat (xs:=NS.cps.toList) (k:=t % 36) (Int.emod_nonneg _ (by decide)) (by rw [eN]; exact Int.emod_lt_of_pos _ (by decide))
   exact ⟨lN,d,hd,Nat.le_trans (show z.length+1≤1000 by omega) line1000,hnx2 _ ⟨_,_,_,by rw [PySem.Str.length_append,hl]; rfl,cps_append hns (List.mem_of_getElem? hd2),rfl⟩⟩
  ·rintro τ ⟨z,a,b,hl,hns,rfl⟩
   exact hnx _ ⟨z,a,b,by omega,by omega,hns,rfl⟩
 rintro τ ⟨z,a,b,z0,z1,zn,rfl⟩
 refine v_cut (fun τ=>∃ (z:Str),1≤z.length∧z.length≤12∧(∀ y∈z.cps.toList,y∈NS.cps.toList)∧τ=[some (.val (.int c)),some (.val (.int v)),some (.val (.str NS)),some (.val (.int n)),some (.val (.int sp)),some (.val (.str z)),a,b]) ?_ fun nx hnx=>?now
 case now =>
  dsimp! only [true_and]
  have sz:z.length≤sizeLine:=Nat.le_trans (by omega) line1000
  have v0:=Int.emod_nonneg v (show n≠0 by omega)
  split
  ·split
   ·refine ⟨by omega,sz,hnx _ ⟨_,?_,?_,?_,rfl⟩⟩
    ·obtain ⟨k,hk⟩:∃ k:Nat,1+v % n=(k:Int):=⟨(1+v % n).toNat,by omega⟩
     rw [hk]
     show 1≤(Txt.slice z none (some (k:Int))).cps.toList.length
     have el:z.cps.toList.length=z.length:=rfl
     rw [slice_list,cutL_take,List.length_take]
     omega
    ·exact Nat.le_trans (Txt.slice_le z _ _) (by omega)
    ·intro y hy
     rw [slice_list] at hy
     exact zn y (cutL_mem hy)
   ·exact hnx _ ⟨z,z0,z1,zn,rfl⟩
  ·exact hnx _ ⟨z,z0,z1,zn,rfl⟩
 clear zn z0 z1 z
 rintro τ ⟨z,z0,z1,zn,rfl⟩
 dsimp! only [true_and]
 refine h z ?_
 unfold nmB nmL
 have el:z.cps.toList.length=z.length:=rfl
 rw [el,decide_eq_true z0,decide_eq_true z1,List.all_eq_true.mpr fun y hy=>decide_eq_true (zn y hy)]
 rfl
def b_is_name:TVS:=(vSeq (vIfS (vNotT (vBl (vIsin .str (vVar 0))))
  (vRet (vC (.bl false)))
  vNext)
 (vSeq (vIfS (vNotT (vBl (vChain vLe vLe (vC (.int 1)) (vF1 vLen (vVar 0)) (vC (.int 12)))))
  (vRet (vC (.bl false)))
  vNext)
 (vRet (vF1 (vAll fun bs=>bs.all id) (vComp (vItems (vVar 0)) (vgName 1) (fun _ Q=>Q true) (vOp (vIn id) (vVar 1) (vC (.str ("abcdefghijklmnopqrstuvwxyz0123456789" : Str)))) 1)))))
abbrev N_is_name:List Str:=["thing"]
theorem w_is_name:∀ ds Q,g_is_name ds Q→b_is_name (En Q) (startD N_is_name ds):=by
 rintro ds Q ⟨z,rfl,hz,h⟩
 have sz:z.length≤sizeLine:=Nat.le_trans hz (by decide)
 unfold nmB nmL at h
 have el:z.cps.toList.length=z.length:=rfl
 rw [el] at h
 simp! only [b_is_name]
 refine ⟨sz,?_⟩
 by_cases h1:1≤z.length
 ·rw [decide_eq_true (by omega:1≤(z.length:Int))]
  refine iteT ?_
  rw [decide_eq_true h1,Bool.true_and] at h
  by_cases h2:z.length≤12
  ·rw [decide_eq_true (by omega:(z.length:Int)≤12)]
   refine iteF ?_
   rw [decide_eq_true h2,Bool.true_and] at h
   refine comp_map (fun c=>.bl (decide (c∈NS.cps.toList))) z.cps.toList (Nat.le_trans (Nat.le_of_eq el) sz) (fun c _ Y N hY=>?_) ?_
   ·simp! only [true_and]
    show Y (.val (.bl (!(Builtin.Str.occurrences NS ⟨#[c]⟩ 0 NS.length 1).isEmpty)))
    rw [in_NS]
    exact hY
   ·simp! only [true_and]
    refine ⟨z.cps.toList.map fun c=>decide (c∈NS.cps.toList),?_,?_⟩
    ·rw [List.map_map]
     rfl
    ·rw [List.all_map]
     exact h
  ·rw [decide_eq_false (by omega:¬ (z.length:Int)≤12)]
   rw [decide_eq_false h2,Bool.false_and] at h
   exact iteT h
 ·rw [decide_eq_false (by omega:¬ 1≤(z.length:Int))]
  rw [decide_eq_false h1,Bool.false_and,Bool.false_and] at h
  exact iteF h
def b_is_word:TVS:=(vRet (vOrE (vOp (vIn id) (vVar 0) (vTup (vCons (vC (.str ("." : Str))) (vCons (vC (.str (".." : Str))) vNil)))) (vCallN g_is_name (vCons (vVar 0) vNil))))
abbrev N_is_word:List Str:=["text"]
theorem w_is_word:∀ ds Q,g_is_word ds Q→b_is_word (En Q) (startD N_is_word ds):=by
 rintro ds Q ⟨z,rfl,hz,h⟩
 unfold wdB at h
 simp! only [b_is_word,g_is_name]
 refine ⟨by decide,?_⟩
 show if decide (z∈[(".": Str),".."])=true then _ else _
 by_cases hm:z∈[(".": Str),".."]
 ·rw [decide_eq_true hm] at h ⊢
  exact iteT h
 ·rw [decide_eq_false hm] at h ⊢
  exact iteF ⟨hz,h⟩
def b_words_of:TVS:=(vSeq (vIfS (vBl (vOp vEq (vVar 0) (vC (.str ("/" : Str)))))
  (vRet (vTup (vCons (vC (.bl true)) (vCons (vLst vNil) vNil))))
  vNext)
 (vSeq (vSet 1 (vStarts (vVar 0) (vC (.str ("/" : Str)))))
 (vSeq (vSet 2 (vSplit (vIfE (vBl (vVar 1)) (vSlice (vVar 0) (vPart (vC (.int 1))) vNoPart) (vVar 0)) (vC (.str ("/" : Str)))))
 (vSeq (vIfS (vOrT (vBl (vOp vGt (vF1 vLen (vVar 2)) (vC (.int 40)))) (vNotT (vBl (vF1 (vAll fun bs=>bs.all id) (vComp (vItems (vVar 2)) (vgName 3) (fun _ Q=>Q true) (vCallN g_is_word (vCons (vVar 3) vNil)) 1)))))
  (vRaise "NoWay" (vCons (vVar 0) vNil))
  vNext)
 (vRet (vTup (vCons (vVar 1) (vCons (vVar 2) vNil))))))))
abbrev N_words_of:List Str:=["text","rooted","words"]
theorem ifT {c:Prop} [Decidable c] {p q:Prop} (h:c) (hp:p):if c then p else q:=by rw [if_pos h]; exact hp
theorem ifF {c:Prop} [Decidable c] {p q:Prop} (h:¬ c) (hq:q):if c then p else q:=by rw [if_neg h]; exact hq
theorem wsW_len (z:Str):(wsW z).length≤z.length+1∧∀ w∈wsW z,w.length≤z.length:=by
 have el:z.cps.toList.length=z.length:=rfl
 have key:∀ l:List Nat,l.length≤z.length→((sp 47 l).map mkS).length≤z.length+1∧∀ w∈(sp 47 l).map mkS,w.length≤z.length:=fun l hl=>by
  have:=sp_len 47 l
  refine ⟨by rw [List.length_map]; omega,fun w hw=>?_⟩
  obtain ⟨p,hp,rfl⟩:=List.mem_map.mp hw
  rw [mkS_len]
  exact Nat.le_trans (sp_piece 47 l p hp) hl
 unfold wsW
 split
 ·exact key _ (by rw [List.length_drop]; omega)
 ·exact key _ (Nat.le_of_eq el)
theorem w_words_of:∀ ds Q,g_words_of ds Q→b_words_of (EnX Q) (startD N_words_of ds):=by
 rintro ds Q ⟨z,rfl,hz,hy,hn⟩
 have sz:z.length≤sizeLine:=Nat.le_trans hz (by decide)
 have el:z.cps.toList.length=z.length:=rfl
 unfold wordsW at hy hn
 obtain ⟨w1,w2⟩:=wsW_len z
 refine v_seq ?_
 dsimp! only [b_words_of]
 by_cases h0:z="/"
 ·rw [decide_eq_true h0]
  exact iteT ⟨by decide,hy true [] (by rw [if_pos h0])⟩
 rw [decide_eq_false h0]
 rw [if_neg h0] at hy hn
 refine iteF ?_
 refine v_seq ?_
 dsimp! only [true_and]
 have hr:Txt.startswith z "/" = rt z:=by rw [slash,starts_one]; rfl
 rw [hr]
 have sl:("/" : Str).length=1:=by decide +kernel
 have rest:vSeq
   (vIfS (vOrT (vBl (vOp vGt (vF1 vLen (vVar 2)) (vC (.int 40)))) (vNotT (vBl (vF1 (vAll fun bs=>bs.all id) (vComp (vItems (vVar 2)) (vgName 3) (fun _ Q=>Q true) (vCallN g_is_word (vCons (vVar 3) vNil)) 1)))))
    (vRaise "NoWay" (vCons (vVar 0) vNil)) vNext)
   (vRet (vTup (vCons (vVar 1) (vCons (vVar 2) vNil)))) (EnX Q) [some (.val (.str z)),some (.val (.bl (rt z))),some (.val (.lst ((wsW z).map D.str)))]:=by
  refine v_seq ?_
  dsimp! only [true_and]
  have one:1≤sizeLine:=by decide
  by_cases hl:(wsW z).length≤40
  ·rw [decide_eq_false (by omega:¬ 40 < ((wsW z).length:Int))]
   refine iteF ?_
   refine comp_map (fun w=>.bl (wdB w)) (wsW z) (Nat.le_trans hl (by decide)) (fun w hw Y N hY=>?_) ?_
   ·simp! only [g_is_word]
    exact ⟨Nat.le_trans (w2 w hw) hz,hY⟩
   ·simp! only [true_and]
    refine ⟨(wsW z).map wdB,by rw [List.map_map]; rfl,?_⟩
    rw [List.all_map]
    show if (!(wsW z).all wdB)=true then _ else _
    by_cases ha:(wsW z).all wdB=true
    ·rw [ha]
     refine iteF ⟨by decide,hy _ _ (by rw [if_pos ⟨hl,ha⟩])⟩
    ·rw [Bool.eq_false_iff.mpr ha]
     exact iteT ⟨one,hn (by rw [if_neg (fun q=>ha q.2)])⟩
  ·rw [decide_eq_true (by omega:40 < ((wsW z).length:Int))]
   exact iteT ⟨one,hn (by rw [if_neg (fun q=>hl q.1)])⟩
 have hws:(wsW z).length≤sizeLine:=Nat.le_trans w1 (Nat.le_trans (by omega) (show 5001≤sizeLine by decide))
 refine v_seq ?_
 dsimp! only [true_and]
 by_cases hrt:rt z=true
 ·have e:Txt.split (Txt.slice z (some 1) none) "/" = wsW z:=by
   rw [slash,split_eq _ (by decide),slice_list]
   unfold wsW
   rw [if_pos hrt,show (some 1:Option Int)=some ((1:Nat):Int) from rfl,cutL_drop]
  refine ifT hrt ⟨sz,by rw [sl]; rfl,Nat.le_trans (Txt.slice_le z _ _) sz,by rw [e]; exact hws,?_⟩
  rw [e]
  exact rest
 ·have e:Txt.split z "/" = wsW z:=by
   rw [slash,split_eq _ (by decide)]
   unfold wsW
   rw [if_neg hrt]
  refine ifF hrt ⟨by rw [sl]; rfl,sz,by rw [e]; exact hws,?_⟩
  rw [e]
  exact rest
def b_above:TVS:=(vRet (vSlice (vVar 0) vNoPart (vPart (vNeg (vC (.int 1))))))
abbrev N_above:List Str:=["way"]
theorem w_above:∀ ds Q,g_above ds Q→b_above (En Q) (startD N_above ds):=by
 rintro ds Q ⟨w,rfl,h⟩
 simp! only [b_above,wayD]
 rw [cutL_last]
 exact h
def b_step:TVS:=(vSeq (vIfS (vBl (vOp vEq (vVar 1) (vC (.str ("." : Str)))))
  (vRet (vVar 0))
  vNext)
 (vSeq (vIfS (vBl (vOp vEq (vVar 1) (vC (.str (".." : Str)))))
  (vRet (vCallN g_above (vCons (vVar 0) vNil)))
  vNext)
 (vRet (vOp vAdd (vVar 0) (vTup (vCons (vVar 1) vNil))))))
abbrev N_step:List Str:=["way","word"]
theorem w_step:∀ ds Q,g_step ds Q→b_step (En Q) (startD N_step ds):=by
 rintro ds Q ⟨w,z,rfl,hl,h⟩
 have ab:∀ Y:R→Prop,Y (.val (wayD w.dropLast))→g_above [wayD w] Y:=fun Y y=>⟨w,rfl,y⟩
 unfold stepW at h
 refine v_ifn (fun b=>b=decide (z=Str.ofString ".")) (fun Y y=>?t1) (fun hb=>?y1) fun hb=>?n1
 case t1 =>
  dsimp! only [true_and]
  exact y _ (by simp)
 case y1 =>
  rw [if_pos (of_decide_eq_true hb.symm)] at h
  dsimp! only [true_and]
  exact h
 case n1 =>
  rw [if_neg (of_decide_eq_false hb.symm)] at h
  refine v_ifn (fun b=>b=decide (z=Str.ofString "..")) (fun Y y=>?t2) (fun hb=>?y2) fun hb=>?n2
  case t2 =>
   dsimp! only [true_and]
   exact y _ (by simp)
  case y2 =>
   rw [if_pos (of_decide_eq_true hb.symm)] at h
   dsimp! only [true_and]
   exact ab _ h
  case n2 =>
   rw [if_neg (of_decide_eq_false hb.symm)] at h
   dsimp! only [wayD]
   exact ⟨by decide,Nat.le_trans hl line1000,h⟩
def b_start_of:TVS:=(vRet (vIfE (vBl (vVar 0)) (vTup vNil) (vVar 1)))
abbrev N_start_of:List Str:=["rooted","at"]
theorem w_start_of:∀ ds Q,g_start_of ds Q→b_start_of (En Q) (startD N_start_of ds):=by
 rintro ds Q ⟨r,w,rfl,h⟩
 unfold startW at h
 dsimp! only [b_start_of]
 cases r
 ·exact h
 ·exact h
def b_one_more:TVS:=(vSeq (vIfS (vBl (vOp vEq (vVar 0) (vC (.int 8))))
  (vRaise "Astray" (vCons (vC (.str ("too many links" : Str))) vNil))
  vNext)
 (vRet (vOp vAdd (vVar 0) (vC (.int 1)))))
abbrev N_one_more:List Str:=["followed"]
theorem w_one_more:∀ ds Q,g_one_more ds Q→b_one_more (EnX Q) (startD N_one_more ds):=by
 rintro ds Q ⟨f,rfl,h1,h2⟩
 simp! only [b_one_more]
 by_cases e:f=8
 ·subst e
  exact ⟨by decide,h1 rfl⟩
 ·have e':¬ (f:Int)=8:=by omega
  rw [if_neg (by simpa using e')]
  exact h2 e
def b_things_of:TVS:=(vSeq (vSetO 1 (vDisp1 (vTup vNil) (vC (.tup [.str ("folder" : Str),.str ("" : Str)]))))
 (vSeq (vFor (vItems (vVar 0)) (vgTup 3 (vgCons (vgName 2) (vgCons (vgName 3) (vgCons (vgName 4) vgNil))))
  (vDPut 1 (vVar 2) (vTup (vCons (vVar 3) (vCons (vVar 4) vNil)))))
 (vRetO 1)))
abbrev N_things_of:List Str:=["tree","things","way","mark","text"]
theorem w_things_of:∀ ds Q,g_things_of ds Q→b_things_of (En Q) (startD N_things_of ds):=by
 rintro ds Q ⟨rs,rfl,F,h⟩
 have ond:=F.nd
 have olen:=F.len
 simp! only [b_things_of,rowsL]
 refine ⟨[],rfl,by simp,?_⟩
 refine for_map (fun i τ=>∃ (a b c:Option R),τ=[some (.val (.lst (rs.map rowD))),some (.own (dictD (prsR (rs.take i)))),a,b,c]) ⟨none,none,none,rfl⟩ ?_ ?_
 ·rintro i r τ hr ⟨a,b,c,rfl⟩ nx hnx
  have mr:=List.mem_of_getElem? hr
  have hi:=(List.getElem?_eq_some_iff.mp hr).1
  have hlen:=olen
  simp! only [rowD,dictD,wayD]
  refine ⟨by decide,(F.nm r mr).ok.ne,?_,?_⟩
  ·unfold prsR
   rw [List.length_cons,List.length_map,List.length_take]
   exact Nat.lt_of_lt_of_le (show _ < 1000 by omega) line1000
  ·rw [putD_pairs]
   refine hnx _ ⟨some (.val (.tup (r.1.map D.str))),some (.val (.str r.2.1)),some (.val (.str r.2.2)),?_⟩
   have ni:¬ r.1∈(prsR (rs.take i)).map (·.1):=fun m=>by
    unfold prsR at m
    rw [List.map_cons,List.mem_cons] at m
    rcases m with m | m
    ·exact F.ne r mr m
    ·rw [List.map_map] at m
     obtain ⟨r',m',e'⟩:=List.mem_map.mp m
     have nd:=ond
     rw [List.nodup_iff_pairwise_ne,List.pairwise_map,List.pairwise_iff_getElem] at nd
     obtain ⟨j,hj,ej⟩:=List.mem_iff_getElem.mp m'
     have hj':j < i:=by rw [List.length_take] at hj; omega
     have er:rs[i]=r:=by
      rw [List.getElem?_eq_getElem hi] at hr
      exact Option.some.inj hr
     have:=nd j i (by omega) hi hj'
     rw [List.getElem_take] at ej
     rw [ej,er] at this
     exact this e'
   have e:insP (prsR (rs.take i)) r.1 (thD r.2)=prsR (rs.take (i+1)):=by
    unfold insP
    rw [if_neg ni,List.take_succ,hr]
    unfold prsR
    rw [List.map_append]
    rfl
   show _=[_,some (R.own (dictD (prsR (rs.take (i+1))))),_,_,_]
   rw [← e]
   rfl
 ·rintro τ ⟨a,b,c,rfl⟩
  simp! only [true_and]
  rw [List.take_length]
  exact h
def b_walk:TVS:=(vSeq (vSetO 4 (vLst vNil))
 (vSeq (vSetO 5 (vF1 vList (vVar 2)))
 (vSeq (vWhile (vBl (vOp vNeD (vVar 5) (vLst vNil)))
  (vSeq (vPop0 6 5)
 (vSeq (vSet 7 (vCallN g_step (vCons (vVar 1) (vCons (vVar 6) vNil))))
 (vSeq (vSet 8 (vDGet1 (vVar 0) (vVar 7)))
 (vSeq (vIfS (vBl (vOp (vIsN id) (vVar 8) (vC .non)))
  (vRaise "Missing" (vCons (vC (.str ("nothing lies there" : Str))) vNil))
  vNext)
 (vSeq (vIfS (vAndT (vBl (vOp vEq (vOp vIxR (vVar 8) (vC (.int 0))) (vC (.str ("file" : Str))))) (vBl (vOp vNeD (vVar 5) (vLst vNil))))
  (vRaise "NotFolder" (vCons (vC (.str ("a file lies ahead of the last word" : Str))) vNil))
  vNext)
 (vSeq (vIfS (vBl (vOp vEq (vOp vIxR (vVar 8) (vC (.int 0))) (vC (.str ("link" : Str)))))
  (vSeq (vSet 3 (vCall g_one_more (vCons (vVar 3) vNil)))
 (vSeq (vSet 9 (vCall g_words_of (vCons (vOp vIxR (vVar 8) (vC (.int 1))) vNil)))
 (vSeq (vSet 7 (vCallN g_start_of (vCons (vOp vIxR (vVar 9) (vC (.int 0))) (vCons (vVar 1) vNil))))
 (vSetO 5 (vOp vAdd (vOp vIxR (vVar 9) (vC (.int 1))) (vVar 5))))))
  vNext)
 (vSeq (vAppend 4 (vTup (vCons (vVar 1) (vCons (vVar 6) (vCons (vVar 7) vNil)))))
 (vSet 1 (vVar 7))))))))))
 (vFrz 4 (vRet (vTup (vCons (vVar 4) (vCons (vVar 1) (vCons (vVar 3) vNil)))))))))
abbrev N_walk:List Str:=["things","at","words","followed","trail","left","word","then","thing","led"]
theorem w_walk:∀ ds Q,g_walk ds Q→b_walk (EnX Q) (startD N_walk ds):=by
 rintro ds Q ⟨rs,w0,zs0,f0,rfl,F,hw0,hz0,hzw0,hf0,h⟩
 refine v_seq ?_
 dsimp! only [b_walk]
 refine v_seq ?_
 dsimp! only [strsD]
 refine v_cut (fun τ=>∃ (w:List Str) (f:Nat) (tr:List (List Str × Str × List Str)) (a b c d:Option R),τ=[some (.val (dictD (prsR rs))),some (.val (wayD w)),some (.val (strsD zs0)),some (.val (.int f)),some (.own (.lst (tr.map trD))),some (.own (.lst [])),a,b,c,d]∧Q (wrR (.ok tr w f))) ?_ ?_
 ·rintro τ ⟨w,f,tr,a,b,c,d,rfl,hq⟩
  dsimp! only [true_and]
  exact ⟨by decide,hq⟩
 ·intro nx hnx
  refine ⟨fun m τ=>∃ (w left:List Str) (f:Nat) (tr:List (List Str × Str × List Str)) (a b c d:Option R),τ=[some (.val (dictD (prsR rs))),some (.val (wayD w)),some (.val (strsD zs0)),some (.val (.int f)),some (.own (.lst (tr.map trD))),some (.own (.lst (left.map D.str))),a,b,c,d]∧f≤8∧m=(8 - f) * 41+left.length∧w.length+m < 900∧tr.length+m < 900∧("" : Str)∉w∧(∀ z∈left,wdB z=true)∧∀ res,WalkTo (look rs) w left f tr res→Q (wrR res),⟨_,w0,zs0,f0,[],none,none,none,none,rfl,hf0,rfl,by have:=hw0.1; omega,by simp only [List.length_nil]; omega,hw0.2,hzw0,h⟩,?_⟩
  rintro m τ ⟨w,left,f,tr,a,b,c,d,rfl,hf,hm,h1,h2,h3,h4,h5⟩
  dsimp! only [true_and]
  refine ⟨cmp_strs left [],depSN left,?_⟩
  simp only [eqSN left]
  cases left with
  | nil =>
   refine iteF (hnx _ ⟨w,f,tr,a,b,c,d,rfl,h5 _ .nil⟩)
  | cons z zs =>
   refine iteT ?_
   have hl:(z :: zs).length=zs.length+1:=rfl
   rw [hl] at hm
   obtain ⟨G,hG⟩:∃ G:VSt→Prop,G=(fun τ':VSt=>∃ m',m' < m∧∃ (w left:List Str) (f:Nat) (tr:List (List Str × Str × List Str)) (a b c d:Option R),τ'=[some (.val (dictD (prsR rs))),some (.val (wayD w)),some (.val (strsD zs0)),some (.val (.int f)),some (.own (.lst (tr.map trD))),some (.own (.lst (left.map D.str))),a,b,c,d]∧f≤8∧m'=(8 - f) * 41+left.length∧w.length+m' < 900∧tr.length+m' < 900∧("" : Str)∉w∧(∀ z∈left,wdB z=true)∧∀ res,WalkTo (look rs) w left f tr res→Q (wrR res)):=⟨_,rfl⟩
   have kn:∀ (w' left':List Str) (f':Nat) (tr':List (List Str × Str × List Str)) (a b c d:Option R),f'≤8→(8 - f') * 41+left'.length < m→w'.length≤w.length+1→tr'.length≤tr.length+1→("" : Str)∉w'→(∀ z∈left',wdB z=true)→(∀ res,WalkTo (look rs) w' left' f' tr' res→Q (wrR res))→G [some (R.val (dictD (prsR rs))),some (R.val (wayD w')),some (R.val (strsD zs0)),some (R.val (D.int f')),some (R.own (D.lst (tr'.map trD))),some (R.own (D.lst (left'.map D.str))),a,b,c,d]:=fun w' left' f' tr' a b c d k1 k2 k3 k4 k5 k6 k7=>by
    rw [hG]
    exact ⟨_,k2,w',left',f',tr',a,b,c,d,rfl,k1,rfl,by omega,by omega,k5,k6,k7⟩
   rw [← hG]
   clear hG hnx
   have hz:wdB z=true:=h4 z List.mem_cons_self
   have hzs:∀ y∈zs,wdB y=true:=fun y my=>h4 y (List.mem_cons_of_mem _ my)
   have ls:∀ Y:R→Prop,Y (.val (wayD (stepW w z)))→g_step [wayD w,.str z] Y:=fun Y y=>⟨w,z,rfl,by omega,y⟩
   refine v_seq ?_
   dsimp! only [List.map_cons]
   refine v_seq ?_
   dsimp! only [true_and]
   refine ls _ ?_
   dsimp! only [true_and]
   refine v_seq ?_
   dsimp! only [dictD]
   refine ⟨stepW w z,rfl,step_ne h3 hz,?_⟩
   rw [lkD_pairs,lkP_prs]
   have one:1≤sizeLine:=by decide
   cases hk:look rs (stepW w z) with
   | none =>
    refine v_seq ?_
    dsimp! only [Option.map_none,Option.getD_none]
    exact ⟨one,h5 _ (.miss hk)⟩
   | some mt =>
    obtain ⟨m',t⟩:=mt
    refine v_ifn (fun b=>b=false) (fun Y y=>?t1) (fun hb=>absurd hb (by decide)) fun _=>?n1
    case t1 =>
     dsimp! only [thD,Option.map_some,Option.getD_some]
     exact y _ rfl
    case n1 =>
    refine v_ifn (fun b=>b=(decide (m'=mFile) && decide (zs≠[]))) (fun Y y=>?t2) (fun hb=>?y2) fun hb=>?n2
    case t2 =>
     dsimp! only [thD,Option.map_some,Option.getD_some]
     by_cases hm':m'=mFile
     ·rw [if_pos (decide_eq_true hm')]
      refine ⟨cmp_strs zs [],depSN zs,?_⟩
      rw [eqSN zs]
      refine y _ ?_
      rw [decide_eq_true hm',Bool.true_and,decide_not]
     ·rw [if_neg (by rw [decide_eq_false hm']; decide)]
      refine y _ ?_
      rw [decide_eq_false hm',Bool.false_and]
    case y2 =>
     rw [Eq.comm,Bool.and_eq_true] at hb
     have e1:=of_decide_eq_true hb.1
     subst e1
     dsimp! only [true_and]
     exact ⟨one,h5 _ (.file hk (of_decide_eq_true hb.2))⟩
    case n2 =>
    refine v_cut (fun τ=>∃ (w' left':List Str) (f':Nat) (c d:Option R),τ=[some (R.val (dictD (prsR rs))),some (R.val (wayD w)),some (R.val (strsD zs0)),some (R.val (D.int f')),some (R.own (D.lst (tr.map trD))),some (R.own (D.lst (left'.map D.str))),some (.val (.str z)),some (.val (wayD w')),c,d]∧f'≤8∧(8 - f') * 41+left'.length < m∧w'.length≤w.length+1∧("" : Str)∉w'∧(∀ z∈left',wdB z=true)∧(∀ res,WalkTo (look rs) w' left' f' (tr++[(w,z,w')]) res→Q (wrR res))) ?_ ?_
    ·rintro τ ⟨w',left',f',c,d,rfl,k1,k2,k3,k4,k5,k6⟩
     refine v_seq ?_
     dsimp! only [true_and]
     refine ⟨by decide,Nat.lt_of_lt_of_le (show _ < 1000 by omega) line1000,?_⟩
     have e:tr.map trD++[D.tup [wayD w,D.str z,wayD w']]=(tr++[(w,z,w')]).map trD:=by rw [List.map_append]; rfl
     rw [e]
     exact kn w' left' f' _ _ _ _ _ k1 k2 k3 (by rw [List.length_append]; exact Nat.le_refl _) k4 k5 k6
    ·intro nx hnx
     refine v_if (fun b=>b=decide (m'=mLink)) (fun Y y=>?t3) (fun hb=>?y3) fun hb=>?n3
     case t3 =>
      dsimp! only [thD,Option.map_some,Option.getD_some]
      exact y _ rfl
     case n3 =>
      have hm':=of_decide_eq_false hb.symm
      refine hnx _ ⟨stepW w z,zs,f,_,_,rfl,hf,by omega,step_len w z,step_ne h3 hz,hzs,fun res k=>h5 _ (.plain hk hm' (fun e=>?_) k)⟩
      by_cases hn:zs=[]
      ·exact hn
      ·rename_i hc
       rw [decide_eq_true e,decide_eq_true hn] at hc
       cases hc
     case y3 =>
      have hm':=of_decide_eq_true hb.symm
      subst hm'
      have lo:∀ Y:R→Prop,(f=8→Y (.exc "Astray"))→(f≠8→Y (.val (.int (f+1:Nat))))→g_one_more [.int f] Y:=fun Y y1 y2=>⟨f,rfl,y1,y2⟩
      obtain ⟨mr,er,et⟩:∃ r∈rs,r.2=(mLink,t)∧r.1=stepW w z:=by
       unfold look at hk
       by_cases e0:stepW w z=[]
       ·rw [if_pos e0] at hk
        exact absurd (show mFolder=mLink from congrArg (fun x=>(x.getD ("","")).1) hk) (by decide +kernel)
       ·rw [if_neg e0] at hk
        obtain ⟨r,h1,h2⟩:=Option.map_eq_some_iff.mp hk
        exact ⟨r,List.mem_of_find?_eq_some h1,h2,of_decide_eq_true (List.find?_some (p:=fun r:Row=>decide (r.1=stepW w z)) h1)⟩
      obtain ⟨lt,r,vs,ew⟩:=F.lk mr er (by rw [et.1])
      rw [et.1] at lt ew
      have lw:∀ Y:R→Prop,Y (.val (.tup [.bl r,strsD vs]))→g_words_of [.str t] Y:=fun Y y=>⟨t,rfl,by simp only at lt; omega,fun r' ws' e'=>by rw [ew] at e'; cases e'; exact y,fun e'=>by rw [ew] at e'; cases e'⟩
      have lst:∀ Y:R→Prop,Y (.val (wayD (startW r w)))→g_start_of [.bl r,wayD w] Y:=fun Y y=>⟨r,w,rfl,y⟩
      have ok:=words_ok ew
      refine v_seq ?_
      dsimp! only [true_and]
      refine lo _ (fun e8=>?_) fun n8=>?_
      ·dsimp! only [true_and]
       subst e8
       exact h5 _ (.many hk)
      dsimp! only [true_and]
      refine v_seq ?_
      dsimp! only [thD,Option.map_some,Option.getD_some]
      refine lw _ ?_
      dsimp! only [true_and]
      refine v_seq ?_
      dsimp! only [true_and]
      refine lst _ ?_
      dsimp! only [strsD]
      refine ⟨Nat.le_trans (show _≤1000 by omega) line1000,?_⟩
      exact hnx _ ⟨startW r w,vs++zs,f+1,_,_,rfl,by omega,by rw [List.length_append]; omega,Nat.le_succ_of_le (start_len r w),start_ne r h3,fun y my=>(List.mem_append.mp my).elim (ok.2 y) (hzs y),fun res k=>h5 _ (.link hk n8 ew k)⟩
def b_walked:TVS:=(vSeq (vSet 3 (vCall g_words_of (vCons (vVar 2) vNil)))
 (vRet (vCall g_walk (vCons (vCallN g_things_of (vCons (vVar 0) vNil)) (vCons (vCallN g_start_of (vCons (vOp vIxR (vVar 3) (vC (.int 0))) (vCons (vVar 1) vNil))) (vCons (vOp vIxR (vVar 3) (vC (.int 1))) (vCons (vC (.int 0)) vNil)))))))
abbrev N_walked:List Str:=["tree","at","text","found"]
theorem w_walked:∀ ds Q,g_walked ds Q→b_walked (EnX Q) (startD N_walked ds):=by
 rintro ds Q ⟨rs,w,t,rfl,F,hw,ht,h⟩
 refine v_seq ?_
 dsimp! only [b_walked]
 refine ⟨t,rfl,ht,fun r zs e=>?_,fun e=>?_⟩
 ·have ok:=words_ok e
  have l1:∀ Y:R→Prop,Y (.own (dictD (prsR rs)))→g_things_of [rowsL rs] Y:=fun Y y=>⟨rs,rfl,F,y⟩
  have l2:∀ Y:R→Prop,Y (.val (wayD (startW r w)))→g_start_of [.bl r,wayD w] Y:=fun Y y=>⟨r,w,rfl,y⟩
  have l3:∀ Y:R→Prop,(∀ res,WalkTo (look rs) (startW r w) zs 0 [] res→Y (wrR res))→g_walk [dictD (prsR rs),wayD (startW r w),strsD zs,.int (0:Nat)] Y:=fun Y y=>⟨rs,startW r w,zs,0,rfl,F,startG r hw,ok.1,ok.2,by decide,y⟩
  dsimp! only [true_and]
  refine l1 _ ?_
  dsimp! only [true_and]
  refine l2 _ ?_
  dsimp! only [true_and]
  refine l3 _ fun res k=>?_
  have:=h res (.inr ⟨r,zs,e,k⟩)
  cases res <;> exact this
 ·dsimp! only [true_and]
  exact h _ (.inl ⟨e,rfl⟩)
def b_trail_of:TVS:=(vRet (vOp vIxR (vCall g_walked (vCons (vVar 0) (vCons (vVar 1) (vCons (vVar 2) vNil)))) (vC (.int 0))))
abbrev N_trail_of:List Str:=["tree","at","text"]
theorem w_trail_of:∀ ds Q,g_trail_of ds Q→b_trail_of (EnX Q) (startD N_trail_of ds):=by
 rintro ds Q ⟨rs,w,t,rfl,F,hw,ht,h⟩
 have l1:∀ Y:R→Prop,(∀ res,TextTo rs w t res→Y (wrR res))→g_walked [rowsL rs,wayD w,.str t] Y:=fun Y y=>⟨rs,w,t,rfl,F,hw,ht,y⟩
 dsimp! only [b_trail_of]
 refine l1 _ fun res k=>?_
 have:=h res k
 cases res with
 | ok tr w f =>
  dsimp! only [wrR]
  exact this
 | exc n =>
  dsimp! only [wrR]
  exact this
def b_find_way:TVS:=(vRet (vOp vIxR (vCall g_walked (vCons (vVar 0) (vCons (vVar 1) (vCons (vVar 2) vNil)))) (vC (.int 1))))
abbrev N_find_way:List Str:=["tree","at","text"]
theorem w_find_way:∀ ds Q,g_find_way ds Q→b_find_way (EnX Q) (startD N_find_way ds):=by
 rintro ds Q ⟨rs,w,t,rfl,F,hw,ht,h⟩
 have l1:∀ Y:R→Prop,(∀ res,TextTo rs w t res→Y (wrR res))→g_walked [rowsL rs,wayD w,.str t] Y:=fun Y y=>⟨rs,w,t,rfl,F,hw,ht,y⟩
 dsimp! only [b_find_way]
 refine l1 _ fun res k=>?_
 have:=h res k
 cases res with
 | ok tr w f =>
  dsimp! only [wrR]
  exact this
 | exc n =>
  dsimp! only [wrR]
  exact this
def b_links:TVS:=(vSeq (vSet 1 (vC (.int 0)))
 (vSeq (vFor (vItems (vVar 0)) (vgName 2)
  (vIfS (vAndT (vBl (vOp vNeD (vOp vIxR (vVar 2) (vC (.int 1))) (vC (.str ("." : Str))))) (vAndT (vBl (vOp vNeD (vOp vIxR (vVar 2) (vC (.int 1))) (vC (.str (".." : Str))))) (vBl (vOp vNeD (vOp vIxR (vVar 2) (vC (.int 2))) (vOp vAdd (vOp vIxR (vVar 2) (vC (.int 0))) (vTup (vCons (vOp vIxR (vVar 2) (vC (.int 1))) vNil)))))))
  (vAug 1 (vC (.int 1)))
  vNext))
 (vRet (vVar 1))))
abbrev N_links:List Str:=["_law_steps","_law_count","_law_step"]
theorem w_links:∀ ds Q,g_links ds Q→b_links (En Q) (startD N_links ds):=by
 rintro ds Q ⟨tr,rfl,ht,h⟩
 refine v_seq ?_
 dsimp! only [b_links]
 refine v_cut (fun τ=>∃ a:Option R,τ=[some (.val (.lst (tr.map trD))),some (.val (.int (lnkN tr))),a]) ?_ fun nx hnx=>?now
 ·rintro τ ⟨a,rfl⟩
  dsimp! only [true_and]
  exact h
 dsimp! only [true_and]
 refine for_map (fun i τ=>∃ a:Option R,τ=[some (.val (.lst (tr.map trD))),some (.val (.int (lnkN (tr.take i)))),a]) ⟨none,rfl⟩ ?_ ?_
 ·rintro i t τ hi ⟨a,rfl⟩ nx2 hnx2
  have mt:=List.mem_of_getElem? hi
  have et:tr.take (i+1)=tr.take i++[t]:=by rw [List.take_succ,hi]; rfl
  have wl:=ht t mt
  rw [et] at hnx2
  have ns:=lnkN_snoc (tr.take i) t
  show vIfS _ _ _ _ [some (.val (.lst (tr.map trD))),some (.val (.int (lnkN (tr.take i)))),some (.val (trD t))]
  refine v_if (fun b=>b=isLk t) (fun Y y=>?t1) (fun hb=>?y1) fun hb=>?n1
  case t1 =>
   unfold isLk at y
   dsimp! only [trD]
   by_cases d1:t.2.1=Str.ofString "."
   ·rw [if_neg (by rw [decide_eq_true d1]; decide)]
    exact y _ (by rw [decide_eq_false (fun q=>q d1),Bool.false_and,Bool.false_and])
   ·rw [if_pos (by rw [decide_eq_false d1]; rfl)]
    by_cases d2:t.2.1=Str.ofString ".."
    ·rw [if_neg (by rw [decide_eq_true d2]; decide)]
     exact y _ (by rw [decide_eq_false (fun q:¬ t.2.1=Str.ofString ".." => q d2),Bool.and_false,Bool.false_and])
    ·rw [if_pos (by rw [decide_eq_false d2]; rfl)]
     dsimp! only [wayD]
     refine ⟨by decide,Nat.le_trans (show _≤1000 by omega) line1000,cmpW t.2.2 (t.1++[t.2.1]),depW t.2.2,?_⟩
     simp only [eqW]
     refine y _ ?_
     rw [decide_eq_true d1,decide_eq_true d2,Bool.true_and,Bool.true_and,decide_not]
  case y1 =>
   rw [← hb,if_pos rfl] at ns
   dsimp! only [true_and]
   refine hnx2 _ ⟨some (.val (trD t)),?_⟩
   rw [ns]
   rfl
  case n1 =>
   rw [← hb,if_neg (by decide)] at ns
   refine hnx2 _ ⟨some (.val (trD t)),?_⟩
   rw [ns]
   rfl
 ·rintro τ ⟨a,rfl⟩
  rw [List.take_length]
  exact hnx _ ⟨a,rfl⟩
def b_cells:TVS:=(vRet (vComp (vRng1 (vVar 3)) (vgName 4) (fun _ Q=>Q true) (vOp vAdd (vCallN g_cell_at (vCons (vVar 0) (vCons (vOp vAdd (vVar 1) (vOp vMul (vVar 2) (vVar 4))) vNil))) (vVar 4)) 1))
abbrev N_cells:List Str:=["_law_script","_law_first","_law_step","_law_many"]
theorem w_cells:∀ ds Q,g_cells ds Q→b_cells (En Q) (startD N_cells ds):=by
 rintro ds Q ⟨ns,a,b,m,rfl,h0,h1,h2,h3,h⟩
 simp! only [b_cells]
 refine ⟨by omega,by omega,?_⟩
 refine comp_all (f:=fun i:Nat=>D.int (0+i)) (fun d=>∃ z:Int,d=.int z) (List.range m.toNat) (by rw [List.length_range]; exact Nat.le_trans (show _≤1000 by omega) line1000) (fun k hk Y N hY=>?_) fun es hl he=>?_
 ·simp! only [g_cell_at]
  have:=List.mem_range.mp hk
  refine ⟨.inr ⟨by omega,by omega⟩,?_,hY _ ⟨_,rfl⟩⟩
  have:=Int.mul_nonneg h1 (Int.natCast_nonneg k)
  omega
 ·obtain ⟨cs,rfl⟩:=ints_all es he
  simp! only [true_and]
  rw [List.length_map,List.length_range] at hl
  exact h cs hl
def b_link_by:TVS:=(vSeq (vSet 4 (vCallN g_mixed (vCons (vVar 2) (vCons (vC (.int 5)) (vCons (vC (.int 7)) vNil)))))
 (vSeq (vIfS (vOrT (vBl (vOp vGt (vVar 4) (vC (.int 4)))) (vBl (vOp vEq (vF1 vLen (vVar 0)) (vC (.int 0)))))
  (vSeq (vSet 5 (vTup (vCons (vC (.str ("/" : Str))) (vCons (vC (.str (".." : Str))) (vCons (vC (.str ("." : Str))) (vCons (vVar 3) (vCons (vOp vAdd (vC (.str ("../" : Str))) (vVar 3)) (vCons (vOp vAdd (vOp vAdd (vC (.str ("./" : Str))) (vVar 3)) (vC (.str ("/.." : Str)))) vNil))))))))
 (vRet (vOp vIxR (vVar 5) (vCallN g_mixed (vCons (vVar 2) (vCons (vC (.int 7)) (vCons (vC (.int 6)) vNil)))))))
  vNext)
 (vSeq (vSet 6 (vJoin (vC (.str ("/" : Str))) (vOp vIxR (vVar 0) (vCallN g_mixed (vCons (vVar 2) (vCons (vC (.int 6)) (vCons (vF1 vLen (vVar 0)) vNil)))))))
 (vSeq (vIfS (vBl (vOp vEq (vVar 4) (vC (.int 4))))
  (vRet (vOp vAdd (vOp vMulS (vC (.str ("../" : Str))) (vF1 vLen (vVar 1))) (vVar 6)))
  vNext)
 (vRet (vOp vAdd (vC (.str ("/" : Str))) (vVar 6)))))))
abbrev N_link_by:List Str:=["_law_ways","_law_over","_law_cell","_law_name","_law_kind","_law_some","_law_to"]
theorem w_link_by:∀ ds Q,g_link_by ds Q→b_link_by (En Q) (startD N_link_by ds):=by
 rintro ds Q ⟨ws,over,c,z,rfl,hws,hov,hz,h⟩
 have mx:∀ (k n:Int) (Y:R→Prop),0≤k→0 < n→(∀ i,0≤i→i < n→Y (.val (.int i)))→g_mixed [.int c,.int k,.int n] Y:=fun k n Y hk hn y=>⟨c,k,n,rfl,hk,hn,fun i h0 h1 _=>y i h0 h1⟩
 have wz:=nm_wd hz
 have lz:=(nm_len hz).2
 refine v_cut (fun τ=>∃ k:Int,τ=[some (.val (.lst (ws.map wayD))),some (.val (wayD over)),some (.val (.int c)),some (.val (.str z)),some (.val (.int k)),none,none]) ?_ fun nx hnx=>?now
 case now =>
  dsimp! only [true_and]
  refine mx _ _ _ (by decide) (by decide) fun i _ _=>?_
  dsimp! only [true_and]
  exact hnx _ ⟨i,rfl⟩
 rintro τ ⟨k,rfl⟩
 refine v_ifn (fun b=>b=false→ws≠[]) (fun Y y=>?t1) (fun _=>?y1) fun hn=>?n1
 case t1 =>
  dsimp! only [true_and]
  by_cases e0:ws=[]
  ·subst e0
   by_cases e4:k > 4
   ·rw [if_pos (decide_eq_true e4)]
    exact y _ fun q=>by cases q
   ·rw [if_neg (by rw [decide_eq_false e4]; decide)]
    exact y _ fun q=>by revert q; decide
  ·by_cases e4:k > 4
   ·rw [if_pos (decide_eq_true e4)]
    exact y _ fun _=>e0
   ·rw [if_neg (by rw [decide_eq_false e4]; decide)]
    exact y _ fun _=>e0
 case y1 =>
  have e2:(Str.ofString "../").length=3:=by decide +kernel
  have e3:(Str.ofString "./").length=2:=by decide +kernel
  have e4:(Str.ofString "/..").length=3:=by decide +kernel
  refine v_seq ?_
  dsimp! only [true_and]
  refine ⟨Nat.le_trans (show _≤1000 by omega) line1000,Nat.le_trans (show _≤1000 by omega) line1000,Nat.le_trans (show _≤1000 by rw [PySem.Str.length_append]; omega) line1000,by decide,?_⟩
  refine mx _ _ _ (by decide) (by decide) fun i i0 i1=>?_
  dsimp! only [true_and]
  obtain ⟨x,hx,hx2⟩:=at_nat (xs:=[Str.ofString "/",Str.ofString "..",Str.ofString ".",z,Str.ofString "../" ++ z,Str.ofString "./" ++ z++Str.ofString "/.."]) (k:=i) i0 i1
  have hx3:atI ([Str.ofString "/",Str.ofString "..",Str.ofString ".",z,Str.ofString "../" ++ z,Str.ofString "./" ++ z++Str.ofString "/.."].map D.str) i=some (.str x):=by rw [atI_map,hx]; rfl
  refine ⟨.str x,hx3,?_⟩
  have mx:=List.mem_of_getElem? hx2
  simp only [List.mem_cons,List.not_mem_nil,or_false] at mx
  have d3:(Str.ofString "../").cps.toList=[46,46,47]:=by decide +kernel
  have d2:(Str.ofString "./").cps.toList=[46,47]:=by decide +kernel
  have d4:(Str.ofString "/..").cps.toList=[47,46,46]:=by decide +kernel
  have c1:(Str.ofString ".").cps.toList=[46]:=by decide +kernel
  have c2:(Str.ofString "..").cps.toList=[46,46]:=by decide +kernel
  have g1:glue "/" [z]=z:=str_ext (by rw [glue_list]; exact List.append_nil _)
  have g2:glue "/" [Str.ofString "..",z]=Str.ofString "../" ++ z:=str_ext (by rw [glue_list,app_list,d3,c2]; show [46,46]++(47 :: z.cps.toList++[])=_; simp)
  have g3:glue "/" [Str.ofString ".",z,Str.ofString ".."]=Str.ofString "./" ++ z++Str.ofString "/.." := str_ext (by rw [glue_list,app_list,app_list,d2,d4,c1]; show [46]++(47 :: z.cps.toList++(47 :: (Str.ofString "..").cps.toList++[]))=_; rw [c2]; simp)
  rcases mx with rfl | rfl | rfl | rfl | rfl | rfl
  ·exact h _ (by decide +kernel) ⟨true,[],by decide +kernel⟩
  ·exact h _ (by decide +kernel) ⟨false,[".."],by decide +kernel⟩
  ·exact h _ (by decide +kernel) ⟨false,["."],by decide +kernel⟩
  ·exact h _ (by omega) ⟨false,[x],by have:=words_rel (ws:=[x]) (by simp) (by simp) (by simpa using wz); rw [g1] at this; exact this⟩
  ·refine h _ (by rw [PySem.Str.length_append]; omega) ⟨false,_,g2 ▸ words_rel (by simp) (by simp) fun y my=>?_⟩
   simp only [List.mem_cons,List.not_mem_nil,or_false] at my
   rcases my with rfl | rfl
   ·exact wd_dots
   ·exact wz
  ·refine h _ (by rw [PySem.Str.length_append,PySem.Str.length_append]; omega) ⟨false,_,g3 ▸ words_rel (by simp) (by simp) fun y my=>?_⟩
   simp only [List.mem_cons,List.not_mem_nil,or_false] at my
   rcases my with rfl | rfl | rfl
   ·exact wd_dot
   ·exact wz
   ·exact wd_dots
 case n1 =>
 have hn:=hn rfl
 have hwl:0 < ws.length:=List.length_pos_iff.mpr hn
 refine v_cut (fun τ=>∃ w∈ws,τ=[some (.val (.lst (ws.map wayD))),some (.val (wayD over)),some (.val (.int c)),some (.val (.str z)),some (.val (.int k)),none,some (.val (.str (glue "/" w)))]) ?_ fun nx hnx=>?now
 case now =>
  dsimp! only [true_and]
  refine mx _ _ _ (by decide) (by omega) fun i i0 i1=>?_
  obtain ⟨w,hw,hw2⟩:=at_nat (xs:=ws) (k:=i) i0 i1
  have mw:=List.mem_of_getElem? hw2
  dsimp! only [true_and]
  have s1:=sum_wd fun y my=>nm_wd ((hws w mw).2.2 y my)
  have s2:=(hws w mw).2.1
  have s3:=one_slash
  refine ⟨wayD w,by rw [atI_map,hw]; rfl,w,.inr rfl,?_,hnx _ ⟨w,mw,rfl⟩⟩
  have s4:(Str.ofString "/").length=1:=one_slash
  rw [s4]
  omega
 rintro τ ⟨w,mw,rfl⟩
 obtain ⟨w0,w1,w2⟩:=hws w mw
 have ww:∀ y∈w,wdB y=true:=fun y my=>nm_wd (w2 y my)
 have gl:=glue_wd ww
 refine v_ifn (fun _=>True) (fun Y y=>?t2) (fun _=>?y2) fun _=>?n2
 case t2 =>
  dsimp! only [true_and]
  exact y _ trivial
 case y2 =>
  have o1:=hov.1
  have um:=up_mul ⟨over.length,by omega⟩
  have ul:(Txt.mul "../" (over.length:Int)).length≤3 * 12:=PyProof.Rows.len_mul_leN (by decide +kernel) (by omega)
  dsimp! only [wayD]
  refine ⟨up_ok ⟨over.length,by omega⟩,Nat.le_trans (show _≤1000 by omega) line1000,h _ (by rw [PySem.Str.length_append]; omega) ⟨false,List.replicate over.length (".." : Str)++w,?_⟩⟩
  have:=up_text o1 w0
  show wordsW (Txt.mul "../" (over.length:Int)++glue "/" w)=_
  rw [this]
  refine words_rel (by simp [w0]) (by rw [List.length_append,List.length_replicate]; omega) fun y my=>?_
  rcases List.mem_append.mp my with q | q
  ·rw [(List.mem_replicate.mp q).2]
   exact wd_dots
  ·exact ww y q
 case n2 =>
  dsimp! only [true_and]
  have s3:(Str.ofString "/").length=1:=one_slash
  exact ⟨Nat.le_trans (show _≤1000 by omega) line1000,h _ (by rw [PySem.Str.length_append]; omega) ⟨true,_,words_root (by omega) ww⟩⟩
def b_hall_by:TVS:=(vSeq (vSet 2 (vOp vAdd (vC (.int 2)) (vOp vMod (vOp vDiv (vVar 1) (vC (.int 5))) (vC (.int 7)))))
 (vSeq (vSetO 3 vDNewT)
 (vSeq (vSetO 4 (vLst (vCons (vTup vNil) vNil)))
 (vSeq (vFor (vItems (vVar 0)) (vgName 5)
  (vSeq (vSet 6 (vOp vIxR (vVar 4) (vCallN g_mixed (vCons (vVar 5) (vCons (vC (.int 0)) (vCons (vF1 vLen (vVar 4)) vNil))))))
 (vSeq (vIfS (vBl (vOp vEq (vCallN g_mixed (vCons (vVar 5) (vCons (vC (.int 3)) (vCons (vC (.int 3)) vNil)))) (vC (.int 0))))
  (vSet 6 (vOp vIxR (vVar 4) (vNeg (vC (.int 1)))))
  vNext)
 (vSeq (vSet 7 (vCallN g_name_by (vCons (vVar 1) (vCons (vCallN g_mixed (vCons (vVar 5) (vCons (vC (.int 1)) (vCons (vVar 2) vNil)))) vNil))))
 (vSeq (vSet 8 (vOp vAdd (vVar 6) (vTup (vCons (vVar 7) vNil))))
 (vIfS (vAndT (vBl (vDIn (!·) (vVar 8) (vVar 3))) (vBl (vOp vLt (vF1 vLen (vVar 8)) (vC (.int 13)))))
  (vSeq (vSet 9 (vOp vIxR (vTup (vCons (vC (.str ("folder" : Str))) (vCons (vC (.str ("link" : Str))) (vCons (vC (.str ("file" : Str))) (vCons (vC (.str ("folder" : Str))) (vCons (vC (.str ("link" : Str))) vNil)))))) (vCallN g_mixed (vCons (vVar 5) (vCons (vC (.int 2)) (vCons (vC (.int 5)) vNil))))))
 (vSeq (vDPut 3 (vVar 8) (vTup (vCons (vVar 9) (vCons (vC (.str ("" : Str))) vNil))))
 (vSeq (vIfS (vBl (vOp vEq (vVar 9) (vC (.str ("link" : Str)))))
  (vDPut 3 (vVar 8) (vTup (vCons (vVar 9) (vCons (vCallN g_link_by (vCons (vF1 vListD (vVar 3)) (vCons (vVar 6) (vCons (vVar 5) (vCons (vVar 7) vNil))))) vNil))))
  vNext)
 (vSeq (vIfS (vBl (vOp vEq (vVar 9) (vC (.str ("file" : Str)))))
  (vDPut 3 (vVar 8) (vTup (vCons (vVar 9) (vCons (vOp vAdd (vOp vAdd (vVar 7) (vC (.str (" " : Str)))) (vF1 vStr (vOp vMod (vVar 5) (vOp vPow (vC (.int 10)) (vC (.int 30)))))) vNil))))
  vNext)
 (vIfS (vBl (vOp vEq (vVar 9) (vC (.str ("folder" : Str)))))
  (vAppend 4 (vVar 8))
  vNext)))))
  vNext))))))
 (vRetO 3)))))
abbrev N_hall_by:List Str:=["_law_cells_here","_law_stem","_law_wide","_law_things","_law_folders","_law_cell","_law_over","_law_name","_law_way","_law_mark"]
theorem ins_new {rs:List Row} {w:List Str} (h:w∉rs.map (·.1)) (m t:Str):insP (rs.map prR) w (.tup [.str m,.str t])=(rs++[(w,m,t)]).map prR:=by
 unfold insP
 rw [ways_pr,if_neg h,List.map_append]
 rfl
theorem ins_last {rs:List Row} {w:List Str} (h:w∉rs.map (·.1)) (m t m' t':Str):insP ((rs++[(w,m,t)]).map prR) w (.tup [.str m',.str t'])=(rs++[(w,m',t')]).map prR:=by
 unfold insP
 rw [ways_pr,if_pos (by rw [List.map_append]; exact List.mem_append_right _ (by simp)),List.map_append,List.map_append,List.map_append]
 congr 1
 ·rw [List.map_map]
  refine List.map_congr_left fun r mr=>?_
  show (if r.1=w then _ else _)=_
  rw [if_neg (fun e:r.1=w=>h (List.mem_map.mpr ⟨r,mr,e⟩))]
 ·show [if w=w then _ else _]=_
  rw [if_pos rfl]
  rfl
theorem w_hall_by:∀ ds Q,g_hall_by ds Q→b_hall_by (En Q) (startD N_hall_by ds):=by
 rintro ds Q ⟨cs,st,rfl,hcs,h⟩
 refine v_seq ?_
 dsimp! only [b_hall_by]
 have w0:=Int.emod_nonneg (st / 5) (show (7:Int)≠0 by decide)
 generalize hwd:2+st / 5 % 7=wide
 have w1:0 < wide:=by omega
 refine v_seq ?_
 dsimp! only [true_and]
 refine v_seq ?_
 dsimp! only [true_and]
 refine ⟨by decide,?_⟩
 refine v_seq ?_
 dsimp! only [true_and]
 refine for_map (fun i τ=>∃ (rs:List Row) (fs:List (List Str)) (a b c d e:Option R),HInv i rs fs ∧
  τ=[some (.val (.lst (cs.map D.int))),some (.val (.int st)),some (.val (.int wide)),some (.own (dictD (rs.map prR))),some (.own (.lst (fs.map wayD))),a,b,c,d,e]) ⟨[],[[]],none,none,none,none,none,⟨⟨by simp,by simp,by simp,by simp,by simp⟩,by simp,by simp,by simp,by simp⟩,rfl⟩ ?_ ?_
 ·rintro i c τ hc ⟨rs,fs,k5,k6,k7,k8,k9,I,rfl⟩ nx hnx
  have hi:=(List.getElem?_eq_some_iff.mp hc).1
  have hfp:0 < fs.length:=List.length_pos_iff.mpr I.ne
  have hfl:=I.fln
  have hrl:=I.len
  have mx:∀ (k n:Int) (Y:R→Prop),0≤k→0 < n→(∀ i,0≤i→i < n→Y (.val (.int i)))→g_mixed [.int c,.int k,.int n] Y:=fun k n Y hk hn y=>⟨c,k,n,rfl,hk,hn,fun i h0 h1 _=>y i h0 h1⟩
  have nb:∀ (i:Int) (Y:R→Prop),0≤i→(∀ z:Str,nmB z=true→Y (.val (.str z)))→g_name_by [.int st,.int i] Y:=fun i Y hi y=>⟨st,i,rfl,hi,y⟩
  refine v_cut (fun τ=>∃ f,f∈fs∧τ=[some (.val (.lst (cs.map D.int))),some (.val (.int st)),some (.val (.int wide)),some (.own (dictD (rs.map prR))),some (.own (.lst (fs.map wayD))),some (.val (.int c)),some (.val (wayD f)),k7,k8,k9]) ?_ fun nx2 hnx2=>?now
  case now =>
   dsimp! only [true_and]
   refine mx _ _ _ (by decide) (by omega) fun k k0 k1=>?_
   obtain ⟨f,hf,hf2⟩:=at_nat (xs:=fs) (k:=k) k0 k1
   dsimp! only [true_and]
   exact ⟨wayD f,by rw [atI_map,hf]; rfl,hnx2 _ ⟨f,List.mem_of_getElem? hf2,rfl⟩⟩
  rintro τ ⟨f,mf,rfl⟩
  refine v_cut (fun τ=>∃ f,f∈fs∧τ=[some (.val (.lst (cs.map D.int))),some (.val (.int st)),some (.val (.int wide)),some (.own (dictD (rs.map prR))),some (.own (.lst (fs.map wayD))),some (.val (.int c)),some (.val (wayD f)),k7,k8,k9]) ?_ fun nx2 hnx2=>?now
  case now =>
   dsimp! only [true_and]
   refine mx _ _ _ (by decide) (by decide) fun k k0 k1=>?_
   dsimp! only [true_and]
   split
   ·exact ⟨wayD (fs.getLast I.ne),by rw [List.getLast?_map,List.getLast?_eq_some_getLast I.ne]; rfl,hnx2 _ ⟨_,List.getLast_mem I.ne,rfl⟩⟩
   ·exact hnx2 _ ⟨f,mf,rfl⟩
  clear mf f
  rintro τ ⟨f,mf,rfl⟩
  have hf12:=I.folW mf
  refine v_cut (fun τ=>∃ z:Str,nmB z=true∧τ=[some (.val (.lst (cs.map D.int))),some (.val (.int st)),some (.val (.int wide)),some (.own (dictD (rs.map prR))),some (.own (.lst (fs.map wayD))),some (.val (.int c)),some (.val (wayD f)),some (.val (.str z)),k8,k9]) ?_ fun nx2 hnx2=>?now
  case now =>
   dsimp! only [true_and]
   refine mx _ _ _ (by decide) w1 fun k k0 k1=>?_
   dsimp! only [true_and]
   refine nb _ _ k0 fun z hz=>?_
   dsimp! only [true_and]
   exact hnx2 _ ⟨z,hz,rfl⟩
  rintro τ ⟨z,hz,rfl⟩
  refine v_cut (fun τ=>τ=[some (.val (.lst (cs.map D.int))),some (.val (.int st)),some (.val (.int wide)),some (.own (dictD (rs.map prR))),some (.own (.lst (fs.map wayD))),some (.val (.int c)),some (.val (wayD f)),some (.val (.str z)),some (.val (wayD (f++[z]))),k9]) ?_ fun nx2 hnx2=>?now
  case now =>
   dsimp! only [wayD]
   have:=hf12.1
   exact ⟨by decide,Nat.le_trans (show _≤1000 by omega) line1000,hnx2 _ rfl⟩
  rintro τ rfl
  have hwe:("" : Str)∉f++[z]:=fun m=>by
   rcases List.mem_append.mp m with m | m
   ·exact hf12.ne m
   ·exact wd_ne (nm_wd hz) (List.mem_singleton.mp m).symm
  have lk:(lkP (rs.map prR) (f++[z])).isSome=decide (f++[z]∈rs.map (·.1)):=by
   rw [lkP_pr,Option.isSome_map]
   exact (Option.isSome_map ..).symm.trans (markR_in rs (f++[z]))
  have stay:=hnx _ ⟨rs,fs,some (.val (.int c)),some (.val (wayD f)),some (.val (.str z)),some (.val (wayD (f++[z]))),k9,I.stay,rfl⟩
  have put:=fun (m t:Str) (hl:(f++[z]).length≤12) (nw:f++[z]∉rs.map (·.1)) (hm:mkH (f++[z],m,t))=>I.put mf hz hl nw hm
  have hfw:WyH f:=hf12
  have w00:f++[z]≠[]:=by simp
  have wz12:(f++[z]).length≤12→WyH (f++[z]):=fun hl=>⟨hl,fun y my=>by
   rcases List.mem_append.mp my with q | q
   ·exact hf12.2 y q
   ·rw [List.mem_singleton.mp q]
    exact hz⟩
  generalize hw:f++[z]=w at *
  refine v_if (fun b=>b=true→w∉rs.map (·.1)∧w.length < 13) (fun Y y=>?test) (fun hyes=>?yes) fun _=>stay
  case test =>
   dsimp! only [dictD,wayD]
   refine ⟨hwe,?_⟩
   rw [lkD_pairs,lk]
   by_cases hm:w∈rs.map (·.1)
   ·rw [decide_eq_true hm]
    exact iteF (y _ fun z=>by cases z)
   ·rw [decide_eq_false hm]
    exact iteT (y _ fun z=>⟨hm,by have:=of_decide_eq_true z; omega⟩)
  case yes =>
    obtain ⟨hm,h13⟩:=hyes rfl
    have w12:=wz12 (by omega)
    have big:(rs.map prR).length < sizeLine:=Nat.lt_of_lt_of_le (show _ < 1000 by rw [List.length_map]; omega) line1000
    refine v_cut (fun τ=>∃ m:Str,(m=mFolder∨m=mLink∨m=mFile)∧τ=[some (.val (.lst (cs.map D.int))),some (.val (.int st)),some (.val (.int wide)),some (.own (dictD (rs.map prR))),some (.own (.lst (fs.map wayD))),some (.val (.int c)),some (.val (wayD f)),some (.val (.str z)),some (.val (wayD w)),some (.val (.str m))]) ?_ fun nx2 hnx2=>?now
    case now =>
     dsimp! only [true_and]
     refine ⟨by decide,?_⟩
     refine mx _ _ _ (by decide) (by decide) fun k k0 k1=>?_
     dsimp! only [true_and]
     have e:[D.str (Str.ofString "folder"),D.str (Str.ofString "link"),D.str (Str.ofString "file"),D.str (Str.ofString "folder"),D.str (Str.ofString "link")]=[mFolder,mLink,mFile,mFolder,mLink].map D.str:=rfl
     obtain ⟨y,hy,hy2⟩:=at_nat (xs:=[mFolder,mLink,mFile,mFolder,mLink]) (k:=k) k0 k1
     have my:y=mFolder∨y=mLink∨y=mFile:=by
      have:=List.mem_of_getElem? hy2
      simp only [List.mem_cons,List.not_mem_nil,or_false] at this
      rcases this with q | q | q | q | q <;> simp [q]
     exact ⟨.str y,by rw [e,atI_map,hy]; rfl,hnx2 _ ⟨y,my,rfl⟩⟩
    rintro τ ⟨m,hm1,rfl⟩
    refine v_cut (fun τ=>τ=[some (.val (.lst (cs.map D.int))),some (.val (.int st)),some (.val (.int wide)),some (.own (dictD ((rs++[(w,m,tEmpty)]).map prR))),some (.own (.lst (fs.map wayD))),some (.val (.int c)),some (.val (wayD f)),some (.val (.str z)),some (.val (wayD w)),some (.val (.str m))]) ?_ fun nx2 hnx2=>?now
    case now =>
     dsimp! only [dictD,wayD]
     refine ⟨by decide,hwe,?_,?_⟩
     ·simpa using big
     ·rw [putD_pairs,show D.tup [D.str m,D.str (Str.ofString "")]=.tup [.str m,.str tEmpty] from rfl,ins_new hm]
      exact hnx2 _ rfl
    rintro τ rfl
    refine v_cut (fun τ=>∃ t:Str,(m=mFolder→t=tEmpty)∧(m=mLink→t.length≤3000∧∃ b vs,wordsW t=some (b,vs))∧τ=[some (.val (.lst (cs.map D.int))),some (.val (.int st)),some (.val (.int wide)),some (.own (dictD ((rs++[(w,m,t)]).map prR))),some (.own (.lst (fs.map wayD))),some (.val (.int c)),some (.val (wayD f)),some (.val (.str z)),some (.val (wayD w)),some (.val (.str m))]) ?_ fun nx2 hnx2=>?now
    case now =>
     refine v_if (fun b=>b=decide (m=mLink)) (fun Y y=>?t1) (fun hb=>?y1) fun hb=>?n1
     case t1 =>
      dsimp! only [true_and]
      exact y _ rfl
     case y1 =>
      have el:=of_decide_eq_true hb.symm
      have lb:∀ Y:R→Prop,(∀ t:Str,t.length≤3000→(∃ b vs,wordsW t=some (b,vs))→Y (.val (.str t)))→g_link_by [.lst (((rs++[(w,m,tEmpty)]).map (·.1)).map wayD),wayD f,.int c,.str z] Y:=fun Y y=>⟨_,f,c,z,rfl,fun v mv=>by
        rw [List.map_append] at mv
        rcases List.mem_append.mp mv with q | q
        ·obtain ⟨r,mr,rfl⟩:=List.mem_map.mp q
         exact ⟨I.hall.ne r mr,I.hall.wy r mr⟩
        ·rw [List.mem_singleton.mp q]
         exact ⟨w00,w12⟩,hfw,hz,y⟩
      have ek:(((rs++[(w,m,tEmpty)]).map prR).map (·.1)).map (fun w=>D.tup (w.map D.str))=((rs++[(w,m,tEmpty)]).map (·.1)).map wayD:=by
       rw [ways_pr]
       rfl
      dsimp! only [dictD]
      rw [ek]
      refine lb _ fun t ht hw=>?_
      dsimp! only [wayD]
      refine ⟨by decide,hwe,?_,?_⟩
      ·rw [List.length_append,List.length_singleton]
       exact Nat.lt_of_lt_of_le (show _ < 1000 by omega) line1000
      ·rw [putD_pairs,ins_last hm]
       exact hnx2 _ ⟨t,fun e=>absurd (el.symm.trans e) (by decide +kernel),fun _=>⟨ht,hw⟩,rfl⟩
     case n1 =>
      exact hnx2 _ ⟨tEmpty,fun _=>rfl,fun e=>absurd e (of_decide_eq_false hb.symm),rfl⟩
    rintro τ ⟨t,hfo,hli,rfl⟩
    refine v_cut (fun τ=>∃ t:Str,mkH (w,m,t)∧τ=[some (.val (.lst (cs.map D.int))),some (.val (.int st)),some (.val (.int wide)),some (.own (dictD ((rs++[(w,m,t)]).map prR))),some (.own (.lst (fs.map wayD))),some (.val (.int c)),some (.val (wayD f)),some (.val (.str z)),some (.val (wayD w)),some (.val (.str m))]) ?_ fun nx2 hnx2=>?now
    case now =>
     refine v_if (fun b=>b=decide (m=mFile)) (fun Y y=>?t1) (fun hb=>?y1) fun hb=>?n1
     case t1 =>
      dsimp! only [true_and]
      exact y _ rfl
     case y1 =>
      have el:=of_decide_eq_true hb.symm
      have q0:=Int.emod_nonneg c (show (10 ^ Int.toNat 30:Int)≠0 by decide)
      have q1:=Int.emod_lt_of_pos c (show (0:Int) < 10 ^ Int.toNat 30 by decide)
      have q2:(Str.ofString (toString (c % 10 ^ Int.toNat 30))).length≤30:=toString_length_le q0 (by decide) q1
      have q3:(Str.ofString " ").length=1:=by decide +kernel
      have q4:=(nm_len hz).2
      dsimp! only [dictD,wayD]
      refine ⟨Nat.le_trans (show _≤1000 by omega) line1000,⟨by decide,by decide,by decide⟩,by decide,?_,Nat.le_trans (show _≤1000 by rw [PySem.Str.length_append]; omega) line1000,by decide,hwe,?_,?_⟩
      ·have:(c % 10 ^ Int.toNat 30).natAbs < 2 ^ 200:=by
        have e:(10 ^ Int.toNat 30:Int) < 2 ^ 200:=by decide
        omega
       by_cases z:(c % 10 ^ Int.toNat 30).natAbs=0
       ·rw [z]
        decide
       ·exact Nat.lt_of_lt_of_le ((Nat.log2_lt z).mpr this) (by decide)
      ·rw [List.length_append,List.length_singleton]
       exact Nat.lt_of_lt_of_le (show _ < 1000 by omega) line1000
      ·rw [putD_pairs,ins_last hm]
       exact hnx2 _ ⟨_,.inr (.inl el),rfl⟩
     case n1 =>
      refine hnx2 _ ⟨t,?_,rfl⟩
      rcases hm1 with q | q | q
      ·exact .inl (by rw [hfo q,q])
      ·exact .inr (.inr ⟨q,hli q⟩)
      ·exact absurd q (of_decide_eq_false hb.symm)
    rintro τ ⟨t,hmk,rfl⟩
    obtain ⟨A,A2⟩:=put m t (by omega) hm hmk
    refine v_if (fun b=>b=decide (m=mFolder)) (fun Y y=>?t1) (fun hb=>?y1) fun hb=>?n1
    case t1 =>
     dsimp! only [true_and]
     exact y _ rfl
    case y1 =>
     have q:=of_decide_eq_true hb.symm
     have et:(m,t)=(mFolder,tEmpty):=by
      rcases hmk with u | u | u
      ·exact u
      ·exact absurd (q.symm.trans u) (by decide +kernel)
      ·exact absurd (q.symm.trans u.1) (by decide +kernel)
     dsimp! only [true_and]
     refine ⟨Nat.lt_of_lt_of_le (show _ < 1000 by omega) line1000,hnx _ ⟨rs++[(w,m,t)],fs++[w],some (.val (.int c)),some (.val (wayD f)),some (.val (.str z)),some (.val (wayD w)),some (.val (.str m)),A2 et,?_⟩⟩
     rw [List.map_append (f:=wayD)]
     rfl
    case n1=>exact hnx _ ⟨rs++[(w,m,t)],fs,_,_,_,_,_,A,rfl⟩
 ·rintro τ ⟨rs,fs,k5,k6,k7,k8,k9,I,rfl⟩
  dsimp! only [true_and]
  exact h rs I.hall I.len
def b_tree_of:TVS:=(vRet (vComp (vItems (vF1 vSorted (vF1 vListD (vVar 0)))) (vgName 1) (fun _ Q=>Q true) (vTup (vCons (vVar 1) (vCons (vOp vIxR (vDGet (vVar 0) (vVar 1)) (vC (.int 0))) (vCons (vOp vIxR (vDGet (vVar 0) (vVar 1)) (vC (.int 1))) vNil)))) 1))
abbrev N_tree_of:List Str:=["_law_things"]
theorem w_tree_of:∀ ds Q,g_tree_of ds Q→b_tree_of (En Q) (startD N_tree_of ds):=by
 rintro ds Q ⟨rs,rfl,H,hlen,h⟩
 simp! only [b_tree_of,dictD]
 have ek:(((rs.map prR).map (·.1)).map fun w=>D.tup (w.map D.str))=(rs.map (·.1)).map wayD:=by
  rw [List.map_map,List.map_map,List.map_map]
  rfl
 refine ⟨?_,?_,fun ds hp hs=>?_⟩
 ·rw [ek]
  exact sortD_ways H.nd
 ·omega
 ·rw [ek] at hp
  obtain ⟨vs,rfl,hv,hso⟩:=ways_back hp hs
  have hvl:vs.length=rs.length:=by rw [hv.length_eq,List.length_map]
  refine comp_map (fun w=>rowD (w,lkR rs w)) vs (Nat.le_trans (show _≤1000 by omega) line1000) (fun w mw Y N hY=>?_) ?_
  ·have mw':=hv.mem_iff.mp mw
   simp! only [wayD]
   have wk:("" : Str)∉w:=by
    obtain ⟨r,mr,er⟩:=List.mem_map.mp mw'
    rw [← er]
    exact (H.wy r mr).ne
   refine ⟨wk,thD (lkR rs w),by rw [lkD_pairs]; exact lkP_lkR H.nd mw',?_⟩
   simp! only [thD]
   refine ⟨wk,thD (lkR rs w),by rw [lkD_pairs]; exact lkP_lkR H.nd mw',?_⟩
   simp! only [thD]
   exact ⟨by decide,hY⟩
  ·simp! only [true_and]
   have e:vs.map (fun w=>rowD (w,lkR rs w))=(vs.map fun w=>(w,lkR rs w)).map rowD:=by rw [List.map_map]; rfl
   rw [e]
   obtain ⟨p1,p2⟩:=rows_of_ways H.nd hv hso
   exact h _ p1 p2
def b_text_of:TVS:=(vSeq (vIfS (vBl (vVar 0))
  (vRet (vOp vAdd (vC (.str ("/" : Str))) (vJoin (vC (.str ("/" : Str))) (vVar 1))))
  vNext)
 (vRet (vJoin (vC (.str ("/" : Str))) (vVar 1))))
abbrev N_text_of:List Str:=["_law_rooted","_law_words"]
theorem w_text_of:∀ ds Q,g_text_of ds Q→b_text_of (En Q) (startD N_text_of ds):=by
 rintro ds Q ⟨r,zs,rfl,hl,hw,h⟩
 have g1:=glue_wd hw
 have s1:=sum_wd hw
 have os:(Str.ofString "/").length=1:=one_slash
 unfold textW at h
 refine v_ifn (fun b=>b=r) (fun Y y=>?t1) (fun hb=>?y1) fun hb=>?n1
 case t1 =>
  dsimp! only [true_and]
  exact y _ rfl
 case y1 =>
  rw [if_pos hb.symm] at h
  dsimp! only [strsD]
  exact ⟨zs,.inl rfl,by rw [os]; omega,Nat.le_trans (show _≤1000 by rw [os]; show 1+(glue "/" zs).length≤1000; omega) line1000,h⟩
 case n1 =>
  rw [if_neg (by rw [← hb]; decide)] at h
  dsimp! only [strsD]
  exact ⟨zs,.inl rfl,by rw [os]; omega,h⟩
def b_aim_by:TVS:=(vSeq (vSet 3 (vOp vAdd (vC (.int 2)) (vOp vMod (vOp vDiv (vVar 2) (vC (.int 5))) (vC (.int 7)))))
 (vSeq (vSet 4 (vF1 vListD (vVar 0)))
 (vSeq (vSetO 5 (vLst vNil))
 (vSeq (vSet 6 (vTup vNil))
 (vSeq (vSet 7 (vOp vEq (vCallN g_mixed (vCons (vOp vIxR (vVar 1) (vC (.int 0))) (vCons (vC (.int 2)) (vCons (vC (.int 2)) vNil)))) (vC (.int 0))))
 (vSeq (vIfS (vBl (vOp vGt (vF1 vLen (vVar 4)) (vC (.int 0))))
  (vSeq (vSet 8 (vOp vIxR (vVar 4) (vCallN g_mixed (vCons (vOp vIxR (vVar 1) (vC (.int 0))) (vCons (vC (.int 0)) (vCons (vF1 vLen (vVar 4)) vNil))))))
 (vSeq (vSet 6 (vSlice (vVar 8) vNoPart (vPart (vCallN g_mixed (vCons (vOp vIxR (vVar 1) (vC (.int 0))) (vCons (vC (.int 1)) (vCons (vF1 vLen (vVar 8)) vNil)))))))
 (vSeq (vSetO 5 (vF1 vList (vVar 8)))
 (vIfS (vNotT (vBl (vVar 7)))
  (vSetO 5 (vF1 vList (vSlice (vVar 8) (vPart (vF1 vLen (vVar 6))) vNoPart)))
  vNext))))
  vNext)
 (vSeq (vFor (vItems (vSlice (vVar 1) (vPart (vC (.int 1))) vNoPart)) (vgName 9)
  (vSeq (vSet 10 (vCallN g_mixed (vCons (vVar 9) (vCons (vC (.int 3)) (vCons (vC (.int 8)) vNil)))))
 (vSeq (vIfS (vBl (vOp vLt (vVar 10) (vC (.int 3))))
  (vAppend 5 (vCallN g_name_by (vCons (vVar 2) (vCons (vCallN g_mixed (vCons (vVar 9) (vCons (vC (.int 1)) (vCons (vVar 3) vNil)))) vNil))))
  vNext)
 (vSeq (vIfS (vOrT (vBl (vOp vEq (vVar 10) (vC (.int 3)))) (vBl (vOp vEq (vVar 10) (vC (.int 4)))))
  (vAppend 5 (vOp vIxR (vTup (vCons (vC (.str ("." : Str))) (vCons (vC (.str (".." : Str))) vNil))) (vOp vSub (vVar 10) (vC (.int 3)))))
  vNext)
 (vIfS (vBl (vOp vEq (vVar 10) (vC (.int 5))))
  (vInsert 5 (vCons (vCallN g_mixed (vCons (vVar 9) (vCons (vC (.int 4)) (vCons (vOp vAdd (vF1 vLen (vVar 5)) (vC (.int 1))) vNil)))) (vCons (vC (.str ("." : Str))) vNil)))
  vNext)))))
 (vFrz 5 (vRet (vTup (vCons (vVar 6) (vCons (vVar 7) (vCons (vVar 5) vNil)))))))))))))
abbrev N_aim_by:List Str:=["_law_things","_law_cells_here","_law_stem","_law_wide","_law_ways","_law_words","_law_at","_law_rooted","_law_way","_law_cell","_law_kind"]
theorem w_aim_by:∀ ds Q,g_aim_by ds Q→b_aim_by (En Q) (startD N_aim_by ds):=by
 rintro ds Q ⟨rs,c,cs,st,rfl,H,hlen,hcs,h⟩
 have mx:∀ (c k n:Int) (Y:R→Prop),0≤k→0 < n→(∀ i,0≤i→i < n→Y (.val (.int i)))→g_mixed [.int c,.int k,.int n] Y:=fun c k n Y hk hn y=>⟨c,k,n,rfl,hk,hn,fun i h0 h1 _=>y i h0 h1⟩
 have nb:∀ (i:Int) (Y:R→Prop),0≤i→(∀ z:Str,nmB z=true→Y (.val (.str z)))→g_name_by [.int st,.int i] Y:=fun i Y hi y=>⟨st,i,rfl,hi,y⟩
 have ek:List.map (fun w=>D.tup (List.map D.str w)) (List.map (fun x=>x.fst) (List.map prR rs))=(rs.map (·.1)).map wayD:=by
  rw [ways_pr]
  rfl
 refine v_seq ?_
 dsimp! only [b_aim_by]
 have w0:=Int.emod_nonneg (st / 5) (show (7:Int)≠0 by decide)
 generalize hwd:2+st / 5 % 7=wide
 have w1:0 < wide:=by omega
 refine v_cut (fun τ=>τ=[some (.val (dictD (rs.map prR))),some (.val (.lst ((c :: cs).map D.int))),some (.val (.int st)),some (.val (.int wide)),some (.val (.lst ((rs.map (·.1)).map wayD))),none,none,none,none,none,none]) ?_ fun nx hnx=>?now
 case now =>
  dsimp! only [dictD]
  rw [ek]
  exact hnx _ rfl
 rintro τ rfl
 refine v_seq ?_
 dsimp! only [true_and]
 refine v_seq ?_
 dsimp! only [true_and]
 refine v_cut (fun τ=>∃ r:Bool,τ=[some (.val (dictD (rs.map prR))),some (.val (.lst ((c :: cs).map D.int))),some (.val (.int st)),some (.val (.int wide)),some (.val (.lst ((rs.map (·.1)).map wayD))),some (.own (.lst [])),some (.val (wayD [])),some (.val (.bl r)),none,none,none]) ?_ fun nx hnx=>?now
 case now =>
  dsimp! only [List.map_cons]
  refine mx _ _ _ _ (by decide) (by decide) fun k _ _=>?_
  dsimp! only [true_and]
  exact hnx _ ⟨_,rfl⟩
 rintro τ ⟨r,rfl⟩
 refine v_cut (fun τ=>∃ (w zs:List Str) (k8:Option R),look rs w=some (mFolder,tEmpty)∧Wy14 w∧zs.length≤12∧(∀ z∈zs,wdB z=true)∧τ=[some (.val (dictD (rs.map prR))),some (.val (.lst ((c :: cs).map D.int))),some (.val (.int st)),some (.val (.int wide)),some (.val (.lst ((rs.map (·.1)).map wayD))),some (.own (.lst (zs.map D.str))),some (.val (wayD w)),some (.val (.bl r)),k8,none,none]) ?_ fun nx hnx=>?now
 case now =>
  refine v_if (fun b=>b=true→0 < rs.length) (fun Y y=>?t1) (fun hb=>?y1) fun hb=>?n1
  case t1 =>
   dsimp! only [true_and]
   refine y _ fun q=>?_
   have:=of_decide_eq_true q
   omega
  case n1=>exact hnx _ ⟨[],[],none,rfl,⟨by decide,fun z m=>(by cases m)⟩,by decide,fun z m=>(by cases m),rfl⟩
  case y1 =>
   have hpos:=hb rfl
   refine v_cut (fun τ=>∃ q:Row,q∈rs∧τ=[some (.val (dictD (rs.map prR))),some (.val (.lst ((c :: cs).map D.int))),some (.val (.int st)),some (.val (.int wide)),some (.val (.lst ((rs.map (·.1)).map wayD))),some (.own (.lst [])),some (.val (wayD [])),some (.val (.bl r)),some (.val (wayD q.1)),none,none]) ?_ fun nx2 hnx2=>?now
   case now =>
    dsimp! only [List.map_cons]
    refine mx _ _ _ _ (by decide) (by omega) fun k k0 k1=>?_
    obtain ⟨v,hv,hv2⟩:=at_nat (xs:=rs.map (·.1)) (k:=k) k0 (by rw [List.length_map]; exact k1)
    obtain ⟨q,mq,rfl⟩:=List.mem_map.mp (List.mem_of_getElem? hv2)
    dsimp! only [true_and]
    exact ⟨wayD q.1,by rw [atI_map,hv]; rfl,hnx2 _ ⟨q,mq,rfl⟩⟩
   rintro τ ⟨q,mq,rfl⟩
   have W:=H.wy q mq
   have W1:=W.1
   have hq0:0 < q.1.length:=List.length_pos_iff.mpr (H.ne q mq)
   refine v_cut (fun τ=>∃ k:Nat,k < q.1.length∧τ=[some (.val (dictD (rs.map prR))),some (.val (.lst ((c :: cs).map D.int))),some (.val (.int st)),some (.val (.int wide)),some (.val (.lst ((rs.map (·.1)).map wayD))),some (.own (.lst [])),some (.val (wayD (q.1.take k))),some (.val (.bl r)),some (.val (wayD q.1)),none,none]) ?_ fun nx2 hnx2=>?now
   case now =>
    dsimp! only [List.map_cons,wayD]
    refine mx _ _ _ _ (by decide) (by omega) fun k k0 k1=>?_
    obtain ⟨k,rfl⟩:=Int.eq_ofNat_of_zero_le k0
    dsimp! only [true_and]
    rw [cutL_take]
    exact hnx2 _ ⟨k,by omega,rfl⟩
   rintro τ ⟨k,hk,rfl⟩
   have lu:=hall_above H (List.Perm.refl rs) mq hk
   have ww:=look_way (hall_ft H hlen (List.Perm.refl rs)) lu
   have tl:(q.1.take k).length=k:=by rw [List.length_take]; omega
   refine v_seq ?_
   dsimp! only [wayD]
   have fin:=fun (zs:List Str) (hz1:zs.length≤12) (hz2:∀ z∈zs,wdB z=true)=>hnx _ ⟨q.1.take k,zs,some (.val (wayD q.1)),lu,ww,hz1,hz2,rfl⟩
   cases r
   ·refine iteT ?_
    rw [tl,cutL_drop]
    exact fin (q.1.drop k) (by rw [List.length_drop]; omega) fun z mz=>nm_wd (W.2 z (List.mem_of_mem_drop mz))
   ·exact iteF (fin q.1 W.1 fun z mz=>nm_wd (W.2 z mz))
 rintro τ ⟨w,zs,k8,lw,ww,hzl,hzw,rfl⟩
 refine v_cut (fun τ=>∃ (zs:List Str) (a b:Option R),zs.length≤24∧(∀ z∈zs,wdB z=true)∧τ=[some (.val (dictD (rs.map prR))),some (.val (.lst ((c :: cs).map D.int))),some (.val (.int st)),some (.val (.int wide)),some (.val (.lst ((rs.map (·.1)).map wayD))),some (.own (.lst (zs.map D.str))),some (.val (wayD w)),some (.val (.bl r)),k8,a,b]) ?_ fun nx hnx=>?now
 case now =>
  dsimp! only [true_and]
  have ec:cutL (D.int c :: cs.map D.int) (some 1) none=cs.map D.int:=by rw [show (some 1:Option Int)=some ((1:Nat):Int) from rfl,cutL_drop]; rfl
  rw [ec]
  refine for_map (fun i τ=>∃ (zs:List Str) (a b:Option R),zs.length≤12+3 * i∧(∀ z∈zs,wdB z=true)∧τ=[some (.val (dictD (rs.map prR))),some (.val (.lst ((c :: cs).map D.int))),some (.val (.int st)),some (.val (.int wide)),some (.val (.lst ((rs.map (·.1)).map wayD))),some (.own (.lst (zs.map D.str))),some (.val (wayD w)),some (.val (.bl r)),k8,a,b]) ⟨zs,none,none,hzl,hzw,rfl⟩ ?_ ?_
  ·rintro i d τ hd ⟨zs,a,b,hz1,hz2,rfl⟩ nx2 hnx2
   have hi:=(List.getElem?_eq_some_iff.mp hd).1
   refine v_cut (fun τ=>∃ k:Int,0≤k∧τ=[some (.val (dictD (rs.map prR))),some (.val (.lst ((c :: cs).map D.int))),some (.val (.int st)),some (.val (.int wide)),some (.val (.lst ((rs.map (·.1)).map wayD))),some (.own (.lst (zs.map D.str))),some (.val (wayD w)),some (.val (.bl r)),k8,some (.val (.int d)),some (.val (.int k))]) ?_ fun nx3 hnx3=>?now
   case now =>
    dsimp! only [true_and]
    refine mx _ _ _ _ (by decide) (by decide) fun k k0 _=>?_
    dsimp! only [true_and]
    exact hnx3 _ ⟨k,k0,rfl⟩
   rintro τ ⟨k,k0,rfl⟩
   have more:∀ (zs:List Str) (z:Str),(∀ y∈zs,wdB y=true)→wdB z=true→∀ y∈zs++[z],wdB y=true:=fun zs z h1 h2 y my=>(List.mem_append.mp my).elim (h1 y) fun q=>by rw [List.mem_singleton.mp q]; exact h2
   refine v_cut (fun τ=>∃ zs:List Str,zs.length≤12+3 * i+1∧(∀ z∈zs,wdB z=true)∧τ=[some (.val (dictD (rs.map prR))),some (.val (.lst ((c :: cs).map D.int))),some (.val (.int st)),some (.val (.int wide)),some (.val (.lst ((rs.map (·.1)).map wayD))),some (.own (.lst (zs.map D.str))),some (.val (wayD w)),some (.val (.bl r)),k8,some (.val (.int d)),some (.val (.int k))]) ?_ fun nx3 hnx3=>?now
   case now =>
    refine v_if (fun _=>True) (fun Y y=>?t1) (fun hb=>?y1) fun hb=>?n1
    case t1 =>
     dsimp! only [true_and]
     exact y _ trivial
    case n1=>exact hnx3 _ ⟨zs,by omega,hz2,rfl⟩
    case y1 =>
     dsimp! only [true_and]
     refine mx _ _ _ _ (by decide) w1 fun j j0 _=>?_
     dsimp! only [true_and]
     refine nb _ _ j0 fun z hz=>?_
     dsimp! only [true_and]
     exact ⟨Nat.lt_of_lt_of_le (show _ < 1000 by omega) line1000,hnx3 _ ⟨zs++[z],by rw [List.length_append,List.length_singleton]; omega,more zs z hz2 (nm_wd hz),by rw [List.map_append]; rfl⟩⟩
   clear hz1 hz2
   rintro τ ⟨zs,hz1,hz2,rfl⟩
   refine v_cut (fun τ=>∃ zs:List Str,zs.length≤12+3 * i+2∧(∀ z∈zs,wdB z=true)∧τ=[some (.val (dictD (rs.map prR))),some (.val (.lst ((c :: cs).map D.int))),some (.val (.int st)),some (.val (.int wide)),some (.val (.lst ((rs.map (·.1)).map wayD))),some (.own (.lst (zs.map D.str))),some (.val (wayD w)),some (.val (.bl r)),k8,some (.val (.int d)),some (.val (.int k))]) ?_ fun nx3 hnx3=>?now
   case now =>
    refine v_if (fun b=>b=true→k=3∨k=4) (fun Y y=>?t1) (fun hb=>?y1) fun hb=>?n1
    case t1 =>
     dsimp! only [true_and]
     by_cases e3:k=3
     ·rw [if_pos (decide_eq_true e3)]
      exact y _ fun _=>.inl e3
     ·rw [if_neg (by rw [decide_eq_false e3]; decide)]
      exact y _ fun q=>.inr (of_decide_eq_true q)
    case n1=>exact hnx3 _ ⟨zs,by omega,hz2,rfl⟩
    case y1 =>
     have big:(zs.map D.str).length < sizeLine:=by rw [List.length_map]; exact Nat.lt_of_lt_of_le (show _ < 1000 by omega) line1000
     rcases hb rfl with e | e
     ·subst e
      dsimp! only [true_and]
      exact ⟨by decide,_,rfl,by simpa using big,hnx3 _ ⟨zs++[Str.ofString "."],by rw [List.length_append,List.length_singleton]; omega,more zs _ hz2 wd_dot,by rw [List.map_append]; rfl⟩⟩
     ·subst e
      dsimp! only [true_and]
      exact ⟨by decide,_,rfl,by simpa using big,hnx3 _ ⟨zs++[Str.ofString ".."],by rw [List.length_append,List.length_singleton]; omega,more zs _ hz2 wd_dots,by rw [List.map_append]; rfl⟩⟩
   clear hz1 hz2
   rintro τ ⟨zs,hz1,hz2,rfl⟩
   refine v_if (fun _=>True) (fun Y y=>?t1) (fun hb=>?y1) fun hb=>?n1
   case t1 =>
    dsimp! only [true_and]
    exact y _ trivial
   case n1=>exact hnx2 _ ⟨zs,_,_,by omega,hz2,rfl⟩
   case y1 =>
    dsimp! only [true_and]
    refine mx _ _ _ _ (by decide) (by omega) fun j j0 j1=>?_
    dsimp! only [true_and]
    refine ⟨j0,by omega,by omega,Nat.lt_of_lt_of_le (show _ < 1000 by omega) line1000,hnx2 _ ⟨zs.take j.toNat++Str.ofString "." :: zs.drop j.toNat,_,_,?_,fun y my=>?_,by rw [List.map_append]; rfl⟩⟩
    ·rw [List.length_append,List.length_cons,List.length_take,List.length_drop]
     omega
    ·rcases List.mem_append.mp my with q | q
     ·exact hz2 y (List.mem_of_mem_take q)
     ·rcases List.mem_cons.mp q with q | q
      ·rw [q]
       exact wd_dot
      ·exact hz2 y (List.mem_of_mem_drop q)
  ·rintro τ ⟨zs,a,b,hz1,hz2,rfl⟩
   exact hnx _ ⟨zs,a,b,by omega,hz2,rfl⟩
 rintro τ ⟨zs,a,b,hz1,hz2,rfl⟩
 dsimp! only [true_and]
 exact ⟨by decide,h w r zs lw ww hz1 hz2⟩
def b_dug:TVS:=(vSeq (vFor (vRng2 (vF1 vLen (vVar 1)) (vVar 2)) (vgName 4)
  (vSeq (vSet 5 (vOp vAdd (vVar 1) (vTup (vCons (vCallN g_name_by (vCons (vVar 3) (vCons (vOp vAdd (vC (.int 11)) (vOp vMod (vVar 4) (vC (.int 9)))) vNil))) vNil))))
 (vSeq (vIfS (vAndT (vBl (vDIn id (vVar 5) (vVarIT 0))) (vBl (vOp vNeD (vOp vIxR (vDGet (vVarIT 0) (vVar 5)) (vC (.int 0))) (vC (.str ("folder" : Str))))))
  (vRetI (vVar 1))
  vNext)
 (vSeq (vDPutI 0 (vVar 5) (vTup (vCons (vC (.str ("folder" : Str))) (vCons (vC (.str ("" : Str))) vNil))))
 (vSet 1 (vVar 5))))))
 (vRetI (vVar 1)))
abbrev N_dug:List Str:=["_law_things","_law_over","_law_deep","_law_stem","_law_k","_law_way"]
theorem ins_same {rs:List Row} (nd:(rs.map (·.1)).Nodup) {w:List Str} {m t:Str} (h:(w,m,t)∈rs):insP (rs.map prR) w (.tup [.str m,.str t])=rs.map prR:=by
 unfold insP
 rw [if_pos (by rw [ways_pr]; exact List.mem_map.mpr ⟨_,h,rfl⟩),List.map_map]
 refine List.map_congr_left fun r mr=>?_
 show (if (prR r).1=w then ((prR r).1,D.tup [.str m,.str t]) else prR r)=prR r
 by_cases e:(prR r).1=w
 ·rw [if_pos e]
  have e1:=find_one nd mr
  have e2:=find_one nd h
  rw [show r.1=w from e] at e1
  rw [show ((w,m,t):Row).1=w from rfl,e1] at e2
  cases e2
  rfl
 ·rw [if_neg e]
theorem w_dug:∀ ds ks ps c Q,g_dug ds ks ps Q→b_dug (EnJ 0 c Q) (startJ N_dug 0 c ds ks ps):=by
 rintro ds ks ps c Q ⟨rs0,over0,deep,st,rfl,rfl,rfl,H0,ho0,ol0,hd0,hd,hl0,h⟩
 suffices go:∀ E:VEnds,(∀ τ r,E.ro τ r=ioOutT 0 c τ (Q r))→b_dug E (startJ N_dug 0 c [wayD over0,.int deep,.int st] ((rs0.map prR).map (·.1)) ((rs0.map prR).map (·.2))) from go _ fun _ _=>rfl
 intro E hE
 have nb:∀ (i:Int) (Y:R→Prop),0≤i→(∀ z:Str,nmB z=true→Y (.val (.str z)))→g_name_by [.int st,.int i] Y:=fun i Y hi y=>⟨st,i,rfl,hi,y⟩
 refine v_cut (fun τ=>∃ (rs:List Row) (o:List Str) (a b:Option R),Hall rs∧rs.length≤rs0.length+(deep - over0.length).toNat∧(o=[]∨(o,mFolder,tEmpty)∈rs)∧(∀ r∈rs0,r∈rs)∧τ=[some (.own (.ioT c ((rs.map prR).map (·.1)) ((rs.map prR).map (·.2)))),some (.val (wayD o)),some (.val (.int deep)),some (.val (.int st)),a,b]) ?_ fun nx hnx=>?now
 ·rintro τ ⟨rs,o,a,b,H,l,ho,sub,rfl⟩
  dsimp! only [true_and]
  rw [hE]
  exact ⟨rfl,h rs o H l ho sub⟩
 ·dsimp! only [wayD]
  refine ⟨by omega,by omega,by omega,by omega,for_rng (fun i τ=>∃ (rs:List Row) (o:List Str) (a b:Option R),Hall rs∧rs.length≤rs0.length+i∧o.length=over0.length+i∧(o=[]∨(o,mFolder,tEmpty)∈rs)∧(∀ r∈rs0,r∈rs)∧τ=[some (.own (.ioT c ((rs.map prR).map (·.1)) ((rs.map prR).map (·.2)))),some (.val (wayD o)),some (.val (.int deep)),some (.val (.int st)),a,b]) ⟨rs0,over0,none,none,H0,Nat.le_refl _,rfl,ho0,fun r mr=>mr,rfl⟩ ?_ fun τ ⟨rs,o,a,b,H,l,_,ho,sub,e⟩=>hnx _ ⟨rs,o,a,b,H,l,ho,sub,e⟩⟩
  rintro i τ hi ⟨rs,o,a,b,H,l,ol,ho,sub,rfl⟩ nx2 hnx2
  have oW:∀ z∈o,nmB z=true:=by
   rcases ho with rfl | ho
   ·intro z mz; cases mz
   ·exact (H.wy _ ho).2
  have mod0:0≤((over0.length:Int)+i) % 9:=Int.emod_nonneg _ (by decide)
  dsimp! only [true_and]
  refine v_cut (fun τ=>∃ z:Str,nmB z=true∧∃ a,τ=[some (.own (.ioT c ((rs.map prR).map (·.1)) ((rs.map prR).map (·.2)))),some (.val (wayD o)),some (.val (.int deep)),some (.val (.int st)),a,some (.val (wayD (o++[z])))]) ?_ ?nwa
  case nwa =>
   intro nx3 hnx3
   dsimp! only [wayD]
   refine nb _ _ (by omega) fun z hz=>?_
   dsimp! only [true_and]
   exact ⟨by decide,Nat.le_trans (show _≤1000 by omega) line1000,hnx3 _ ⟨z,hz,_,rfl⟩⟩
  rintro τ ⟨z,hz,a,rfl⟩
  have lz:(o++[z]).length=over0.length+i+1:=by rw [List.length_append,List.length_singleton,ol]
  have nez:("" : Str)∉o++[z]:=fun q=>(List.mem_append.mp q).elim (fun q=>wd_ne (nm_wd (oW _ q)) rfl) fun q=>wd_ne (nm_wd (List.mem_singleton.mp q ▸ hz)) rfl
  have z0:o++[z]≠[]:=by simp
  refine v_ifn (fun cc=>cc=false→o++[z]∉rs.map (·.1)∨(o++[z],mFolder,tEmpty)∈rs) ?t1 ?y1 ?n1
  case t1 =>
   intro Y y
   dsimp! only [wayD]
   refine ⟨nez,?_⟩
   rw [lkD_pairs,lkP_look z0]
   cases e:look rs (o++[z]) with
   | none =>
    refine iteF (y _ fun _=>.inl fun q=>?_)
    obtain ⟨r,mr,er⟩:=List.mem_map.mp q
    have:=look_in H.nd mr (H.ne r mr)
    rw [er,e] at this
    cases this
   | some mt =>
    refine iteT ⟨nez,thD mt,rfl,?_⟩
    dsimp! only [thD]
    refine y _ fun q=>.inr ?_
    have em:mt.1=mFolder:=by
     by_cases q2:mt.1=mFolder
     ·exact q2
     ·rw [show decide (mt.1=Str.ofString "folder")=false from decide_eq_false q2] at q
      cases q
    have mr:=look_row e z0
    rcases H.kd _ mr with q2 | q2 | q2
    ·rw [show mt=(mFolder,tEmpty) from q2] at mr
     exact mr
    ·rw [show mt.1=mFile from q2] at em
     exact absurd em (by decide +kernel)
    ·rw [show mt.1=mLink from q2.1] at em
     exact absurd em (by decide +kernel)
  case y1 =>
   intro hb
   dsimp! only [true_and]
   rw [hE]
   exact ⟨rfl,h rs o H (by omega) ho sub⟩
  case n1 =>
   intro hb
   have key:∃ rs':List Row,Hall rs'∧rs'.length≤rs.length+1∧(o++[z],mFolder,tEmpty)∈rs'∧(∀ r∈rs,r∈rs')∧insP (rs.map prR) (o++[z]) (.tup [.str mFolder,.str tEmpty])=rs'.map prR:=by
    rcases hb rfl with q | q
    ·exact ⟨_,H.add ho hz (by omega) q (.inl rfl),by simp,by simp,fun r mr=>List.mem_append_left _ mr,ins_new q _ _⟩
    ·exact ⟨rs,H,by omega,q,fun r mr=>mr,ins_same H.nd q⟩
   obtain ⟨rs',H',l',m',sub',e'⟩:=key
   refine v_cut (fun τ=>∃ a,τ=[some (.own (.ioT c ((rs'.map prR).map (·.1)) ((rs'.map prR).map (·.2)))),some (.val (wayD o)),some (.val (.int deep)),some (.val (.int st)),a,some (.val (wayD (o++[z])))]) ?_ ?nwb
   case nwb =>
    intro nx3 hnx3
    dsimp! only [wayD]
    refine ⟨by decide,nez,Nat.lt_of_lt_of_le (show _ < 1000 by omega) line1000,?_⟩
    have e2:insP (rs.map prR) (o++[z]) (D.tup [D.str (Str.ofString "folder"),D.str (Str.ofString "")])=rs'.map prR:=e'
    rw [putD_pairs,e2]
    exact hnx3 _ ⟨_,rfl⟩
   rintro τ ⟨a,rfl⟩
   dsimp! only [true_and]
   exact hnx2 _ ⟨rs',o++[z],_,_,H',by omega,by omega,.inr m',fun r mr=>sub' r (sub r mr),rfl⟩
def b_l_walked:TVS:=(vTry (vRet (vTup (vCons (vC (.str ("" : Str))) (vCons (vCall g_find_way (vCons (vVar 0) (vCons (vVar 1) (vCons (vVar 2) vNil)))) (vCons (vCall g_trail_of (vCons (vVar 0) (vCons (vVar 1) (vCons (vVar 2) vNil)))) vNil)))))
  (vhCons ["Missing"] ["NoWay","Astray","NotFolder"] (vRet (vTup (vCons (vC (.str ("Missing" : Str))) (vCons (vTup vNil) (vCons (vLst vNil) vNil))))) (vhCons ["NotFolder"] ["NoWay","Astray","Missing"] (vRet (vTup (vCons (vC (.str ("NotFolder" : Str))) (vCons (vTup vNil) (vCons (vLst vNil) vNil))))) (vhCons ["Astray"] ["NoWay","Missing","NotFolder"] (vRet (vTup (vCons (vC (.str ("Astray" : Str))) (vCons (vTup vNil) (vCons (vLst vNil) vNil))))) vhNil))))
abbrev N_l_walked:List Str:=["_law_tree","_law_at","_law_text"]
theorem w_l_walked:∀ ds Q,g_l_walked ds Q→b_l_walked (En Q) (startD N_l_walked ds):=by
 rintro ds Q ⟨ts,w,t,rfl,F,hw,ht,⟨b,zs,hz⟩,h⟩
 have l0:∀ Y:R→Prop,(∀ res,TextTo ts w t res→Y (wayR res))→g_find_way [rowsL ts,wayD w,.str t] Y:=fun Y y=>⟨ts,w,t,rfl,F,hw,ht,y⟩
 have l1:∀ Y:R→Prop,(∀ res,TextTo ts w t res→Y (trR res))→g_trail_of [rowsL ts,wayD w,.str t] Y:=fun Y y=>⟨ts,w,t,rfl,F,hw,ht,y⟩
 have hx:∀ (n:Str) (τ':VSt),xc3 n→Q (.val (wkD (.exc n)))→vhCons ["Missing"] ["NoWay","Astray","NotFolder"] (vRet (vTup (vCons (vC (.str ("Missing" : Str))) (vCons (vTup vNil) (vCons (vLst vNil) vNil))))) (vhCons ["NotFolder"] ["NoWay","Astray","Missing"] (vRet (vTup (vCons (vC (.str ("NotFolder" : Str))) (vCons (vTup vNil) (vCons (vLst vNil) vNil))))) (vhCons ["Astray"] ["NoWay","Missing","NotFolder"] (vRet (vTup (vCons (vC (.str ("Astray" : Str))) (vCons (vTup vNil) (vCons (vLst vNil) vNil))))) vhNil)) n (En Q) τ':=fun n τ' x3 hq=>by
  unfold wkD at hq
  simp only [xc3,List.mem_cons,List.not_mem_nil,or_false] at x3
  rcases x3 with e | e | e
  ·subst e
   refine .inl ⟨by decide,?_⟩
   dsimp! only [true_and]
   exact ⟨by decide,hq⟩
  ·subst e
   refine .inr ⟨by decide,.inl ⟨by decide,?_⟩⟩
   dsimp! only [true_and]
   exact ⟨by decide,hq⟩
  ·subst e
   refine .inr ⟨by decide,.inr ⟨by decide,.inl ⟨by decide,?_⟩⟩⟩
   dsimp! only [true_and]
   exact ⟨by decide,hq⟩
 dsimp! only [b_l_walked]
 refine l0 _ fun res k=>?_
 have hq:=h res k
 cases res with
 | exc n =>
  have x3:=(walk_end (text_one hz k) (by decide)).1 n rfl
  dsimp! only [wayR]
  exact hx n _ x3 hq
 | ok tr v f =>
  dsimp! only [wayR]
  refine l1 _ fun res2 k2=>?_
  have e:=text_same k k2
  subst e
  dsimp! only [trR]
  exact ⟨by decide,hq⟩
def b_real:TVS:=(vSeq (vIfS (vOrT (vNotT (vBl (vIsin .tuple (vVar 2)))) (vAndT (vBl (vOp vNeD (vVar 2) (vTup vNil))) (vOrT (vBl (vDIn (!·) (vVar 2) (vVar 0))) (vBl (vOp vEq (vOp vIxR (vDGet (vVar 0) (vVar 2)) (vC (.int 0))) (vC (.str ("link" : Str))))))))
  (vRet (vC (.bl false)))
  vNext)
 (vRet (vOp vEq (vCallN g_find_way (vCons (vVar 1) (vCons (vTup vNil) (vCons (vOp vAdd (vC (.str ("/" : Str))) (vJoin (vC (.str ("/" : Str))) (vVar 2))) vNil)))) (vVar 2))))
abbrev N_real:List Str:=["_law_things","_law_tree","_law_way"]
theorem w_real:∀ ds Q,g_real ds Q→b_real (En Q) (startD N_real ds):=by
 rintro ds Q ⟨rs,ts,v,rfl,H,hl,hp,⟨mt,hm,nl⟩,h⟩
 have HT:=H.perm hp
 have F:=hall_ft HT (by rw [hp.length_eq]; exact hl) (List.Perm.refl ts)
 have W:=look_way F (by rw [look_perm H.nd hp]; exact hm)
 have W1:=W.1
 have vn:∀ z∈v,nmB z=true:=by
  by_cases e:v=[]
  ·rw [e]; simp
  ·exact (H.wy _ (look_mem e hm)).2
 have vw:∀ z∈v,wdB z=true:=fun z m=>nm_wd (vn z m)
 have s1:=sum_wd vw
 have s3:=glue_wd vw
 have s4:(Str.ofString "/").length=1:=one_slash
 have wr:=words_root (ws:=v) (by omega) vw
 have l0:∀ Y:R→Prop,Y (.val (wayD v))→g_find_way [rowsL ts,.tup [],.str (Str.ofString "/" ++ glue (Str.ofString "/") v)] Y:=fun Y y=>⟨ts,[],_,rfl,F,⟨by decide,by simp⟩,by rw [PySem.Str.length_append,s4]; show 1+(glue "/" v).length≤5000; omega,fun res k=>by
  have go:=text_one wr k
  have:∃ tr,res=.ok tr v 0:=by
   by_cases e:v=[]
   ·subst e
    cases go
    exact ⟨_,rfl⟩
   ·have m:=look_mem e hm
    have:=hall_text H hp (r:=(v,mt)) m nl (k:=0) (List.length_pos_iff.mpr e) (res:=res) (f:=0) (tr:=[]) (by rw [List.take_zero,List.drop_zero]; exact go)
    exact this
  obtain ⟨tr,rfl⟩:=this
  exact y⟩
 refine v_ifn (fun c=>c=false) (fun Y y=>?t1) (fun hb=>by cases hb) fun _=>?n1
 case t1 =>
  have e0:=eqW v []
  rw [List.map_nil] at e0
  dsimp! only [wayD,dictD]
  refine ⟨cmpW v [],depW v,?_⟩
  simp only [e0]
  by_cases e:v=[]
  ·rw [decide_eq_true e]
   exact iteF (y _ rfl)
  ·have lkv:lkP (rs.map prR) v=some (thD mt):=by rw [lkP_look e,hm]; rfl
   have vne:("" : Str)∉v:=fun m=>wd_ne (vw _ m) rfl
   rw [if_pos (by rw [decide_eq_false e]; rfl)]
   refine ⟨vne,?_⟩
   rw [lkD_pairs,lkv]
   refine iteF ⟨vne,thD mt,rfl,?_⟩
   dsimp! only [thD]
   exact y _ (decide_eq_false nl)
 case n1 =>
  dsimp! only [wayD]
  refine ⟨v,.inr rfl,by rw [s4]; omega,Nat.le_trans (show _≤1000 by rw [s4]; show 1+(glue "/" v).length≤1000; omega) line1000,l0 _ ?_⟩
  dsimp! only [true_and]
  refine ⟨cmpW v v,depW v,?_⟩
  show Q (.val (.bl (eqD (wayD v) (wayD v))))
  rw [eqD_refl]
  exact h
def b_meet:TVS:=(vSeq (vIfS (vBl (vOp vEq (vOp vIxR (vVar 1) (vC (.int 0))) (vC (.str ("" : Str)))))
  (vSeq (vIfS (vBl (vOp vGt (vOp vAdd (vCallN g_links (vCons (vOp vIxR (vVar 0) (vC (.int 2))) vNil)) (vCallN g_links (vCons (vOp vIxR (vVar 1) (vC (.int 2))) vNil))) (vC (.int 8))))
  (vRet (vOp vEq (vOp vIxR (vVar 2) (vC (.int 0))) (vC (.str ("Astray" : Str)))))
  vNext)
 (vRet (vAndE (vOp vEq (vOp vIxR (vVar 2) (vC (.int 0))) (vC (.str ("" : Str)))) (vAndE (vOp vEq (vOp vIxR (vVar 2) (vC (.int 1))) (vOp vIxR (vVar 1) (vC (.int 1)))) (vOp vEq (vOp vIxR (vVar 2) (vC (.int 2))) (vOp vAdd (vOp vIxR (vVar 0) (vC (.int 2))) (vOp vIxR (vVar 1) (vC (.int 2)))))))))
  vNext)
 (vSeq (vIfS (vBl (vOp vEq (vCallN g_links (vCons (vOp vIxR (vVar 0) (vC (.int 2))) vNil)) (vC (.int 0))))
  (vRet (vOp vEq (vOp vIxR (vVar 2) (vC (.int 0))) (vOp vIxR (vVar 1) (vC (.int 0)))))
  vNext)
 (vRet (vOrE (vOp vEq (vOp vIxR (vVar 2) (vC (.int 0))) (vOp vIxR (vVar 1) (vC (.int 0)))) (vOp vEq (vOp vIxR (vVar 2) (vC (.int 0))) (vC (.str ("Astray" : Str))))))))
abbrev N_meet:List Str:=["_law_first","_law_second","_law_whole"]
theorem w_meet:∀ ds Q,g_meet ds Q→b_meet (En Q) (startD N_meet ds):=by
 rintro ds Q ⟨a,b,c,rfl,M,ta,tb,h⟩
 have lk:∀ (tr:List (List Str × Str × List Str)) (Y:R→Prop),(∀ t∈tr,t.1.length≤14)→Y (.val (.int (lnkN tr)))→g_links [.lst (tr.map trD)] Y:=fun tr Y ht y=>⟨tr,rfl,ht,y⟩
 cases M with
 | @far tr v k tr2 v2 k2 h1 h2 hk =>
  obtain ⟨ta1,ta2,ta3⟩:=ta
  obtain ⟨tb1,tb2,tb3⟩:=tb
  refine v_ifn (fun c=>c=true) (fun Y y=>?t1) (fun _=>?y1) fun hb=>by cases hb
  case t1 =>
   dsimp! only [wkD]
   exact y _ rfl
  case y1 =>
   refine v_ifn (fun c=>c=true) (fun Y y=>?t2) (fun _=>?y2) fun hb=>by cases hb
   case t2 =>
    dsimp! only [wkD]
    refine lk tr _ ta1 ?_
    dsimp! only [true_and]
    refine lk tr2 _ tb1 ?_
    dsimp! only [true_and]
    exact y _ (decide_eq_true (by omega))
   case y2 =>
    dsimp! only [wkD]
    exact h
 | @near tr v k tr2 v2 k2 k3 h1 h2 hk =>
  obtain ⟨ta1,ta2,ta3⟩:=ta
  obtain ⟨tb1,tb2,tb3⟩:=tb
  refine v_ifn (fun c=>c=true) (fun Y y=>?t1) (fun _=>?y1) fun hb=>by cases hb
  case t1 =>
   dsimp! only [wkD]
   exact y _ rfl
  case y1 =>
   refine v_ifn (fun c=>c=false) (fun Y y=>?t2) (fun hb=>by cases hb) fun _=>?n2
   case t2 =>
    dsimp! only [wkD]
    refine lk tr _ ta1 ?_
    dsimp! only [true_and]
    refine lk tr2 _ tb1 ?_
    dsimp! only [true_and]
    exact y _ (decide_eq_false (by omega))
   case n2 =>
    dsimp! only [wkD,wayD]
    refine ⟨cmpW v2 v2,depW v2,?_⟩
    rw [eqD_refl,if_pos rfl]
    refine ⟨Nat.le_trans (show _≤1000 by omega) line1000,?_⟩
    rw [← List.map_append,eqD_refl]
    exact ⟨cmpTL _ _,depTL _,h⟩
 | @same tr v k n h1 hn =>
  obtain ⟨ta1,ta2,ta3⟩:=ta
  refine v_ifn (fun c=>c=false) (fun Y y=>?t3) (fun hb=>by cases hb) fun _=>?n3
  case t3 =>
   dsimp! only [wkD]
   exact y _ (decide_eq_false hn)
  case n3 =>
   refine v_ifn (fun _=>True) (fun Y y=>?t4) (fun _=>?y4) fun _=>?n4
   case t4 =>
    dsimp! only [wkD]
    refine lk tr _ ta1 ?_
    dsimp! only [true_and]
    exact y _ trivial
   case y4 =>
    dsimp! only [wkD]
    exact h
   case n4 =>
    dsimp! only [wkD]
    exact h
 | @lost tr v k n h1 h0 hn =>
  obtain ⟨ta1,ta2,ta3⟩:=ta
  refine v_ifn (fun c=>c=false) (fun Y y=>?t3) (fun hb=>by cases hb) fun _=>?n3
  case t3 =>
   dsimp! only [wkD]
   exact y _ (decide_eq_false hn)
  case n3 =>
   refine v_ifn (fun c=>c=false) (fun Y y=>?t4) (fun hb=>by cases hb) fun _=>?n4
   case t4 =>
    dsimp! only [wkD]
    refine lk tr _ ta1 ?_
    dsimp! only [true_and]
    exact y _ (decide_eq_false (by omega))
   case n4 =>
    dsimp! only [wkD]
    split
    ·exact h
    ·exact h
def b_spun:TVS:=(vSeq (vSet 3 (vTup (vCons (vCallN g_name_by (vCons (vVar 2) (vCons (vOp vAdd (vC (.int 20)) (vVar 1)) vNil))) vNil)))
 (vSeq (vIfS (vOrT (vBl (vOp vEq (vVar 1) (vC (.int 0)))) (vBl (vDIn id (vVar 3) (vVarIT 0))))
  (vRetI (vTup vNil))
  vNext)
 (vSeq (vDPutI 0 (vVar 3) (vTup (vCons (vC (.str ("link" : Str))) (vCons (vOp vIxR (vTup (vCons (vC (.str ("." : Str))) (vCons (vC (.str ("/" : Str))) (vCons (vC (.str ("./." : Str))) (vCons (vC (.str (".." : Str))) vNil))))) (vOp vSub (vVar 1) (vC (.int 1)))) vNil))))
 (vRetI (vVar 3)))))
abbrev N_spun:List Str:=["_law_things","_law_turn","_law_stem","_law_way"]
theorem w_spun:∀ ds ks ps c Q,g_spun ds ks ps Q→b_spun (EnJ 0 c Q) (startJ N_spun 0 c ds ks ps):=by
 rintro ds ks ps c Q ⟨rs,turn,st,rfl,rfl,rfl,H,rl,t0,t4,h⟩
 suffices go:∀ E:VEnds,(∀ τ r,E.ro τ r=ioOutT 0 c τ (Q r))→b_spun E (startJ N_spun 0 c [.int turn,.int st] ((rs.map prR).map (·.1)) ((rs.map prR).map (·.2))) from go _ fun _ _=>rfl
 intro E hE
 have nb:∀ (i:Int) (Y:R→Prop),0≤i→(∀ z:Str,nmB z=true→Y (.val (.str z)))→g_name_by [.int st,.int i] Y:=fun i Y hi y=>⟨st,i,rfl,hi,y⟩
 refine v_cut (fun τ=>∃ z:Str,nmB z=true∧τ=[some (.own (.ioT c ((rs.map prR).map (·.1)) ((rs.map prR).map (·.2)))),some (.val (.int turn)),some (.val (.int st)),some (.val (wayD [z]))]) ?_ ?nwa
 case nwa =>
  intro nx3 hnx3
  dsimp! only [true_and]
  refine nb _ _ (by omega) fun z hz=>?_
  dsimp! only [true_and]
  exact ⟨by decide,hnx3 _ ⟨z,hz,rfl⟩⟩
 rintro τ ⟨z,hz,rfl⟩
 have nez:("" : Str)∉[z]:=fun q=>wd_ne (nm_wd hz) (List.mem_singleton.mp q).symm
 refine v_ifn (fun cc=>cc=false→turn≠0∧[z]∉rs.map (·.1)) ?t1 ?y1 ?n1
 case t1 =>
  intro Y y
  dsimp! only [wayD]
  by_cases tn:turn=0
  ·rw [if_pos (decide_eq_true tn)]
   exact y _ fun q=>by cases q
  ·rw [if_neg (by rw [decide_eq_false tn]; decide)]
   refine ⟨[z],rfl,nez,?_⟩
   rw [lkD_pairs,lkP_look (by simp)]
   cases e:look rs [z] with
   | none=>exact y _ fun _=>⟨tn,fun q=>by
     obtain ⟨r,mr,er⟩:=List.mem_map.mp q
     have:=look_in H.nd mr (H.ne r mr)
     rw [er,e] at this
     cases this⟩
   | some mt=>exact y _ fun q=>by cases q
 case y1 =>
  intro _
  dsimp! only [true_and]
  rw [hE]
  exact ⟨rfl,h rs [] H (by omega) (by simp) (by simp)⟩
 case n1 =>
  intro hb
  obtain ⟨tn,nw⟩:=hb rfl
  have ix:∃ t:Str,atI [D.str (Str.ofString "."),D.str (Str.ofString "/"),D.str (Str.ofString "./."),D.str (Str.ofString "..")] (turn - 1)=some (.str t)∧t.length≤3000∧∃ b vs,wordsW t=some (b,vs):=by
   obtain rfl | rfl | rfl | rfl:turn=1∨turn=2∨turn=3∨turn=4:=by omega
   ·exact ⟨_,rfl,by decide +kernel,false,[Str.ofString "."],by decide +kernel⟩
   ·exact ⟨_,rfl,by decide +kernel,true,[],by decide +kernel⟩
   ·exact ⟨_,rfl,by decide +kernel,false,[Str.ofString ".",Str.ofString "."],by decide +kernel⟩
   ·exact ⟨_,rfl,by decide +kernel,false,[Str.ofString ".."],by decide +kernel⟩
  obtain ⟨t,et,tl,tw⟩:=ix
  have H2:Hall (rs++[([z],mLink,t)]):=H.add (f:=[]) (.inl rfl) hz (by show 1≤12; decide) nw (.inr (.inr ⟨rfl,tl,tw⟩))
  refine v_cut (fun τ=>τ=[some (.own (.ioT c (((rs++[([z],mLink,t)]).map prR).map (·.1)) (((rs++[([z],mLink,t)]).map prR).map (·.2)))),some (.val (.int turn)),some (.val (.int st)),some (.val (wayD [z]))]) ?_ ?nwb
  case nwb =>
   intro nx3 hnx3
   dsimp! only [wayD]
   refine ⟨by decide,_,et,by decide,[z],rfl,nez,Nat.lt_of_lt_of_le (show _ < 1000 by omega) line1000,?_⟩
   rw [putD_pairs,show D.tup [D.str (Str.ofString "link"),D.str t]=.tup [.str mLink,.str t] from rfl,ins_new nw]
   exact hnx3 _ rfl
  rintro τ rfl
  dsimp! only [true_and]
  rw [hE]
  exact ⟨rfl,h _ [z] H2 (by rw [List.length_append,List.length_singleton]; omega) (by show 1≤1; decide) (fun y m=>by rw [List.mem_singleton.mp m]; exact hz)⟩
def b_behind:TVS:=(vSeq (vSetO 4 (vLst vNil))
 (vLendJ 0 5 (vComp (vItemsF 0) (vgName 7) (vAndT (vBl (vOp vGt (vF1 vLen (vVar 7)) (vF1 vLen (vVar 1)))) (vBl (vOp vEq (vSlice (vVar 7) vNoPart (vPart (vF1 vLen (vVar 1)))) (vVar 1)))) (vVar 7) 1)
 (vSeq (vIfS (vBl (vOp vGt (vF1 vLen (vVar 5)) (vC (.int 0))))
  (vSetO 4 (vF1 vList (vSlice (vOp vIxR (vVar 5) (vCallN g_mixed (vCons (vOp vIxR (vVar 2) (vC (.int 0))) (vCons (vC (.int 0)) (vCons (vF1 vLen (vVar 5)) vNil))))) (vPart (vF1 vLen (vVar 1))) vNoPart)))
  vNext)
 (vSeq (vFor (vItems (vSlice (vVar 2) (vPart (vC (.int 1))) vNoPart)) (vgName 6)
  (vIfS (vBl (vOp vEq (vCallN g_mixed (vCons (vVar 6) (vCons (vC (.int 3)) (vCons (vC (.int 2)) vNil)))) (vC (.int 0))))
  (vAppend 4 (vOp vIxR (vTup (vCons (vC (.str ("." : Str))) (vCons (vC (.str (".." : Str))) vNil))) (vCallN g_mixed (vCons (vVar 6) (vCons (vC (.int 2)) (vCons (vC (.int 2)) vNil))))))
  (vAppend 4 (vCallN g_name_by (vCons (vVar 3) (vCons (vCallN g_mixed (vCons (vVar 6) (vCons (vC (.int 1)) (vCons (vC (.int 8)) vNil)))) vNil))))))
 (vSeq (vIfS (vBl (vOp vEq (vVar 4) (vLst vNil)))
  (vRetI (vLst (vCons (vC (.str ("." : Str))) vNil)))
  vNext)
 (vFrz 4 (vRetI (vVar 4))))))))
abbrev N_behind:List Str:=["_law_things","_law_over","_law_cells_here","_law_stem","_law_words","_law_under","_law_cell"]
theorem w_behind:∀ ds ks ps c Q,g_behind ds ks ps Q→b_behind (EnJ 0 c Q) (startJ N_behind 0 c ds ks ps):=by
 rintro ds ks ps c Q ⟨rs,over,c0,cs,st,rfl,rfl,rfl,H,rl,cl,h⟩
 suffices go:∀ E:VEnds,(∀ τ r,E.ro τ r=ioOutT 0 c τ (Q r))→b_behind E (startJ N_behind 0 c [wayD over,.lst ((c0 :: cs).map D.int),.int st] ((rs.map prR).map (·.1)) ((rs.map prR).map (·.2))) from go _ fun _ _=>rfl
 intro E hE
 have mx:∀ (c k n:Int) (Y:R→Prop),0≤k→0 < n→(∀ i,0≤i→i < n→Y (.val (.int i)))→g_mixed [.int c,.int k,.int n] Y:=fun c k n Y hk hn y=>⟨c,k,n,rfl,hk,hn,fun i h0 h1 _=>y i h0 h1⟩
 have nb:∀ (i:Int) (Y:R→Prop),0≤i→(∀ z:Str,nmB z=true→Y (.val (.str z)))→g_name_by [.int st,.int i] Y:=fun i Y hi y=>⟨st,i,rfl,hi,y⟩
 refine v_cut (fun τ=>τ=[some (.own (.ioT c ((rs.map prR).map (·.1)) ((rs.map prR).map (·.2)))),some (.val (wayD over)),some (.val (.lst ((c0 :: cs).map D.int))),some (.val (.int st)),some (.own (.lst [])),none,none]) ?_ ?nwa
 case nwa =>
  intro nx3 hnx3
  dsimp! only [true_and]
  exact hnx3 _ rfl
 rintro τ rfl
 refine lendJ_at rfl ?_
 show vComp _ _ _ _ _ [some (.peek (.dT ((rs.map prR).map (·.1)) ((rs.map prR).map (·.2)))),some (.val (wayD over)),some (.val (.lst ((c0 :: cs).map D.int))),some (.val (.int st)),some (.own (.lst [])),none,none] _
 dsimp! only [true_and]
 have ek:(((rs.map prR).map (·.1)).map fun w=>D.tup (w.map D.str))=((rs.map (·.1)).map wayD):=by
  rw [List.map_map,List.map_map,List.map_map]
  rfl
 rw [ek]
 refine comp_filter (fun w=>wayD w) (fun w:List Str=>decide (over.length < w.length) && decide (w.take over.length=over)) (rs.map (·.1)) (Nat.le_trans (show _≤1000 by rw [List.length_map]; omega) line1000) (fun w mw Y N hY=>?_) ?_
 ·dsimp! only [wayD]
  intro hN
  rw [cutL_take]
  by_cases l:over.length < w.length
  ·rw [if_pos (decide_eq_true (by omega))]
   refine ⟨cmpW _ _,depW _,?_⟩
   rw [eqW]
   by_cases e:w.take over.length=over
   ·rw [if_pos (decide_eq_true e)]
    exact hY (by rw [decide_eq_true l,decide_eq_true e]; rfl)
   ·rw [if_neg (by rw [decide_eq_false e]; decide)]
    exact hN (by rw [decide_eq_false e,Bool.and_false])
  ·rw [if_neg (by rw [decide_eq_false (by omega)]; decide)]
   exact hN (by rw [decide_eq_false l,Bool.false_and])
 ·dsimp! only [true_and]
  generalize hus:(rs.map (·.1)).filter (fun w:List Str=>decide (over.length < w.length) && decide (w.take over.length=over))=us
  have uin:∀ u∈us,WyH u∧over.length < u.length:=fun u mu=>by
   rw [← hus] at mu
   obtain ⟨m1,m2⟩:=List.mem_filter.mp mu
   obtain ⟨r,mr,rfl⟩:=List.mem_map.mp m1
   rw [Bool.and_eq_true] at m2
   exact ⟨H.wy r mr,of_decide_eq_true m2.1⟩
  refine ⟨nodt_ways us,?_⟩
  refine v_cut (fun τ=>∃ ws:List Str,ws.length≤12∧(∀ z∈ws,wdB z=true)∧τ=[some (.own (.ioT c ((rs.map prR).map (·.1)) ((rs.map prR).map (·.2)))),some (.val (wayD over)),some (.val (.lst ((c0 :: cs).map D.int))),some (.val (.int st)),some (.own (.lst (ws.map D.str))),some (.val (.lst (us.map wayD))),none]) ?_ ?nwb
  case nwb =>
   intro nx3 hnx3
   refine v_if (fun q=>q=true→us≠[]) (fun Y y=>?t1) (fun hb=>?y1) fun _=>hnx3 _ ⟨[],by decide,by simp,rfl⟩
   case t1 =>
    dsimp! only [true_and]
    exact y _ fun q e=>by
     have:=of_decide_eq_true q
     rw [e] at this
     simp at this
   case y1 =>
    have u0:0 < us.length:=List.length_pos_iff.mpr (hb rfl)
    dsimp! only [wayD]
    refine mx _ _ _ _ (by decide) (by omega) fun i i0 i1=>?_
    obtain ⟨u,hu,hu2⟩:=at_nat (xs:=us) (k:=i) i0 i1
    have mu:=uin u (List.mem_of_getElem? hu2)
    have mu1:=mu.1.1
    dsimp! only [true_and]
    refine ⟨wayD u,by rw [atI_map,hu]; rfl,?_⟩
    dsimp! only [wayD]
    rw [cutL_drop]
    exact hnx3 _ ⟨u.drop over.length,by rw [List.length_drop]; omega,fun z mz=>nm_wd (mu.1.2 z (List.mem_of_mem_drop mz)),rfl⟩
  rintro τ ⟨ws,wl,wd,rfl⟩
  refine v_cut (fun τ=>∃ (ws:List Str) (a:Option R),ws.length≤15∧(∀ z∈ws,wdB z=true)∧τ=[some (.own (.ioT c ((rs.map prR).map (·.1)) ((rs.map prR).map (·.2)))),some (.val (wayD over)),some (.val (.lst ((c0 :: cs).map D.int))),some (.val (.int st)),some (.own (.lst (ws.map D.str))),some (.val (.lst (us.map wayD))),a]) ?_ ?nwc
  case nwc =>
   intro nx3 hnx3
   dsimp! only [true_and]
   rw [show cutL (D.int c0 :: cs.map D.int) (some 1) none=cs.map D.int from cutL_drop (D.int c0 :: cs.map D.int) 1]
   refine for_map (fun i τ=>∃ (ws:List Str) (a:Option R),ws.length≤12+i∧(∀ z∈ws,wdB z=true)∧τ=[some (.own (.ioT c ((rs.map prR).map (·.1)) ((rs.map prR).map (·.2)))),some (.val (wayD over)),some (.val (.lst ((c0 :: cs).map D.int))),some (.val (.int st)),some (.own (.lst (ws.map D.str))),some (.val (.lst (us.map wayD))),a]) ⟨ws,none,by omega,wd,rfl⟩ ?_ ?_
   ·rintro i c1 τ hi ⟨ws,a,wl,wd,rfl⟩ nx4 hnx4
    have il:=(List.getElem?_eq_some_iff.mp hi).1
    have ap:∀ z:Str,wdB z=true→ws.length < sizeLine∧nx4 [some (.own (.ioT c ((rs.map prR).map (·.1)) ((rs.map prR).map (·.2)))),some (.val (wayD over)),some (.val (.lst ((c0 :: cs).map D.int))),some (.val (.int st)),some (.own (.lst (ws.map D.str++[D.str z]))),some (.val (.lst (us.map wayD))),some (.val (.int c1))]:=fun z hz=>⟨Nat.lt_of_lt_of_le (show _ < 1000 by omega) line1000,by
     rw [show ws.map D.str++[D.str z]=(ws++[z]).map D.str by rw [List.map_append]; rfl]
     exact hnx4 _ ⟨ws++[z],_,by rw [List.length_append,List.length_singleton]; omega,fun y my=>(List.mem_append.mp my).elim (wd y) fun e=>by rw [List.mem_singleton.mp e]; exact hz,rfl⟩⟩
    dsimp! only [true_and]
    refine mx _ _ _ _ (by decide) (by decide) fun k k0 k1=>?_
    dsimp! only [true_and]
    split
    ·refine ⟨by decide,mx _ _ _ _ (by decide) (by decide) fun j j0 j1=>?_⟩
     dsimp! only [true_and]
     obtain rfl | rfl:j=0∨j=1:=by omega
     ·exact ⟨_,rfl,ap _ wd_dot⟩
     ·exact ⟨_,rfl,ap _ wd_dots⟩
    ·refine mx _ _ _ _ (by decide) (by decide) fun j j0 j1=>?_
     dsimp! only [true_and]
     refine nb _ _ j0 fun z hz=>?_
     dsimp! only [true_and]
     have:=ap z (nm_wd hz)
     rw [show ws.map D.str++[D.str z]=(ws++[z]).map D.str by rw [List.map_append]; rfl] at this
     exact this
   ·rintro τ ⟨ws,a,wl,wd,rfl⟩
    exact hnx3 _ ⟨ws,a,by omega,wd,rfl⟩
  clear wd wl ws
  rintro τ ⟨ws,a,wl,wd,rfl⟩
  refine v_ifn (fun q=>q=decide (ws=[])) ?t2 ?y2 ?n2
  case t2 =>
   intro Y y
   dsimp! only [true_and]
   refine ⟨cmp_strs ws [],depSN ws,?_⟩
   rw [eqSN ws]
   exact y _ rfl
  case y2 =>
   intro _
   dsimp! only [true_and]
   refine ⟨by decide,?_⟩
   rw [hE]
   exact ⟨rfl,(h [Str.ofString "."] (by simp) (show 1≤15 by decide) (fun z m=>by rw [List.mem_singleton.mp m]; exact wd_dot)).2⟩
  case n2 =>
   intro hb
   dsimp! only [true_and]
   rw [hE]
   exact ⟨rfl,(h ws (of_decide_eq_false hb.symm) wl wd).1⟩
def b_law:TVS:=(vSeq (vSet 1 (vCallN g_cell_at (vCons (vVar 0) (vCons (vC (.int 0)) vNil))))
 (vSeq (vSet 2 (vCallN g_cell_at (vCons (vVar 0) (vCons (vC (.int 1)) vNil))))
 (vSeq (vSet 3 (vOp vAdd (vC (.int 2)) (vCallN g_mixed (vCons (vVar 2) (vCons (vC (.int 0)) (vCons (vC (.int 13)) vNil))))))
 (vSeq (vIfS (vBl (vOp vEq (vCallN g_mixed (vCons (vVar 2) (vCons (vC (.int 1)) (vCons (vC (.int 6)) vNil)))) (vC (.int 0))))
  (vSet 3 (vOp vAdd (vC (.int 2)) (vCallN g_mixed (vCons (vVar 2) (vCons (vC (.int 2)) (vCons (vC (.int 41)) vNil))))))
  vNext)
 (vSeq (vSetO 4 (vCallN g_hall_by (vCons (vCallN g_cells (vCons (vVar 0) (vCons (vC (.int 11)) (vCons (vC (.int 1)) (vCons (vVar 3) vNil))))) (vCons (vVar 1) vNil))))
 (vSeq (vSetCJ 5 g_spun 4 (vCons (vCallN g_mixed (vCons (vVar 2) (vCons (vC (.int 6)) (vCons (vC (.int 5)) vNil)))) (vCons (vVar 1) vNil)))
 (vSeq (vUnpL 4 6 7 8 g_aim_by (vCons (vCallN g_cells (vCons (vVar 0) (vCons (vC (.int 2)) (vCons (vC (.int 1)) (vCons (vOp vAdd (vC (.int 1)) (vCallN g_mixed (vCons (vVar 2) (vCons (vC (.int 3)) (vCons (vC (.int 5)) vNil))))) vNil))))) (vCons (vVar 1) vNil)))
 (vSeq (vIfS (vBl (vOp vEq (vCallN g_mixed (vCons (vVar 2) (vCons (vC (.int 2)) (vCons (vC (.int 3)) vNil)))) (vC (.int 0))))
  (vSeq (vSet 7 (vC (.bl true)))
 (vSetLJ 8 g_dug 4 (vCons (vTup vNil) (vCons (vOp vAdd (vC (.int 2)) (vCallN g_mixed (vCons (vVar 2) (vCons (vC (.int 1)) (vCons (vC (.int 4)) vNil))))) (vCons (vVar 1) vNil)))))
  vNext)
 (vSeq (vIfS (vBl (vOp vEq (vVar 8) (vLst vNil)))
  (vSetO 8 (vLst (vCons (vC (.str ("." : Str))) vNil)))
  vNext)
 (vSeq (vIfS (vAndT (vBl (vVar 7)) (vBl (vOp vNeD (vVar 5) (vTup vNil))))
  (vSetO 8 (vOp vAdd (vOp vMulL (vF1 vList (vVar 5)) (vCallN g_mixed (vCons (vVar 2) (vCons (vC (.int 5)) (vCons (vC (.int 9)) vNil))))) (vVar 8)))
  vNext)
 (vFrz 8 (vSeq (vSet 9 (vCalC g_tree_of 4 vNil))
 (vSeq (vSet 10 (vCallN g_l_walked (vCons (vVar 9) (vCons (vVar 6) (vCons (vCallN g_text_of (vCons (vVar 7) (vCons (vVar 8) vNil))) vNil)))))
 (vSeq (vSet 11 (vTup vNil))
 (vSeq (vIfS (vBl (vOp vEq (vOp vIxR (vVar 10) (vC (.int 0))) (vC (.str ("" : Str)))))
  (vSeq (vIfS (vNotT (vBl (vCalC g_real 4 (vCons (vVar 9) (vCons (vOp vIxR (vVar 10) (vC (.int 1))) vNil)))))
  (vRet (vC (.bl false)))
  vNext)
 (vSet 11 (vOp vIxR (vVar 10) (vC (.int 1)))))
  vNext)
 (vSeq (vSetCJ 12 g_behind 4 (vCons (vVar 11) (vCons (vCallN g_cells (vCons (vVar 0) (vCons (vC (.int 7)) (vCons (vC (.int 1)) (vCons (vOp vAdd (vC (.int 1)) (vCallN g_mixed (vCons (vVar 2) (vCons (vC (.int 4)) (vCons (vC (.int 4)) vNil))))) vNil))))) (vCons (vVar 1) vNil))))
 (vSeq (vIfS (vAndT (vBl (vOp vNeD (vVar 5) (vTup vNil))) (vBl (vOp vGt (vCallN g_mixed (vCons (vVar 2) (vCons (vC (.int 4)) (vCons (vC (.int 3)) vNil)))) (vC (.int 0)))))
  (vSet 12 (vOp vAdd (vOp vAdd (vOp vMulL (vLst (vCons (vC (.str (".." : Str))) vNil)) (vF1 vLen (vVar 11))) (vOp vMulL (vF1 vList (vVar 5)) (vCallN g_mixed (vCons (vVar 2) (vCons (vC (.int 7)) (vCons (vC (.int 9)) vNil)))))) (vVar 12)))
  vNext)
 (vSeq (vSet 12 (vSlice (vVar 12) vNoPart (vPart (vOp vSub (vC (.int 40)) (vF1 vLen (vVar 8))))))
 (vSeq (vSet 13 (vCallN g_l_walked (vCons (vVar 9) (vCons (vVar 6) (vCons (vCallN g_text_of (vCons (vVar 7) (vCons (vOp vAdd (vVar 8) (vVar 12)) vNil))) vNil)))))
 (vSeq (vIfS (vBl (vOp vNeD (vOp vIxR (vVar 10) (vC (.int 0))) (vC (.str ("" : Str)))))
  (vRet (vOp vEq (vOp vIxR (vVar 13) (vC (.int 0))) (vOp vIxR (vVar 10) (vC (.int 0)))))
  vNext)
 (vSeq (vIfS (vAndT (vBl (vOp vNeD (vVar 11) (vTup vNil))) (vBl (vOp vEq (vOp vIxR (vDGet (vVar 4) (vVar 11)) (vC (.int 0))) (vC (.str ("file" : Str))))))
  (vRet (vOp vEq (vOp vIxR (vVar 13) (vC (.int 0))) (vC (.str ("NotFolder" : Str)))))
  vNext)
 (vRet (vCallN g_meet (vCons (vVar 10) (vCons (vCallN g_l_walked (vCons (vVar 9) (vCons (vVar 11) (vCons (vCallN g_text_of (vCons (vC (.bl false)) (vCons (vVar 12) vNil))) vNil)))) (vCons (vVar 13) vNil))))))))))))))))))))))))))
abbrev N_law:List Str:=["_law_script","_law_stem","_law_some","_law_many","_law_things","_law_spin","_law_at","_law_rooted","_law_words","_law_tree","_law_first","_law_over","_law_more","_law_whole"]
theorem w_law:∀ ds Q,g_law ds Q→b_law (En Q) (startD N_law ds):=by
 rintro ds Q ⟨ns,rfl,h⟩
 have mx:∀ (c k n:Int) (Y:R→Prop),0≤k→0 < n→(∀ i,0≤i→i < n→Y (.val (.int i)))→g_mixed [.int c,.int k,.int n] Y:=fun c k n Y hk hn y=>⟨c,k,n,rfl,hk,hn,fun i h0 h1 _=>y i h0 h1⟩
 have ca:∀ (k:Int) (Y:R→Prop),0≤k→(∀ c,Y (.val (.int c)))→g_cell_at [.scr ns,.int k] Y:=fun k Y hk y=>⟨ns,k,rfl,hk,y _⟩
 refine v_cut (fun τ=>∃ a:Int,τ=[some (.val (.scr ns)),some (.val (.int a)),none,none,none,none,none,none,none,none,none,none,none,none]) ?_ fun nx hnx=>?now
 case now =>
  dsimp! only [true_and]
  refine ca _ _ (by decide) fun c=>?_
  dsimp! only [true_and]
  exact hnx _ ⟨c,rfl⟩
 rintro τ ⟨a,rfl⟩
 refine v_cut (fun τ=>∃ b:Int,τ=[some (.val (.scr ns)),some (.val (.int a)),some (.val (.int b)),none,none,none,none,none,none,none,none,none,none,none]) ?_ fun nx hnx=>?now
 case now =>
  dsimp! only [true_and]
  refine ca _ _ (by decide) fun c=>?_
  dsimp! only [true_and]
  exact hnx _ ⟨c,rfl⟩
 rintro τ ⟨b,rfl⟩
 refine v_cut (fun τ=>∃ m:Int,0≤m∧m < 43∧τ=[some (.val (.scr ns)),some (.val (.int a)),some (.val (.int b)),some (.val (.int m)),none,none,none,none,none,none,none,none,none,none]) ?_ fun nx hnx=>?now
 case now =>
  dsimp! only [true_and]
  refine mx _ _ _ _ (by decide) (by decide) fun c c0 c1=>?_
  dsimp! only [true_and]
  exact hnx _ ⟨2+c,by omega,by omega,rfl⟩
 rintro τ ⟨m,m0,m1,rfl⟩
 refine v_cut (fun τ=>∃ m:Int,0≤m∧m < 43∧τ=[some (.val (.scr ns)),some (.val (.int a)),some (.val (.int b)),some (.val (.int m)),none,none,none,none,none,none,none,none,none,none]) ?_ fun nx hnx=>?now
 case now =>
  dsimp! only [true_and]
  refine mx _ _ _ _ (by decide) (by decide) fun c c0 c1=>?_
  dsimp! only [true_and]
  split
  ·refine mx _ _ _ _ (by decide) (by decide) fun c c0 c1=>?_
   dsimp! only [true_and]
   exact hnx _ ⟨2+c,by omega,by omega,rfl⟩
  ·exact hnx _ ⟨m,m0,m1,rfl⟩
 clear m0 m1 m
 rintro τ ⟨m,m0,m1,rfl⟩
 refine v_cut (fun τ=>∃ rs:List Row,Hall rs∧rs.length≤43∧τ=[some (.val (.scr ns)),some (.val (.int a)),some (.val (.int b)),some (.val (.int m)),some (.own (dictD (rs.map prR))),none,none,none,none,none,none,none,none,none]) ?_ fun nx hnx=>?now
 case now =>
  have ce:∀ Y:R→Prop,(∀ cs:List Int,cs.length=m.toNat→Y (.own (.lst (cs.map D.int))))→g_cells [.scr ns,.int 11,.int 1,.int m] Y:=fun Y y=>⟨ns,11,1,m,rfl,by decide,by decide,m0,by omega,y⟩
  dsimp! only [true_and]
  refine ce _ fun cs hcs=>?_
  have ha:∀ Y:R→Prop,(∀ rs,Hall rs→rs.length≤cs.length→Y (.own (dictD (rs.map prR))))→g_hall_by [.lst (cs.map D.int),.int a] Y:=fun Y y=>⟨cs,a,rfl,by omega,y⟩
  dsimp! only [true_and]
  refine ha _ fun rs H hl=>?_
  dsimp! only [true_and]
  exact hnx _ ⟨rs,H,by omega,rfl⟩
 rintro τ ⟨rs,H,hlen,rfl⟩
 refine v_cut (fun τ=>∃ (rs:List Row) (sp:List Str),Hall rs∧rs.length≤44∧sp.length≤1∧(∀ z∈sp,nmB z=true)∧τ=[some (.val (.scr ns)),some (.val (.int a)),some (.val (.int b)),some (.val (.int m)),some (.own (dictD (rs.map prR))),some (.val (wayD sp)),none,none,none,none,none,none,none,none]) ?_ fun nx hnx=>?now
 case now =>
  have sn:∀ (k:Int) (Y:R→List (List Str)→List D→Prop),0≤k→k≤4→(∀ (rs':List Row) (w:List Str),Hall rs'→rs'.length≤rs.length+1→w.length≤1→(∀ z∈w,nmB z=true)→Y (.val (wayD w)) ((rs'.map prR).map (·.1)) ((rs'.map prR).map (·.2)))→g_spun [.int k,.int a] ((rs.map prR).map (·.1)) ((rs.map prR).map (·.2)) Y:=fun k Y k0 k1 y=>⟨rs,k,a,rfl,rfl,rfl,H,by omega,k0,k1,y⟩
  dsimp! only [dictD]
  refine mx _ _ _ _ (by decide) (by decide) fun k k0 k1=>?_
  dsimp! only [true_and]
  refine sn k _ k0 (by omega) fun rs' w H' l' wl wn=>?_
  dsimp! only [true_and]
  exact hnx _ ⟨rs',w,H',by omega,wl,wn,rfl⟩
 clear hlen H rs
 rintro τ ⟨rs,sp,H,hlen,spl,spn,rfl⟩
 refine v_cut (fun τ=>∃ (w:List Str) (r:Bool) (zs:List Str),look rs w=some (mFolder,tEmpty)∧Wy14 w∧zs.length≤24∧(∀ z∈zs,wdB z=true)∧τ=[some (.val (.scr ns)),some (.val (.int a)),some (.val (.int b)),some (.val (.int m)),some (.own (dictD (rs.map prR))),some (.val (wayD sp)),some (.val (wayD w)),some (.val (.bl r)),some (.own (.lst (zs.map D.str))),none,none,none,none,none]) ?_ fun nx hnx=>?now
 case now =>
  dsimp! only [dictD]
  refine mx _ _ _ _ (by decide) (by decide) fun k k0 k1=>?_
  dsimp! only [true_and]
  have ce:∀ Y:R→Prop,(∀ (c:Int) (cs:List Int),cs.length≤4→Y (.own (.lst ((c :: cs).map D.int))))→g_cells [.scr ns,.int 2,.int 1,.int (1+k)] Y:=fun Y y=>⟨ns,2,1,1+k,rfl,by decide,by decide,by omega,by omega,fun cs hcs=>by
   cases cs with
   | nil=>rw [List.length_nil] at hcs; omega
   | cons c cs=>exact y c cs (by rw [List.length_cons] at hcs; omega)⟩
  refine ce _ fun c cs hcs=>?_
  have ai:∀ Y:R→Prop,(∀ w r zs,look rs w=some (mFolder,tEmpty)→Wy14 w→zs.length≤24→(∀ z∈zs,wdB z=true)→Y (.val (.tup [wayD w,.bl r,strsD zs])))→g_aim_by [dictD (rs.map prR),.lst ((c :: cs).map D.int),.int a] Y:=fun Y y=>⟨rs,c,cs,a,rfl,H,by omega,hcs,y⟩
  dsimp! only [true_and]
  refine ⟨fun d md=>?_,fun d md=>?_,ai _ fun w r zs q1 q2 q3 q4=>?_⟩
  ·obtain ⟨p,mp,rfl⟩:=List.mem_map.mp md
   obtain ⟨q,mq,rfl⟩:=List.mem_map.mp mp
   exact kept_tup fun d md=>by
    rw [List.mem_cons,List.mem_singleton] at md
    rcases md with e | e <;> (subst e; exact kept_str _)
  ·rw [List.mem_cons,List.mem_singleton] at md
   rcases md with e | e
   ·subst e
    exact kept_ints c cs
   ·subst e
    exact kept_int a
  ·exact ⟨keptT_way w,keptT_bl r,fun d md=>by obtain ⟨z,_,rfl⟩:=List.mem_map.mp md; exact ⟨z,rfl⟩,hnx _ ⟨w,r,zs,q1,q2,q3,q4,rfl⟩⟩
 rintro τ ⟨w,r,zs,hw,ww,hzl,hzw,rfl⟩
 refine v_cut (fun τ=>∃ (rs:List Row) (r:Bool) (zs:List Str),Hall rs∧rs.length≤49∧look rs w=some (mFolder,tEmpty)∧zs.length≤24∧(∀ z∈zs,wdB z=true)∧τ=[some (.val (.scr ns)),some (.val (.int a)),some (.val (.int b)),some (.val (.int m)),some (.own (dictD (rs.map prR))),some (.val (wayD sp)),some (.val (wayD w)),some (.val (.bl r)),some (.own (.lst (zs.map D.str))),none,none,none,none,none]) ?_ fun nx hnx=>?now
 case now =>
  refine v_if (fun _=>True) (fun Y y=>?t1) (fun hb=>?y1) fun hb=>hnx _ ⟨rs,r,zs,H,by omega,hw,hzl,hzw,rfl⟩
  case t1 =>
   dsimp! only [true_and]
   refine mx _ _ _ _ (by decide) (by decide) fun k k0 k1=>?_
   dsimp! only [true_and]
   exact y _ trivial
  case y1 =>
   have dg:∀ (k:Int) (Y:R→List (List Str)→List D→Prop),0≤k→k≤5→(∀ (rs':List Row) (o:List Str),Hall rs'→rs'.length≤rs.length+5→(o=[]∨(o,mFolder,tEmpty)∈rs')→(∀ r∈rs,r∈rs')→Y (.val (wayD o)) ((rs'.map prR).map (·.1)) ((rs'.map prR).map (·.2)))→g_dug [.tup [],.int k,.int a] ((rs.map prR).map (·.1)) ((rs.map prR).map (·.2)) Y:=fun k Y k0 k1 y=>⟨rs,[],k,a,rfl,rfl,rfl,H,.inl rfl,by decide,k0,by omega,by omega,fun rs' o H' l' ho sub=>y rs' o H' (by have e:(([]:List Str).length:Int)=0:=rfl; omega) ho sub⟩
   refine v_seq ?_
   dsimp! only [dictD]
   refine mx _ _ _ _ (by decide) (by decide) fun k k0 k1=>?_
   dsimp! only [true_and]
   refine dg _ _ (by omega) (by omega) fun rs' o H' l' ho sub=>?_
   dsimp! only [wayD]
   have ow:o.length≤12∧∀ z∈o,nmB z=true:=by
    rcases ho with rfl | q
    ·exact ⟨by decide,by simp⟩
    ·exact H'.wy _ q
   have hw':look rs' w=some (mFolder,tEmpty):=by
    by_cases e:w=[]
    ·rw [e]; rfl
    ·exact look_in H'.nd (sub _ (look_mem e hw)) e
   exact hnx _ ⟨rs',true,o,H',by omega,hw',by omega,fun z mz=>nm_wd (ow.2 z mz),rfl⟩
 clear hzl hzw zs hw hlen H r rs
 rintro τ ⟨rs,r,zs,H,hlen,hw,hzl,hzw,rfl⟩
 refine v_cut (fun τ=>∃ zs:List Str,zs≠[]∧zs.length≤24∧(∀ z∈zs,wdB z=true)∧τ=[some (.val (.scr ns)),some (.val (.int a)),some (.val (.int b)),some (.val (.int m)),some (.own (dictD (rs.map prR))),some (.val (wayD sp)),some (.val (wayD w)),some (.val (.bl r)),some (.own (.lst (zs.map D.str))),none,none,none,none,none]) ?_ fun nx hnx=>?now
 case now =>
  refine v_if (fun q=>q=decide (zs=[])) (fun Y y=>?t1) (fun hb=>?y1) fun hb=>hnx _ ⟨zs,of_decide_eq_false hb.symm,hzl,hzw,rfl⟩
  case t1 =>
   dsimp! only [true_and]
   refine ⟨cmp_strs zs [],depSN zs,?_⟩
   rw [eqSN zs]
   exact y _ rfl
  case y1 =>
   dsimp! only [true_and]
   exact ⟨by decide,hnx _ ⟨[Str.ofString "."],by simp,show 1≤24 by decide,fun z mz=>by rw [List.mem_singleton.mp mz]; exact wd_dot,rfl⟩⟩
 clear hzl hzw zs
 rintro τ ⟨zs,z0,hzl,hzw,rfl⟩
 have spw:∀ z∈sp,wdB z=true:=fun z mz=>nm_wd (spn z mz)
 have es0:=eqW sp []
 rw [List.map_nil] at es0
 refine v_cut (fun τ=>∃ zs:List Str,zs≠[]∧zs.length≤32∧(∀ z∈zs,wdB z=true)∧τ=[some (.val (.scr ns)),some (.val (.int a)),some (.val (.int b)),some (.val (.int m)),some (.own (dictD (rs.map prR))),some (.val (wayD sp)),some (.val (wayD w)),some (.val (.bl r)),some (.own (.lst (zs.map D.str))),none,none,none,none,none]) ?_ fun nx hnx=>?now
 case now =>
  refine v_if (fun _=>True) (fun Y y=>?t1) (fun hb=>?y1) fun hb=>hnx _ ⟨zs,z0,by omega,hzw,rfl⟩
  case t1 =>
   dsimp! only [wayD]
   split
   ·refine ⟨cmpW sp [],depW sp,?_⟩
    exact y _ trivial
   ·exact y _ trivial
  case y1 =>
   dsimp! only [wayD]
   refine mx _ _ _ _ (by decide) (by decide) fun k k0 k1=>?_
   obtain ⟨j,rfl⟩:=Int.eq_ofNat_of_zero_le k0
   have j8:j≤8:=by omega
   have er:repL (sp.map D.str) ((j:Int)).toNat=((List.replicate j sp).flatten).map D.str:=by rw [Int.toNat_natCast,repL_strs]
   have el:((List.replicate j sp).flatten).length≤8:=by
    rw [rep_len]
    exact Nat.le_trans (Nat.mul_le_mul j8 spl) (by decide)
   dsimp! only [true_and]
   refine ⟨by omega,by omega,Nat.le_trans (show _≤1000 from Nat.le_trans (Nat.mul_le_mul spl (show ((j:Int)).toNat≤8 by omega)) (by decide)) line1000,Nat.le_trans (show _≤1000 by rw [er,List.length_map]; omega) line1000,?_⟩
   rw [er,← List.map_append]
   exact hnx _ ⟨(List.replicate j sp).flatten++zs,by simp [z0],by rw [List.length_append]; omega,fun z mz=>(List.mem_append.mp mz).elim (fun q=>spw z (rep_in q)) (hzw z),rfl⟩
 clear hzl hzw z0 zs
 rintro τ ⟨zs,z0,hzl,hzw,rfl⟩
 dsimp! only [true_and]
 refine v_cut (fun τ=>∃ ts:List Row,ts.Perm rs∧τ=[some (.val (.scr ns)),some (.val (.int a)),some (.val (.int b)),some (.val (.int m)),some (.own (dictD (rs.map prR))),some (.val (wayD sp)),some (.val (wayD w)),some (.val (.bl r)),some (.val (.lst (zs.map D.str))),some (.val (rowsL ts)),none,none,none,none]) ?_ fun nx hnx=>?now
 case now =>
  have tr:∀ Y:R→Prop,(∀ ts:List Row,ts.Perm rs→RSorted ts→Y (.own (rowsL ts)))→g_tree_of [dictD (rs.map prR)] Y:=fun Y y=>⟨rs,rfl,H,by omega,y⟩
  dsimp! only [true_and]
  refine tr _ fun ts p s=>?_
  exact ⟨tupO_rows ts,hnx _ ⟨ts,p,rfl⟩⟩
 rintro τ ⟨ts,hp,rfl⟩
 have HT:=H.perm hp
 have tlen:ts.length < 64:=by rw [hp.length_eq]; omega
 have F:=hall_ft HT tlen (List.Perm.refl ts)
 have lp:=look_perm H.nd hp
 have hwt:look ts w=some (mFolder,tEmpty):=by rw [lp]; exact hw
 have wg:WayG w:=⟨by have:=ww.1; omega,ww.ok.ne⟩
 have fl:¬ mFolder=mLink:=by decide +kernel
 have tx:∀ (r:Bool) (xs:List Str) (Y:R→Prop),xs.length≤40→(∀ z∈xs,wdB z=true)→Y (.val (.str (textW r xs)))→g_text_of [.bl r,.lst (xs.map D.str)] Y:=fun r xs Y xl xw y=>⟨r,xs,rfl,xl,xw,y⟩
 have tlb:∀ (r:Bool) (xs:List Str),xs.length≤40→(∀ z∈xs,wdB z=true)→(textW r xs).length≤5000:=fun r xs xl xw=>by
  have:=glue_wd xw
  unfold textW
  split
  ·rw [PySem.Str.length_append,one_slash]; omega
  ·omega
 have wk:∀ (r:Bool) (u xs:List Str) (Y:R→Prop),WayG u→xs≠[]→xs.length≤40→(∀ z∈xs,wdB z=true)→(∀ res,WalkTo (look ts) (startW r u) xs 0 [] res→Y (.val (wkD res)))→g_l_walked [rowsL ts,wayD u,.str (textW r xs)] Y:=fun r u xs Y ug x0 xl xw y=>⟨ts,u,_,rfl,F,ug,tlb r xs xl xw,⟨r,xs,words_text (.inl x0) xl xw⟩,fun res k=>y res (text_one (words_text (.inl x0) xl xw) k)⟩
 refine v_cut (fun τ=>∃ a1:WR,WalkTo (look ts) (startW r w) zs 0 [] a1∧τ=[some (.val (.scr ns)),some (.val (.int a)),some (.val (.int b)),some (.val (.int m)),some (.own (dictD (rs.map prR))),some (.val (wayD sp)),some (.val (wayD w)),some (.val (.bl r)),some (.val (.lst (zs.map D.str))),some (.val (rowsL ts)),some (.val (wkD a1)),none,none,none]) ?_ fun nx hnx=>?now
 case now =>
  dsimp! only [true_and]
  refine tx r zs _ (by omega) hzw ?_
  dsimp! only [true_and]
  refine wk r w zs _ wg z0 (by omega) hzw fun res k=>?_
  dsimp! only [true_and]
  exact hnx _ ⟨res,k,rfl⟩
 rintro τ ⟨a1,h1,rfl⟩
 have hsw:look ts (startW r w)=some (mFolder,tEmpty):=by
  unfold startW
  split
  ·rfl
  ·exact hwt
 refine v_cut (fun τ=>τ=[some (.val (.scr ns)),some (.val (.int a)),some (.val (.int b)),some (.val (.int m)),some (.own (dictD (rs.map prR))),some (.val (wayD sp)),some (.val (wayD w)),some (.val (.bl r)),some (.val (.lst (zs.map D.str))),some (.val (rowsL ts)),some (.val (wkD a1)),some (.val (wayD [])),none,none]) ?_ fun nx hnx=>?now
 case now =>
  dsimp! only [true_and]
  exact hnx _ rfl
 rintro τ rfl
 have seen:∀ tr v k,a1=.ok tr v k→∃ mt,look ts v=some mt∧mt.1≠mLink:=fun tr v k e=>by
  subst e
  obtain ⟨mt,q⟩:=walk_seen h1 ⟨_,hsw⟩ rfl
  refine ⟨mt,q,fun e=>?_⟩
  have:=walk_nolink h1 (fun x e=>by rw [hsw] at e; exact fl (congrArg Prod.fst (Option.some.inj e))) (fun x e=>fl (congrArg Prod.fst (Option.some.inj (show some (mFolder,tEmpty)=_ from e)))) rfl mt.2
  exact this (by rw [q,← e])
 have exn:∀ n,a1=.exc n→n≠("" : Str):=fun n e e0=>by
  have x3:=(walk_end h1 (by decide)).1 n e
  subst e0
  revert x3
  unfold xc3
  decide
 refine v_cut (fun τ=>∃ ov:List Str,((∀ tr v k,a1=.ok tr v k→ov=v)∧(∀ n,a1=.exc n→ov=[]))∧τ=[some (.val (.scr ns)),some (.val (.int a)),some (.val (.int b)),some (.val (.int m)),some (.own (dictD (rs.map prR))),some (.val (wayD sp)),some (.val (wayD w)),some (.val (.bl r)),some (.val (.lst (zs.map D.str))),some (.val (rowsL ts)),some (.val (wkD a1)),some (.val (wayD ov)),none,none]) ?_ fun nx hnx=>?now
 case now =>
  cases a1 with
  | exc n =>
   refine v_if (fun q=>q=false) (fun Y y=>?t1) (fun hb=>by cases hb) fun _=>hnx _ ⟨[],⟨fun _ _ _ e=>(by cases e),fun _ _=>rfl⟩,rfl⟩
   case t1 =>
    dsimp! only [wkD]
    exact y _ (decide_eq_false (exn n rfl))
  | ok tr v k =>
   refine v_if (fun q=>q=true) (fun Y y=>?t2) (fun _=>?y2) fun hb=>by cases hb
   case t2 =>
    dsimp! only [wkD]
    exact y _ rfl
   case y2 =>
    obtain ⟨mt,q1,q2⟩:=seen tr v k rfl
    have rl:∀ Y:R→Prop,Y (.val (.bl true))→g_real [dictD (rs.map prR),rowsL ts,wayD v] Y:=fun Y y=>⟨rs,ts,v,rfl,H,by omega,hp,⟨mt,by rw [← lp]; exact q1,q2⟩,y⟩
    refine v_ifn (fun q=>q=false) (fun Y y=>?t3) (fun hb=>by cases hb) fun _=>?n3
    case t3 =>
     dsimp! only [wkD]
     refine rl _ ?_
     exact ⟨by unfold tupO; rfl,y _ rfl⟩
    case n3 =>
     dsimp! only [wkD]
     exact hnx _ ⟨v,⟨fun _ _ _ e=>(by cases e; rfl),fun _ e=>(by cases e)⟩,rfl⟩
 rintro τ ⟨ov,⟨ov1,ov2⟩,rfl⟩
 have ovs:∃ mt,look ts ov=some mt:=by
  cases a1 with
  | ok tr v k =>
   rw [ov1 tr v k rfl]
   obtain ⟨mt,q,_⟩:=seen tr v k rfl
   exact ⟨mt,q⟩
  | exc n =>
   rw [ov2 n rfl]
   exact ⟨_,rfl⟩
 obtain ⟨omt,ovs⟩:=ovs
 have oW:=look_way F ovs
 have ol:=oW.1
 refine v_cut (fun τ=>∃ xs:List Str,xs≠[]∧xs.length≤15∧(∀ z∈xs,wdB z=true)∧τ=[some (.val (.scr ns)),some (.val (.int a)),some (.val (.int b)),some (.val (.int m)),some (.own (dictD (rs.map prR))),some (.val (wayD sp)),some (.val (wayD w)),some (.val (.bl r)),some (.val (.lst (zs.map D.str))),some (.val (rowsL ts)),some (.val (wkD a1)),some (.val (wayD ov)),some (.val (.lst (xs.map D.str))),none]) ?_ fun nx hnx=>?now
 case now =>
  dsimp! only [dictD]
  refine mx _ _ _ _ (by decide) (by decide) fun k k0 k1=>?_
  dsimp! only [true_and]
  have ce:∀ Y:R→Prop,(∀ (c:Int) (cs:List Int),cs.length≤3→Y (.own (.lst ((c :: cs).map D.int))))→g_cells [.scr ns,.int 7,.int 1,.int (1+k)] Y:=fun Y y=>⟨ns,7,1,1+k,rfl,by decide,by decide,by omega,by omega,fun cs hcs=>by
   cases cs with
   | nil=>rw [List.length_nil] at hcs; omega
   | cons c cs=>exact y c cs (by rw [List.length_cons] at hcs; omega)⟩
  refine ce _ fun c cs hcs=>?_
  have bh:∀ Y:R→List (List Str)→List D→Prop,(∀ ws:List Str,ws≠[]→ws.length≤15→(∀ z∈ws,wdB z=true)→Y (.val (strsD ws)) ((rs.map prR).map (·.1)) ((rs.map prR).map (·.2))∧Y (.own (strsD ws)) ((rs.map prR).map (·.1)) ((rs.map prR).map (·.2)))→g_behind [wayD ov,.lst ((c :: cs).map D.int),.int a] ((rs.map prR).map (·.1)) ((rs.map prR).map (·.2)) Y:=fun Y y=>⟨rs,ov,c,cs,a,rfl,rfl,rfl,H,by omega,hcs,y⟩
  dsimp! only [true_and]
  refine bh _ fun ws w0 wl wd=>⟨?_,?_⟩
  ·dsimp! only [strsD]
   exact hnx _ ⟨ws,w0,wl,wd,rfl⟩
  ·dsimp! only [strsD]
   exact hnx _ ⟨ws,w0,wl,wd,rfl⟩
 rintro τ ⟨xs,x0,xl,xw,rfl⟩
 refine v_cut (fun τ=>∃ xs:List Str,xs≠[]∧xs.length≤40∧(∀ z∈xs,wdB z=true)∧τ=[some (.val (.scr ns)),some (.val (.int a)),some (.val (.int b)),some (.val (.int m)),some (.own (dictD (rs.map prR))),some (.val (wayD sp)),some (.val (wayD w)),some (.val (.bl r)),some (.val (.lst (zs.map D.str))),some (.val (rowsL ts)),some (.val (wkD a1)),some (.val (wayD ov)),some (.val (.lst (xs.map D.str))),none]) ?_ fun nx hnx=>?now
 case now =>
  refine v_if (fun _=>True) (fun Y y=>?t1) (fun hb=>?y1) fun hb=>hnx _ ⟨xs,x0,by omega,xw,rfl⟩
  case t1 =>
   dsimp! only [wayD]
   refine ⟨cmpW sp [],depW sp,?_⟩
   simp only [es0]
   by_cases es:sp=[]
   ·rw [decide_eq_true es]
    exact iteF (y _ trivial)
   ·rw [decide_eq_false es]
    refine iteT (mx _ _ _ _ (by decide) (by decide) fun k k0 k1=>?_)
    dsimp! only [true_and]
    exact y _ trivial
  case y1 =>
   dsimp! only [wayD]
   refine ⟨by decide,by omega,by omega,Nat.le_trans (show _≤1000 by omega) line1000,mx _ _ _ _ (by decide) (by decide) fun k k0 k1=>?_⟩
   obtain ⟨j,rfl⟩:=Int.eq_ofNat_of_zero_le k0
   have j8:j≤8:=by omega
   have er:repL (sp.map D.str) ((j:Int)).toNat=((List.replicate j sp).flatten).map D.str:=by rw [Int.toNat_natCast,repL_strs]
   have el:((List.replicate j sp).flatten).length≤8:=by
    rw [rep_len]
    exact Nat.le_trans (Nat.mul_le_mul j8 spl) (by decide)
   have er2:repL [D.str (Str.ofString "..")] ((ov.length:Int)).toNat=(List.replicate ov.length (Str.ofString "..")).map D.str:=by rw [Int.toNat_natCast,repL_one,List.map_replicate]
   dsimp! only [true_and]
   have l1:(repL [D.str (Str.ofString "..")] ((ov.length:Int)).toNat).length=ov.length:=by rw [er2,List.length_map,List.length_replicate]
   have l2:(repL (sp.map D.str) ((j:Int)).toNat).length≤8:=by rw [er,List.length_map]; exact el
   refine ⟨by omega,by omega,Nat.le_trans (show _≤1000 from Nat.le_trans (Nat.mul_le_mul spl (show ((j:Int)).toNat≤8 by omega)) (by decide)) line1000,Nat.le_trans (show _≤1000 by omega) line1000,Nat.le_trans (show _≤1000 by rw [List.length_append]; omega) line1000,?_⟩
   rw [er,er2,← List.map_append,← List.map_append]
   refine hnx _ ⟨List.replicate ov.length (Str.ofString "..")++(List.replicate j sp).flatten++xs,by simp [x0],by rw [List.length_append,List.length_append,List.length_replicate]; omega,fun z mz=>?_,rfl⟩
   rcases List.mem_append.mp mz with q | q
   ·rcases List.mem_append.mp q with q | q
    ·rw [(List.mem_replicate.mp q).2]; exact wd_dots
    ·exact spw z (rep_in q)
   ·exact xw z q
 clear xl xw x0 xs
 rintro τ ⟨xs,x0,xl,xw,rfl⟩
 refine v_cut (fun τ=>∃ xs:List Str,xs≠[]∧zs.length+xs.length≤40∧(∀ z∈xs,wdB z=true)∧τ=[some (.val (.scr ns)),some (.val (.int a)),some (.val (.int b)),some (.val (.int m)),some (.own (dictD (rs.map prR))),some (.val (wayD sp)),some (.val (wayD w)),some (.val (.bl r)),some (.val (.lst (zs.map D.str))),some (.val (rowsL ts)),some (.val (wkD a1)),some (.val (wayD ov)),some (.val (.lst (xs.map D.str))),none]) ?_ fun nx hnx=>?now
 case now =>
  dsimp! only [true_and]
  rw [show (40 - (zs.length:Int))=((40 - zs.length:Nat):Int) by omega,cutL_take]
  refine hnx _ ⟨xs.take (40 - zs.length),fun e=>?_,by rw [List.length_take]; omega,fun z mz=>xw z (List.mem_of_mem_take mz),rfl⟩
  have:=congrArg List.length e
  have xp:=List.length_pos_iff.mpr x0
  rw [List.length_take,List.length_nil] at this
  omega
 clear xl xw x0 xs
 rintro τ ⟨xs,x0,xl,xw,rfl⟩
 have zxw:∀ z∈zs++xs,wdB z=true:=fun z m=>(List.mem_append.mp m).elim (hzw z) (xw z)
 refine v_cut (fun τ=>∃ a3:WR,WalkTo (look ts) (startW r w) (zs++xs) 0 [] a3∧τ=[some (.val (.scr ns)),some (.val (.int a)),some (.val (.int b)),some (.val (.int m)),some (.own (dictD (rs.map prR))),some (.val (wayD sp)),some (.val (wayD w)),some (.val (.bl r)),some (.val (.lst (zs.map D.str))),some (.val (rowsL ts)),some (.val (wkD a1)),some (.val (wayD ov)),some (.val (.lst (xs.map D.str))),some (.val (wkD a3))]) ?_ fun nx hnx=>?now
 case now =>
  dsimp! only [true_and]
  refine ⟨Nat.le_trans (show _≤1000 by omega) line1000,tx r (zs++xs) _ (by rw [List.length_append]; omega) zxw ?_⟩
  dsimp! only [true_and]
  refine wk r w (zs++xs) _ wg (by simp [z0]) (by rw [List.length_append]; omega) zxw fun res k=>?_
  dsimp! only [true_and]
  exact hnx _ ⟨res,k,rfl⟩
 rintro τ ⟨a3,h3,rfl⟩
 refine v_ifn (fun q=>(q=true→∃ n,a1=.exc n)∧(q=false→∃ tr v k,a1=.ok tr v k)) (fun Y y=>?t1) (fun hb=>?y1) fun hb=>?n1
 case t1 =>
  cases a1 with
  | exc n =>
   dsimp! only [wkD]
   exact y _ ⟨fun _=>⟨n,rfl⟩,fun q=>by rw [decide_eq_false (exn n rfl)] at q; cases q⟩
  | ok tr v k =>
   dsimp! only [wkD]
   exact y _ ⟨fun q=>(by cases q),fun _=>⟨tr,v,k,rfl⟩⟩
 case y1 =>
  obtain ⟨n,rfl⟩:=hb.1 rfl
  have e:=walk_one h3 (walk_exc xs h1 n rfl)
  subst e
  dsimp! only [wkD]
  exact h
 case n1 =>
 obtain ⟨tr,v,k,rfl⟩:=hb.2 rfl
 have e:=ov1 tr v k rfl
 subst e
 refine v_ifn (fun q=>(q=true→∃ t,look ts ov=some (mFile,t))∧(q=false→∀ t,look ts ov≠some (mFile,t))) (fun Y y=>?t2) (fun hb=>?y2) fun hb=>?n2
 case t2 =>
  have e0:=eqW ov []
  rw [List.map_nil] at e0
  dsimp! only [wayD,dictD]
  refine ⟨cmpW ov [],depW ov,?_⟩
  simp only [e0]
  by_cases e:ov=[]
  ·rw [decide_eq_true e]
   refine iteF (y _ ⟨fun q=>(by cases q),fun _ t q=>?_⟩)
   rw [e] at q
   exact absurd (show mFolder=mFile from congrArg Prod.fst (Option.some.inj (show some (mFolder,tEmpty)=_ from q))) (by decide +kernel)
  ·rw [if_pos (by rw [decide_eq_false e]; rfl)]
   have lko:lkP (rs.map prR) ov=some (thD omt):=by rw [lkP_look e,← lp,ovs]; rfl
   refine ⟨oW.ok.ne,thD omt,by rw [lkD_pairs]; exact lko,?_⟩
   dsimp! only [thD]
   refine y _ ⟨fun q=>⟨omt.2,?_⟩,fun q t q2=>?_⟩
   ·rw [ovs,show omt=(mFile,omt.2) from Prod.ext (of_decide_eq_true q) rfl]
   ·rw [ovs] at q2
    exact of_decide_eq_false q (show omt.1=mFile by rw [Option.some.inj q2])
 case y2 =>
  have e:=walk_one h3 (walk_file x0 h1 _ _ _ rfl (fun t e=>by rw [hsw] at e; exact absurd (show mFolder=mFile from congrArg Prod.fst (Option.some.inj e)) (by decide +kernel)) (fun t e=>absurd (show mFolder=mFile from congrArg Prod.fst (Option.some.inj (show some (mFolder,tEmpty)=_ from e))) (by decide +kernel)) (hb.1 rfl))
  subst e
  dsimp! only [wkD]
  exact h
 case n2 =>
  have og:WayG ov:=⟨by omega,oW.ok.ne⟩
  dsimp! only [true_and]
  refine tx false xs _ (by omega) xw ?_
  dsimp! only [true_and]
  refine wk false ov xs _ og x0 (by omega) xw fun a2 h2=>?_
  have h2':WalkTo (look ts) ov xs 0 [] a2:=h2
  have M:=core_meet HT tlen hsw h1 (hb.2 rfl) h2' h3
  have t1:=core_trl HT tlen (show zs.length≤40 by omega) ⟨_,hsw,fl⟩ h1
  have t2:=core_trl HT tlen (show xs.length≤40 by omega) (seen tr ov k rfl) h2'
  have me:∀ Y:R→Prop,Y (.val (.bl true))→g_meet [wkD (.ok tr ov k),wkD a2,wkD a3] Y:=fun Y y=>⟨_,a2,a3,rfl,M,t1,t2,y⟩
  dsimp! only [true_and]
  refine me _ ?_
  dsimp! only [true_and]
  exact h
theorem law_sp {K:PySem.W.Frag} {H:Hp} {a:Addr} (ns:List Int) (_:ns.length≤63) (hS:SqL K H a (ns.map V.int)) {E:XK}:spOf K g_law [.ref a] H (fun v _=>v=.bl true) E:=spOf_law ⟨ns,rfl,rfl⟩ hS
def top (i:Nat):Stmt:=PySem.Challenge.pw_glasslayers_k52_walks_behind_walks.main.body.getD i (.Pass ⟨0,0,0,0⟩)
abbrev s_is_name:Stmt:=top 9
abbrev s_above:Stmt:=top 11
abbrev s_is_word:Stmt:=top 14
abbrev s_words_of:Stmt:=top 15
abbrev s_step:Stmt:=top 16
abbrev s_things_of:Stmt:=top 19
abbrev s_start_of:Stmt:=top 22
abbrev s_one_more:Stmt:=top 23
abbrev s_walk:Stmt:=top 24
abbrev s_walked:Stmt:=top 25
abbrev s_find_way:Stmt:=top 26
abbrev s_trail_of:Stmt:=top 27
abbrev s_cell_at:Stmt:=top 29
abbrev s_cells:Stmt:=top 30
abbrev s_mixed:Stmt:=top 31
abbrev s_name_by:Stmt:=top 32
abbrev s_link_by:Stmt:=top 33
abbrev s_hall_by:Stmt:=top 34
abbrev s_tree_of:Stmt:=top 35
abbrev s_aim_by:Stmt:=top 36
abbrev s_text_of:Stmt:=top 37
abbrev s_l_walked:Stmt:=top 38
abbrev s_links:Stmt:=top 39
abbrev s_real:Stmt:=top 40
abbrev s_behind:Stmt:=top 41
abbrev s_dug:Stmt:=top 42
abbrev s_spun:Stmt:=top 43
abbrev s_meet:Stmt:=top 44
abbrev s_law:Stmt:=top 45
structure Blt (K:PySem.W.Frag) (mg:Str→Option Value) (cNoWay:Addr) (cMissing:Addr) (cNotFolder:Addr) (cAstray:Addr):Prop where
 NoWay:mg "NoWay" = some (.ref cNoWay)
 k_NoWay:clsOf K "NoWay" cNoWay
 Missing:mg "Missing" = some (.ref cMissing)
 k_Missing:clsOf K "Missing" cMissing
 NotFolder:mg "NotFolder" = some (.ref cNotFolder)
 k_NotFolder:clsOf K "NotFolder" cNotFolder
 Astray:mg "Astray" = some (.ref cAstray)
 k_Astray:clsOf K "Astray" cAstray
 x_NoWay:OwnX K cNoWay
 x_Astray:OwnX K cAstray
 x_Missing:OwnX K cMissing
 x_NotFolder:OwnX K cNotFolder
 m_NoWay_Astray:PySem.W.exmOne K (.ref cNoWay) (.ref cAstray)=some false
 m_Astray_Astray:PySem.W.exmOne K (.ref cAstray) (.ref cAstray)=some true
 m_Missing_Astray:PySem.W.exmOne K (.ref cMissing) (.ref cAstray)=some false
 m_NotFolder_Astray:PySem.W.exmOne K (.ref cNotFolder) (.ref cAstray)=some false
 m_NoWay_NotFolder:PySem.W.exmOne K (.ref cNoWay) (.ref cNotFolder)=some false
 m_Astray_NotFolder:PySem.W.exmOne K (.ref cAstray) (.ref cNotFolder)=some false
 m_Missing_NotFolder:PySem.W.exmOne K (.ref cMissing) (.ref cNotFolder)=some false
 m_NotFolder_NotFolder:PySem.W.exmOne K (.ref cNotFolder) (.ref cNotFolder)=some true
 m_NoWay_Missing:PySem.W.exmOne K (.ref cNoWay) (.ref cMissing)=some false
 m_Astray_Missing:PySem.W.exmOne K (.ref cAstray) (.ref cMissing)=some false
 m_Missing_Missing:PySem.W.exmOne K (.ref cMissing) (.ref cMissing)=some true
 m_NotFolder_Missing:PySem.W.exmOne K (.ref cNotFolder) (.ref cMissing)=some false
 all:mg "all" = none
 isinstance:mg "isinstance" = none
 len:mg "len" = none
 list:mg "list" = none
 range:mg "range" = none
 sorted:mg "sorted" = none
 str:mg "str" = none
 tuple:mg "tuple" = none
 g_NAME_SIGNS:∃ t,mg "NAME_SIGNS" = some (Value.str ("abcdefghijklmnopqrstuvwxyz0123456789" : Str) t)
 g_LONGEST_NAME:∃ t,mg "LONGEST_NAME" = some (Value.int 12 t)
 g_MOST_WORDS:∃ t,mg "MOST_WORDS" = some (Value.int 40 t)
 g_ROOT_THING:∃ ad,mg "ROOT_THING" = some (.ref ad)∧SqT K (fun _=>none) ad ([("folder" : Str),("" : Str)].map V.str)
 g_MOST_LINKS:∃ t,mg "MOST_LINKS" = some (Value.int 8 t)
section
variable {P:Program} {w:World} {K:PySem.W.Frag} {mg:Str→Option Value} {base:Heap} {f:Addr} {fd:FuncData} {cNoWay:Addr} {cMissing:Addr} {cNotFolder:Addr} {cAstray:Addr}
theorem sc_cell_at:FnScope ["_law_script","_law_k"] ["_law_script","_law_k"] (defScope s_cell_at):=⟨rfl,rfl,rfl,by decide +kernel,rfl,by decide +kernel,by decide +kernel⟩
theorem ok_cell_at (F:Fun K "_law_cell_at" "_law_cell_at" s_cell_at f fd) (B:Blt K mg cNoWay cMissing cNotFolder cAstray):FnOk P w K mg base CX0 1 f fd ["_law_script","_law_k"] (spOf K g_cell_at) :=
 F.okV sc_cell_at len_cell_at fun cdv A outer s H E hr=>⟨b_cell_at,(vss_cons (vs_if (vt_cmp vo_lt (vv 1) (ve_fb vf_len rfl B.len PyProof.Rows.Boot.«len» (vv 0)))
   (vss_one (vs_ret (ve_ix vx_seq (vv 0) (vv 1))))
   vss_nil)
  (vss_one (vs_ret ve_int))),w_cell_at⟩
theorem sc_mixed:FnScope ["_law_cell","_law_turn","_law_many","_law_by","_law_prime"] ["_law_cell","_law_turn","_law_many"] (defScope s_mixed):=⟨rfl,rfl,rfl,by decide +kernel,rfl,by decide +kernel,by decide +kernel⟩
theorem ok_mixed (F:Fun K "_law_mixed" "_law_mixed" s_mixed f fd) (B:Blt K mg cNoWay cMissing cNotFolder cAstray):FnOk P w K mg base CX0 1 f fd ["_law_cell","_law_turn","_law_many"] (spOf K g_mixed) :=
 F.okV sc_mixed len_mixed fun cdv A outer s H E hr=>⟨b_mixed,(vss_cons (vs_set (i:=3) sc_mixed.nd rfl (Or.inl rfl) (ve_tup (vac ve_int (vac ve_int (vac ve_int (vac ve_int (vac ve_int (vac ve_int (vac ve_int (vac ve_int va_nil))))))))))
  (vss_cons (vs_set (i:=4) sc_mixed.nd rfl (Or.inl rfl) (ve_tup (vac ve_int (vac ve_int (vac ve_int (vac ve_int (vac ve_int (vac ve_int (vac ve_int (vac ve_int va_nil))))))))))
  (vss_one (vs_ret (ve_op vo_mod (ve_op vo_mod (ve_op vo_mul (ve_op vo_add (ve_op vo_mod (vv 0) (ve_op vo_pow ve_int ve_int)) ve_int) (ve_ix vx_seq (vv 3) (ve_op vo_mod (vv 1) ve_int))) (ve_ix vx_seq (vv 4) (ve_op vo_mod (vv 1) ve_int))) (vv 2)))))),w_mixed⟩
theorem sc_name_by:FnScope ["_law_stem","_law_v","_law_signs","_law_size","_law_spot","_law_name","_law_k","_law_turn"] ["_law_stem","_law_v"] (defScope s_name_by):=⟨rfl,rfl,rfl,by decide +kernel,rfl,by decide +kernel,by decide +kernel⟩
theorem ok_name_by (F:Fun K "_law_name_by" "_law_name_by" s_name_by f fd) (B:Blt K mg cNoWay cMissing cNotFolder cAstray):FnOk P w K mg base CX0 1 f fd ["_law_stem","_law_v"] (spOf K g_name_by) :=
 F.okV sc_name_by len_name_by fun cdv A outer s H E hr=>⟨b_name_by,(vss_cons (vs_set (i:=2) sc_name_by.nd rfl (Or.inl rfl) ve_str)
  (vss_cons (vs_set (i:=3) sc_name_by.nd rfl (Or.inl rfl) (ve_op vo_add ve_int (ve_op vo_mod (vv 0) ve_int)))
  (vss_cons (vs_set (i:=4) sc_name_by.nd rfl (Or.inl rfl) (ve_op vo_mod (ve_op vo_div (vv 0) ve_int) (vv 3)))
  (vss_cons (vs_set (i:=5) sc_name_by.nd rfl (Or.inl rfl) ve_str)
  (vss_cons (vs_for PassesOwn.never rfl (vi_rng1 rfl B.range (vv 3)) (vg_name (i:=6) sc_name_by.nd rfl (Or.inl rfl))
   (vss_cons (vs_set (i:=7) sc_name_by.nd rfl (Or.inl rfl) (ve_op vo_add (ve_op vo_div (vv 0) ve_int) (ve_op vo_mul (vv 6) (ve_op vo_mod (ve_op vo_div (vv 0) ve_int) ve_int))))
  (vss_cons (vs_if (vt_cmp (vo_eq hr.units) (vv 6) (vv 4))
   (vss_one (vs_set (i:=7) sc_name_by.nd rfl (Or.inl rfl) (ve_op vo_add (vv 7) (vv 1))))
   vss_nil)
  (vss_one (vs_set (i:=5) sc_name_by.nd rfl (Or.inl rfl) (ve_op vo_add (vv 5) (ve_ix vx_seq (vv 2) (ve_op vo_mod (vv 7) ve_int))))))))
  (vss_cons (vs_if (vw_t (vw_and (vt_cmp (vo_eq hr.units) (ve_op vo_mod (ve_op vo_div (vv 0) ve_int) ve_int) ve_int) (vw_and1 (vt_cmp (vo_eq hr.units) (ve_op vo_mod (vv 1) ve_int) ve_int))))
   (vss_one (vs_set (i:=5) sc_name_by.nd rfl (Or.inl rfl) (ve_slice (vv 5) vp_none (vp_some (ve_op vo_add ve_int (ve_op vo_mod (vv 1) (vv 3)))))))
   vss_nil)
  (vss_one (vs_ret (vv 5))))))))),w_name_by⟩
theorem sc_link_by:FnScope ["_law_ways","_law_over","_law_cell","_law_name","_law_kind","_law_some","_law_to"] ["_law_ways","_law_over","_law_cell","_law_name"] (defScope s_link_by):=⟨rfl,rfl,rfl,by decide +kernel,rfl,by decide +kernel,by decide +kernel⟩
theorem ok_link_by (F:Fun K "_law_link_by" "_law_link_by" s_link_by f fd) (B:Blt K mg cNoWay cMissing cNotFolder cAstray) (Cmixed:Cal P w K mg base 1 "_law_mixed" ["_law_cell","_law_turn","_law_many"] (spOf K g_mixed)):FnOk P w K mg base CX0 2 f fd ["_law_ways","_law_over","_law_cell","_law_name"] (spOf K g_link_by) :=
 F.okV sc_link_by len_link_by fun cdv A outer s H E hr=>⟨b_link_by,(vss_cons (vs_set (i:=4) sc_link_by.nd rfl (Or.inl rfl) (ve_cal Cmixed (hr.mono (by decide)) rfl (vac (vv 2) (vac ve_int (vac ve_int va_nil)))))
  (vss_cons (vs_if (vw_t (vw_or (vt_cmp vo_gt (vv 4) ve_int) (vw_or1 (vt_cmp (vo_eq hr.units) (ve_fb vf_len rfl B.len PyProof.Rows.Boot.«len» (vv 0)) ve_int))))
   (vss_cons (vs_set (i:=5) sc_link_by.nd rfl (Or.inl rfl) (ve_tup (vac ve_str (vac ve_str (vac ve_str (vac (vv 3) (vac (ve_op vo_add ve_str (vv 3)) (vac (ve_op vo_add (ve_op vo_add ve_str (vv 3)) ve_str) va_nil))))))))
  (vss_one (vs_ret (ve_ix vx_seq (vv 5) (ve_cal Cmixed (hr.mono (by decide)) rfl (vac (vv 2) (vac ve_int (vac ve_int va_nil))))))))
   vss_nil)
  (vss_cons (vs_set (i:=6) sc_link_by.nd rfl (Or.inl rfl) (ve_join ve_str (ve_ix vx_seq (vv 0) (ve_cal Cmixed (hr.mono (by decide)) rfl (vac (vv 2) (vac ve_int (vac (ve_fb vf_len rfl B.len PyProof.Rows.Boot.«len» (vv 0)) va_nil)))))))
  (vss_cons (vs_if (vt_cmp (vo_eq hr.units) (vv 4) ve_int)
   (vss_one (vs_ret (ve_op vo_add (ve_op vo_mulS ve_str (ve_fb vf_len rfl B.len PyProof.Rows.Boot.«len» (vv 1))) (vv 6))))
   vss_nil)
  (vss_one (vs_ret (ve_op vo_add ve_str (vv 6)))))))),w_link_by⟩
theorem sc_hall_by:FnScope ["_law_cells_here","_law_stem","_law_wide","_law_things","_law_folders","_law_cell","_law_over","_law_name","_law_way","_law_mark"] ["_law_cells_here","_law_stem"] (defScope s_hall_by):=⟨rfl,rfl,rfl,by decide +kernel,rfl,by decide +kernel,by decide +kernel⟩
theorem ok_hall_by (F:Fun K "_law_hall_by" "_law_hall_by" s_hall_by f fd) (B:Blt K mg cNoWay cMissing cNotFolder cAstray) (Cmixed:Cal P w K mg base 1 "_law_mixed" ["_law_cell","_law_turn","_law_many"] (spOf K g_mixed)) (Cname_by:Cal P w K mg base 1 "_law_name_by" ["_law_stem","_law_v"] (spOf K g_name_by)) (Clink_by:Cal P w K mg base 2 "_law_link_by" ["_law_ways","_law_over","_law_cell","_law_name"] (spOf K g_link_by)):FnOk P w K mg base CX0 3 f fd ["_law_cells_here","_law_stem"] (spOf K g_hall_by) :=
 F.okV sc_hall_by len_hall_by fun cdv A outer s H E hr=>⟨b_hall_by,(vss_cons (vs_set (i:=2) sc_hall_by.nd rfl (Or.inl rfl) (ve_op vo_add ve_int (ve_op vo_mod (ve_op vo_div (vv 1) ve_int) ve_int)))
  (vss_cons (vs_setO (i:=3) sc_hall_by.nd rfl (Or.inl rfl) ve_dnewT)
  (vss_cons (vs_setO (i:=4) sc_hall_by.nd rfl (Or.inl rfl) (ve_lst (vac (ve_tup va_nil) va_nil)))
  (vss_cons (vs_for PassesOwn.never rfl (vi_any (vv 0)) (vg_name (i:=5) sc_hall_by.nd rfl (Or.inl rfl))
   (vss_cons (vs_set (i:=6) sc_hall_by.nd rfl (Or.inl rfl) (ve_ix vx_seq (vv 4) (ve_cal Cmixed (hr.mono (by decide)) rfl (vac (vv 5) (vac ve_int (vac (ve_fb vf_len rfl B.len PyProof.Rows.Boot.«len» (vv 4)) va_nil))))))
  (vss_cons (vs_if (vt_cmp (vo_eq hr.units) (ve_cal Cmixed (hr.mono (by decide)) rfl (vac (vv 5) (vac ve_int (vac ve_int va_nil)))) ve_int)
   (vss_one (vs_set (i:=6) sc_hall_by.nd rfl (Or.inl rfl) (ve_ix vx_seq (vv 4) (ve_neg ve_int))))
   vss_nil)
  (vss_cons (vs_set (i:=7) sc_hall_by.nd rfl (Or.inl rfl) (ve_cal Cname_by (hr.mono (by decide)) rfl (vac (vv 1) (vac (ve_cal Cmixed (hr.mono (by decide)) rfl (vac (vv 5) (vac ve_int (vac (vv 2) va_nil)))) va_nil))))
  (vss_cons (vs_set (i:=8) sc_hall_by.nd rfl (Or.inl rfl) (ve_op vo_add (vv 6) (ve_tup (vac (vv 7) va_nil))))
  (vss_one (vs_if (vw_t (vw_and (vt_dnotin hr.dict (vv 8) (vv 3)) (vw_and1 (vt_cmp vo_lt (ve_fb vf_len rfl B.len PyProof.Rows.Boot.«len» (vv 8)) ve_int))))
   (vss_cons (vs_set (i:=9) sc_hall_by.nd rfl (Or.inl rfl) (ve_ix vx_seq (ve_tup (vac ve_str (vac ve_str (vac ve_str (vac ve_str (vac ve_str va_nil)))))) (ve_cal Cmixed (hr.mono (by decide)) rfl (vac (vv 5) (vac ve_int (vac ve_int va_nil))))))
  (vss_cons (vs_dput 3 hr.dict (vv 8) (ve_tup (vac (vv 9) (vac ve_str va_nil))))
  (vss_cons (vs_if (vt_cmp (vo_eq hr.units) (vv 9) ve_str)
   (vss_one (vs_dput 3 hr.dict (vv 8) (ve_tup (vac (vv 9) (vac (ve_cal Clink_by (hr.mono (by decide)) rfl (vac (ve_ft (vf_listD hr.hd) rfl B.list PyProof.Rows.Boot.«list» (vv 3)) (vac (vv 6) (vac (vv 5) (vac (vv 7) va_nil))))) va_nil)))))
   vss_nil)
  (vss_cons (vs_if (vt_cmp (vo_eq hr.units) (vv 9) ve_str)
   (vss_one (vs_dput 3 hr.dict (vv 8) (ve_tup (vac (vv 9) (vac (ve_op vo_add (ve_op vo_add (vv 7) ve_str) (ve_ft vf_str rfl B.str PyProof.Rows.Boot.«str» (ve_op vo_mod (vv 5) (ve_op vo_pow ve_int ve_int)))) va_nil)))))
   vss_nil)
  (vss_one (vs_if (vt_cmp (vo_eq hr.units) (vv 9) ve_str)
   (vss_one (vs_append 4 (vv 8)))
   vss_nil))))))
   vss_nil)))))))
  (vss_one (vs_retO 3)))))),w_hall_by⟩
theorem sc_cells:FnScope ["_law_script","_law_first","_law_step","_law_many"] ["_law_script","_law_first","_law_step","_law_many"] (defScope s_cells):=⟨rfl,rfl,rfl,by decide +kernel,rfl,by decide +kernel,by decide +kernel⟩
theorem cs_cells0:CompScope (defScope s_cells) ["_law_script","_law_first","_law_step","_law_many"] ["_law_script","_law_first","_law_step","_law_many","_law_k"] ["_law_k"] ({ kind:=PySem.ScopeKind.function,names:=[ (PySem.Str.ofString ".0",PySem.NameKind.local),(PySem.Str.ofString "_law_k",PySem.NameKind.local),(PySem.Str.ofString "_law_cell_at",PySem.NameKind.globalImplicit),(PySem.Str.ofString "_law_first",PySem.NameKind.free),(PySem.Str.ofString "_law_script",PySem.NameKind.free),(PySem.Str.ofString "_law_step",PySem.NameKind.free)],isGenerator:=false,isCoroutine:=false,more:=[]:PySem.Scope }):=⟨rfl,by decide +kernel,by decide +kernel,by decide +kernel,by decide +kernel,rfl,by decide +kernel⟩
theorem ok_cells (F:Fun K "_law_cells" "_law_cells" s_cells f fd) (B:Blt K mg cNoWay cMissing cNotFolder cAstray) (Ccell_at:Cal P w K mg base 1 "_law_cell_at" ["_law_script","_law_k"] (spOf K g_cell_at)):FnOk P w K mg base CX0 2 f fd ["_law_script","_law_first","_law_step","_law_many"] (spOf K g_cells) :=
 F.okV sc_cells len_cells fun cdv A outer s H E hr=>⟨b_cells,(vss_one (vs_ret (vc_e (vc_comp (M:=["_law_k"]) (vi_rng1 rfl B.range (vv 3)) rfl cs_cells0 (fun cl C s2 H2 fp pn=>(vg_name (i:=4) (cs_cells0).nd rfl (Or.inl rfl))) (fun cl C s2 H2 fp pn=>vfs_nil) (fun cl C s2 H2 fp pn=>(ve_op vo_add (ve_cal Ccell_at (hr.mono (by decide)) rfl (vac (vv 0) (vac (ve_op vo_add (vv 1) (ve_op vo_mul (vv 2) (vv 4))) va_nil))) (vv 4))))))),w_cells⟩
theorem sc_spun:FnScope ["_law_things","_law_turn","_law_stem","_law_way"] ["_law_things","_law_turn","_law_stem"] (defScope s_spun):=⟨rfl,rfl,rfl,by decide +kernel,rfl,by decide +kernel,by decide +kernel⟩
theorem ok_spun (F:Fun K "_law_spun" "_law_spun" s_spun f fd) (B:Blt K mg cNoWay cMissing cNotFolder cAstray) (Cname_by:Cal P w K mg base 1 "_law_name_by" ["_law_stem","_law_v"] (spOf K g_name_by)):FnOk P w K mg base CX0 2 f fd ["_law_things","_law_turn","_law_stem"] (spOfJ K g_spun 0) :=
 F.okJ (k:=0) sc_spun len_spun fun cdv A outer s H E hr=>⟨b_spun,(vss_cons (vs_set (i:=3) sc_spun.nd rfl (Or.inl rfl) (ve_tup (vac (ve_cal Cname_by (hr.mono (by decide)) rfl (vac (vv 2) (vac (ve_op vo_add ve_int (vv 1)) va_nil))) va_nil)))
  (vss_cons (vs_if (vw_t (vw_or (vt_cmp (vo_eq hr.units) (vv 1) ve_int) (vw_or1 (vt_din hr.dict (vv 3) (vvIT 0)))))
   (vss_one (vs_retI (ve_tup va_nil)))
   vss_nil)
  (vss_cons (vs_dputI 0 hr.dict (vv 3) (ve_tup (vac ve_str (vac (ve_ix vx_seq (ve_tup (vac ve_str (vac ve_str (vac ve_str (vac ve_str va_nil))))) (ve_op vo_sub (vv 1) ve_int)) va_nil))))
  (vss_one (vs_retI (vv 3)))))),w_spun⟩
theorem sc_aim_by:FnScope ["_law_things","_law_cells_here","_law_stem","_law_wide","_law_ways","_law_words","_law_at","_law_rooted","_law_way","_law_cell","_law_kind"] ["_law_things","_law_cells_here","_law_stem"] (defScope s_aim_by):=⟨rfl,rfl,rfl,by decide +kernel,rfl,by decide +kernel,by decide +kernel⟩
theorem ok_aim_by (F:Fun K "_law_aim_by" "_law_aim_by" s_aim_by f fd) (B:Blt K mg cNoWay cMissing cNotFolder cAstray) (Cmixed:Cal P w K mg base 1 "_law_mixed" ["_law_cell","_law_turn","_law_many"] (spOf K g_mixed)) (Cname_by:Cal P w K mg base 1 "_law_name_by" ["_law_stem","_law_v"] (spOf K g_name_by)):FnOk P w K mg base CX0 2 f fd ["_law_things","_law_cells_here","_law_stem"] (spOf K g_aim_by) :=
 F.okV sc_aim_by len_aim_by fun cdv A outer s H E hr=>⟨b_aim_by,(vss_cons (vs_set (i:=3) sc_aim_by.nd rfl (Or.inl rfl) (ve_op vo_add ve_int (ve_op vo_mod (ve_op vo_div (vv 2) ve_int) ve_int)))
  (vss_cons (vs_set (i:=4) sc_aim_by.nd rfl (Or.inl rfl) (ve_ft (vf_listD hr.hd) rfl B.list PyProof.Rows.Boot.«list» (vv 0)))
  (vss_cons (vs_setO (i:=5) sc_aim_by.nd rfl (Or.inl rfl) (ve_lst va_nil))
  (vss_cons (vs_set (i:=6) sc_aim_by.nd rfl (Or.inl rfl) (ve_tup va_nil))
  (vss_cons (vs_set (i:=7) sc_aim_by.nd rfl (Or.inl rfl) (ve_cmp (vo_eq hr.units) (ve_cal Cmixed (hr.mono (by decide)) rfl (vac (ve_ix vx_seq (vv 1) ve_int) (vac ve_int (vac ve_int va_nil)))) ve_int))
  (vss_cons (vs_if (vt_cmp vo_gt (ve_fb vf_len rfl B.len PyProof.Rows.Boot.«len» (vv 4)) ve_int)
   (vss_cons (vs_set (i:=8) sc_aim_by.nd rfl (Or.inl rfl) (ve_ix vx_seq (vv 4) (ve_cal Cmixed (hr.mono (by decide)) rfl (vac (ve_ix vx_seq (vv 1) ve_int) (vac ve_int (vac (ve_fb vf_len rfl B.len PyProof.Rows.Boot.«len» (vv 4)) va_nil))))))
  (vss_cons (vs_set (i:=6) sc_aim_by.nd rfl (Or.inl rfl) (ve_slice (vv 8) vp_none (vp_some (ve_cal Cmixed (hr.mono (by decide)) rfl (vac (ve_ix vx_seq (vv 1) ve_int) (vac ve_int (vac (ve_fb vf_len rfl B.len PyProof.Rows.Boot.«len» (vv 8)) va_nil)))))))
  (vss_cons (vs_setO (i:=5) sc_aim_by.nd rfl (Or.inl rfl) (ve_ft vf_list rfl B.list PyProof.Rows.Boot.«list» (vv 8)))
  (vss_one (vs_if (vt_not (vt_val (vv 7)))
   (vss_one (vs_setO (i:=5) sc_aim_by.nd rfl (Or.inl rfl) (ve_ft vf_list rfl B.list PyProof.Rows.Boot.«list» (ve_slice (vv 8) (vp_some (ve_fb vf_len rfl B.len PyProof.Rows.Boot.«len» (vv 6))) vp_none))))
   vss_nil)))))
   vss_nil)
  (vss_cons (vs_for PassesOwn.never rfl (vi_any (ve_slice (vv 1) (vp_some ve_int) vp_none)) (vg_name (i:=9) sc_aim_by.nd rfl (Or.inl rfl))
   (vss_cons (vs_set (i:=10) sc_aim_by.nd rfl (Or.inl rfl) (ve_cal Cmixed (hr.mono (by decide)) rfl (vac (vv 9) (vac ve_int (vac ve_int va_nil)))))
  (vss_cons (vs_if (vt_cmp vo_lt (vv 10) ve_int)
   (vss_one (vs_append 5 (ve_cal Cname_by (hr.mono (by decide)) rfl (vac (vv 2) (vac (ve_cal Cmixed (hr.mono (by decide)) rfl (vac (vv 9) (vac ve_int (vac (vv 3) va_nil)))) va_nil)))))
   vss_nil)
  (vss_cons (vs_if (vw_t (vw_or (vt_cmp (vo_eq hr.units) (vv 10) ve_int) (vw_or1 (vt_cmp (vo_eq hr.units) (vv 10) ve_int))))
   (vss_one (vs_append 5 (ve_ix vx_seq (ve_tup (vac ve_str (vac ve_str va_nil))) (ve_op vo_sub (vv 10) ve_int))))
   vss_nil)
  (vss_one (vs_if (vt_cmp (vo_eq hr.units) (vv 10) ve_int)
   (vss_one (vs_insert 5 (vac (ve_cal Cmixed (hr.mono (by decide)) rfl (vac (vv 9) (vac ve_int (vac (ve_op vo_add (ve_fb vf_len rfl B.len PyProof.Rows.Boot.«len» (vv 5)) ve_int) va_nil)))) (vac ve_str va_nil))))
   vss_nil))))))
  (vss_frz 5 (vss_one (vs_ret (ve_tup (vac (vv 6) (vac (vv 7) (vac (vv 5) va_nil)))))))))))))),w_aim_by⟩
theorem sc_dug:FnScope ["_law_things","_law_over","_law_deep","_law_stem","_law_k","_law_way"] ["_law_things","_law_over","_law_deep","_law_stem"] (defScope s_dug):=⟨rfl,rfl,rfl,by decide +kernel,rfl,by decide +kernel,by decide +kernel⟩
theorem ok_dug (F:Fun K "_law_dug" "_law_dug" s_dug f fd) (B:Blt K mg cNoWay cMissing cNotFolder cAstray) (Cname_by:Cal P w K mg base 1 "_law_name_by" ["_law_stem","_law_v"] (spOf K g_name_by)):FnOk P w K mg base CX0 2 f fd ["_law_things","_law_over","_law_deep","_law_stem"] (spOfJ K g_dug 0) :=
 F.okJ (k:=0) sc_dug len_dug fun cdv A outer s H E hr=>⟨b_dug,(vss_cons (vs_for PassesOwn.never rfl (vi_rng2 rfl B.range (ve_fb vf_len rfl B.len PyProof.Rows.Boot.«len» (vv 1)) (vv 2)) (vg_name (i:=4) sc_dug.nd rfl (Or.inl rfl))
   (vss_cons (vs_set (i:=5) sc_dug.nd rfl (Or.inl rfl) (ve_op vo_add (vv 1) (ve_tup (vac (ve_cal Cname_by (hr.mono (by decide)) rfl (vac (vv 3) (vac (ve_op vo_add ve_int (ve_op vo_mod (vv 4) ve_int)) va_nil))) va_nil))))
  (vss_cons (vs_if (vw_t (vw_and (vt_din hr.dict (vv 5) (vvIT 0)) (vw_and1 (vt_cmp (vo_neD hr.units) (ve_ix vx_seq (ve_dget hr.dict (vvIT 0) (vv 5)) ve_int) ve_str))))
   (vss_one (vs_retI (vv 1)))
   vss_nil)
  (vss_cons (vs_dputI 0 hr.dict (vv 5) (ve_tup (vac ve_str (vac ve_str va_nil))))
  (vss_one (vs_set (i:=1) sc_dug.nd rfl (Or.inl rfl) (vv 5)))))))
  (vss_one (vs_retI (vv 1)))),w_dug⟩
theorem sc_tree_of:FnScope ["_law_things"] ["_law_things"] (defScope s_tree_of):=⟨rfl,rfl,rfl,by decide +kernel,rfl,by decide +kernel,by decide +kernel⟩
theorem cs_tree_of0:CompScope (defScope s_tree_of) ["_law_things"] ["_law_things","_law_way"] ["_law_way"] ({ kind:=PySem.ScopeKind.function,names:=[ (PySem.Str.ofString ".0",PySem.NameKind.local),(PySem.Str.ofString "_law_way",PySem.NameKind.local),(PySem.Str.ofString "_law_things",PySem.NameKind.free)],isGenerator:=false,isCoroutine:=false,more:=[]:PySem.Scope }):=⟨rfl,by decide +kernel,by decide +kernel,by decide +kernel,by decide +kernel,rfl,by decide +kernel⟩
theorem ok_tree_of (F:Fun K "_law_tree_of" "_law_tree_of" s_tree_of f fd) (B:Blt K mg cNoWay cMissing cNotFolder cAstray):FnOk P w K mg base CX0 1 f fd ["_law_things"] (spOf K g_tree_of) :=
 F.okV sc_tree_of len_tree_of fun cdv A outer s H E hr=>⟨b_tree_of,(vss_one (vs_ret (vc_e (vc_comp (M:=["_law_way"]) (vi_any (ve_fb (vf_sorted hr.units) rfl B.sorted PyProof.Rows.Boot.«sorted» (ve_ft (vf_listD hr.hd) rfl B.list PyProof.Rows.Boot.«list» (vv 0)))) rfl cs_tree_of0 (fun cl C s2 H2 fp pn=>(vg_name (i:=1) (cs_tree_of0).nd rfl (Or.inl rfl))) (fun cl C s2 H2 fp pn=>vfs_nil) (fun cl C s2 H2 fp pn=>(ve_tup (vac (vv 1) (vac (ve_ix vx_seq (ve_dget hr.dict (vv 0) (vv 1)) ve_int) (vac (ve_ix vx_seq (ve_dget hr.dict (vv 0) (vv 1)) ve_int) va_nil))))))))),w_tree_of⟩
theorem sc_is_name:FnScope ["thing"] ["thing"] (defScope s_is_name):=⟨rfl,rfl,rfl,by decide +kernel,rfl,by decide +kernel,by decide +kernel⟩
theorem cs_is_name0:CompScope (defScope s_is_name) ["thing"] ["thing","sign"] ["sign"] ({ kind:=PySem.ScopeKind.function,names:=[ (PySem.Str.ofString ".0",PySem.NameKind.local),(PySem.Str.ofString "sign",PySem.NameKind.local),(PySem.Str.ofString "NAME_SIGNS",PySem.NameKind.globalImplicit)],isGenerator:=false,isCoroutine:=false,more:=[]:PySem.Scope }):=⟨rfl,by decide +kernel,by decide +kernel,by decide +kernel,by decide +kernel,rfl,by decide +kernel⟩
theorem ok_is_name (F:Fun K "is_name" "is_name" s_is_name f fd) (B:Blt K mg cNoWay cMissing cNotFolder cAstray):FnOk P w K mg base CX0 1 f fd ["thing"] (spOf K g_is_name) :=
 F.okV sc_is_name len_is_name fun cdv A outer s H E hr=>⟨b_is_name,(vss_cons (vs_if (vt_not (vt_val (ve_isin .str rfl B.isinstance rfl B.str PyProof.Rows.Boot.«str» (vv 0))))
   (vss_one (vs_ret ve_bl))
   vss_nil)
  (vss_cons (vs_if (vt_not (vt_chain vo_le vo_le ve_int (ve_fb vf_len rfl B.len PyProof.Rows.Boot.«len» (vv 0)) (ve_globS (z:=(.int 12)) rfl (Classical.choose_spec B.g_LONGEST_NAME) ⟨_,rfl⟩ rfl)))
   (vss_one (vs_ret ve_bl))
   vss_nil)
  (vss_one (vs_ret (ve_fb (vf_all rfl) rfl B.all PyProof.Rows.Boot.«all» (vc_e (vc_comp (M:=["sign"]) (vi_any (vv 0)) rfl cs_is_name0 (fun cl C s2 H2 fp pn=>(vg_name (i:=1) (cs_is_name0).nd rfl (Or.inl rfl))) (fun cl C s2 H2 fp pn=>vfs_nil) (fun cl C s2 H2 fp pn=>(ve_cmp vo_in (vv 1) (ve_globS (z:=(.str ("abcdefghijklmnopqrstuvwxyz0123456789" : Str))) rfl (Classical.choose_spec B.g_NAME_SIGNS) ⟨_,rfl⟩ rfl)))))))))),w_is_name⟩
theorem sc_is_word:FnScope ["text"] ["text"] (defScope s_is_word):=⟨rfl,rfl,rfl,by decide +kernel,rfl,by decide +kernel,by decide +kernel⟩
theorem ok_is_word (F:Fun K "is_word" "is_word" s_is_word f fd) (B:Blt K mg cNoWay cMissing cNotFolder cAstray) (Cis_name:Cal P w K mg base 1 "is_name" ["thing"] (spOf K g_is_name)):FnOk P w K mg base CX0 2 f fd ["text"] (spOf K g_is_word) :=
 F.okV sc_is_word len_is_word fun cdv A outer s H E hr=>⟨b_is_word,(vss_one (vs_ret (ve_or (ve_cmp vo_in (vv 0) (ve_tup (vac ve_str (vac ve_str va_nil)))) (ve_one (ve_cal Cis_name (hr.mono (by decide)) rfl (vac (vv 0) va_nil)))))),w_is_word⟩
theorem sc_words_of:FnScope ["text","rooted","words"] ["text"] (defScope s_words_of):=⟨rfl,rfl,rfl,by decide +kernel,rfl,by decide +kernel,by decide +kernel⟩
theorem cs_words_of0:CompScope (defScope s_words_of) ["text","rooted","words"] ["text","rooted","words","word"] ["word"] ({ kind:=PySem.ScopeKind.function,names:=[ (PySem.Str.ofString ".0",PySem.NameKind.local),(PySem.Str.ofString "word",PySem.NameKind.local),(PySem.Str.ofString "is_word",PySem.NameKind.globalImplicit)],isGenerator:=false,isCoroutine:=false,more:=[]:PySem.Scope }):=⟨rfl,by decide +kernel,by decide +kernel,by decide +kernel,by decide +kernel,rfl,by decide +kernel⟩
theorem ok_words_of (F:Fun K "words_of" "words_of" s_words_of f fd) (B:Blt K mg cNoWay cMissing cNotFolder cAstray) (Cis_word:Cal P w K mg base 2 "is_word" ["text"] (spOf K g_is_word)):FnOk P w K mg base (CXR P w) 3 f fd ["text"] (spOf K g_words_of) :=
 F.okVX sc_words_of len_words_of fun cdv A outer s H E hr o=>⟨b_words_of,(vss_cons (vs_if (vt_cmp (vo_eq hr.units) (vv 0) ve_str)
   (vss_one (vs_ret (ve_tup (vac ve_bl (vac (ve_lst va_nil) va_nil)))))
   vss_nil)
  (vss_cons (vs_set (i:=1) sc_words_of.nd rfl (Or.inl rfl) (ve_starts (vv 0) ve_str))
  (vss_cons (vs_set (i:=2) sc_words_of.nd rfl (Or.inl rfl) (ve_split (ve_ifExp (vt_val (vv 1)) (ve_slice (vv 0) (vp_some ve_int) vp_none) (vv 0)) ve_str))
  (vss_cons (vs_if (vw_t (vw_or (vt_cmp vo_gt (ve_fb vf_len rfl B.len PyProof.Rows.Boot.«len» (vv 2)) (ve_globS (z:=(.int 40)) rfl (Classical.choose_spec B.g_MOST_WORDS) ⟨_,rfl⟩ rfl)) (vw_or1 (vt_not (vt_val (ve_fb (vf_all rfl) rfl B.all PyProof.Rows.Boot.«all» (vc_e (vc_comp (M:=["word"]) (vi_any (vv 2)) rfl cs_words_of0 (fun cl C s2 H2 fp pn=>(vg_name (i:=3) (cs_words_of0).nd rfl (Or.inl rfl))) (fun cl C s2 H2 fp pn=>vfs_nil) (fun cl C s2 H2 fp pn=>(ve_cal Cis_word (hr.mono (by decide)) rfl (vac (vv 3) va_nil)))))))))))
   (vss_one (vs_raise ⟨cNoWay,B.NoWay,B.k_NoWay,B.x_NoWay⟩ rfl rfl o (vac (vv 0) va_nil)))
   vss_nil)
  (vss_one (vs_ret (ve_tup (vac (vv 1) (vac (vv 2) va_nil))))))))),w_words_of⟩
theorem sc_above:FnScope ["way"] ["way"] (defScope s_above):=⟨rfl,rfl,rfl,by decide +kernel,rfl,by decide +kernel,by decide +kernel⟩
theorem ok_above (F:Fun K "above" "above" s_above f fd) (B:Blt K mg cNoWay cMissing cNotFolder cAstray):FnOk P w K mg base CX0 1 f fd ["way"] (spOf K g_above) :=
 F.okV sc_above len_above fun cdv A outer s H E hr=>⟨b_above,(vss_one (vs_ret (ve_slice (vv 0) vp_none (vp_some (ve_neg ve_int))))),w_above⟩
theorem sc_step:FnScope ["way","word"] ["way","word"] (defScope s_step):=⟨rfl,rfl,rfl,by decide +kernel,rfl,by decide +kernel,by decide +kernel⟩
theorem ok_step (F:Fun K "step" "step" s_step f fd) (B:Blt K mg cNoWay cMissing cNotFolder cAstray) (Cabove:Cal P w K mg base 1 "above" ["way"] (spOf K g_above)):FnOk P w K mg base CX0 2 f fd ["way","word"] (spOf K g_step) :=
 F.okV sc_step len_step fun cdv A outer s H E hr=>⟨b_step,(vss_cons (vs_if (vt_cmp (vo_eq hr.units) (vv 1) ve_str)
   (vss_one (vs_ret (vv 0)))
   vss_nil)
  (vss_cons (vs_if (vt_cmp (vo_eq hr.units) (vv 1) ve_str)
   (vss_one (vs_ret (ve_cal Cabove (hr.mono (by decide)) rfl (vac (vv 0) va_nil))))
   vss_nil)
  (vss_one (vs_ret (ve_op vo_add (vv 0) (ve_tup (vac (vv 1) va_nil))))))),w_step⟩
theorem sc_one_more:FnScope ["followed"] ["followed"] (defScope s_one_more):=⟨rfl,rfl,rfl,by decide +kernel,rfl,by decide +kernel,by decide +kernel⟩
theorem ok_one_more (F:Fun K "one_more" "one_more" s_one_more f fd) (B:Blt K mg cNoWay cMissing cNotFolder cAstray):FnOk P w K mg base (CXR P w) 1 f fd ["followed"] (spOf K g_one_more) :=
 F.okVX sc_one_more len_one_more fun cdv A outer s H E hr o=>⟨b_one_more,(vss_cons (vs_if (vt_cmp (vo_eq hr.units) (vv 0) (ve_globS (z:=(.int 8)) rfl (Classical.choose_spec B.g_MOST_LINKS) ⟨_,rfl⟩ rfl))
   (vss_one (vs_raise ⟨cAstray,B.Astray,B.k_Astray,B.x_Astray⟩ rfl rfl o (vac ve_str va_nil)))
   vss_nil)
  (vss_one (vs_ret (ve_op vo_add (vv 0) ve_int)))),w_one_more⟩
theorem sc_start_of:FnScope ["rooted","at"] ["rooted","at"] (defScope s_start_of):=⟨rfl,rfl,rfl,by decide +kernel,rfl,by decide +kernel,by decide +kernel⟩
theorem ok_start_of (F:Fun K "start_of" "start_of" s_start_of f fd) (B:Blt K mg cNoWay cMissing cNotFolder cAstray):FnOk P w K mg base CX0 1 f fd ["rooted","at"] (spOf K g_start_of) :=
 F.okV sc_start_of len_start_of fun cdv A outer s H E hr=>⟨b_start_of,(vss_one (vs_ret (ve_ifExp (vt_val (vv 0)) (ve_tup va_nil) (vv 1)))),w_start_of⟩
theorem sc_walk:FnScope ["things","at","words","followed","trail","left","word","then","thing","led"] ["things","at","words","followed"] (defScope s_walk):=⟨rfl,rfl,rfl,by decide +kernel,rfl,by decide +kernel,by decide +kernel⟩
theorem ok_walk (F:Fun K "walk" "walk" s_walk f fd) (B:Blt K mg cNoWay cMissing cNotFolder cAstray) (Cstep:Cal P w K mg base 2 "step" ["way","word"] (spOf K g_step)) (Cone_more:CalX P w K mg base 1 "one_more" ["followed"] (spOf K g_one_more)) (Cwords_of:CalX P w K mg base 3 "words_of" ["text"] (spOf K g_words_of)) (Cstart_of:Cal P w K mg base 1 "start_of" ["rooted","at"] (spOf K g_start_of)):FnOk P w K mg base (CXR P w) 4 f fd ["things","at","words","followed"] (spOf K g_walk) :=
 F.okVX sc_walk len_walk fun cdv A outer s H E hr o=>⟨b_walk,(vss_cons (vs_setO (i:=4) sc_walk.nd rfl (Or.inl rfl) (ve_lst va_nil))
  (vss_cons (vs_setO (i:=5) sc_walk.nd rfl (Or.inl rfl) (ve_ft vf_list rfl B.list PyProof.Rows.Boot.«list» (vv 2)))
  (vss_cons (vs_while PassesOwn.leaving (vt_cmp (vo_neD hr.units) (vv 5) (ve_lst va_nil))
   (vss_cons (vs_pop0 (j:=6) (i:=5) sc_walk.nd rfl (Or.inl rfl) ve_int)
  (vss_cons (vs_set (i:=7) sc_walk.nd rfl (Or.inl rfl) (ve_cal Cstep (hr.mono (by decide)) rfl (vac (vv 1) (vac (vv 6) va_nil))))
  (vss_cons (vs_set (i:=8) sc_walk.nd rfl (Or.inl rfl) (ve_dget1 hr.dict (vv 0) (vv 7)))
  (vss_cons (vs_if (vt_cmp vo_is (vv 8) ve_non)
   (vss_one (vs_raise ⟨cMissing,B.Missing,B.k_Missing,B.x_Missing⟩ rfl rfl o (vac ve_str va_nil)))
   vss_nil)
  (vss_cons (vs_if (vw_t (vw_and (vt_cmp (vo_eq hr.units) (ve_ix vx_seq (vv 8) ve_int) ve_str) (vw_and1 (vt_cmp (vo_neD hr.units) (vv 5) (ve_lst va_nil)))))
   (vss_one (vs_raise ⟨cNotFolder,B.NotFolder,B.k_NotFolder,B.x_NotFolder⟩ rfl rfl o (vac ve_str va_nil)))
   vss_nil)
  (vss_cons (vs_if (vt_cmp (vo_eq hr.units) (ve_ix vx_seq (vv 8) ve_int) ve_str)
   (vss_cons (vs_set (i:=3) sc_walk.nd rfl (Or.inl rfl) (ve_calX Cone_more o (hr.mono (by decide)) rfl (vac (vv 3) va_nil)))
  (vss_cons (vs_set (i:=9) sc_walk.nd rfl (Or.inl rfl) (ve_calX Cwords_of o (hr.mono (by decide)) rfl (vac (ve_ix vx_seq (vv 8) ve_int) va_nil)))
  (vss_cons (vs_set (i:=7) sc_walk.nd rfl (Or.inl rfl) (ve_cal Cstart_of (hr.mono (by decide)) rfl (vac (ve_ix vx_seq (vv 9) ve_int) (vac (vv 1) va_nil))))
  (vss_one (vs_setO (i:=5) sc_walk.nd rfl (Or.inl rfl) (ve_op vo_add (ve_ix vx_seq (vv 9) ve_int) (vv 5)))))))
   vss_nil)
  (vss_cons (vs_append 4 (ve_tup (vac (vv 1) (vac (vv 6) (vac (vv 7) va_nil)))))
  (vss_one (vs_set (i:=1) sc_walk.nd rfl (Or.inl rfl) (vv 7)))))))))))
  (vss_frz 4 (vss_one (vs_ret (ve_tup (vac (vv 4) (vac (vv 1) (vac (vv 3) va_nil)))))))))),w_walk⟩
theorem sc_things_of:FnScope ["tree","things","way","mark","text"] ["tree"] (defScope s_things_of):=⟨rfl,rfl,rfl,by decide +kernel,rfl,by decide +kernel,by decide +kernel⟩
theorem ok_things_of (F:Fun K "things_of" "things_of" s_things_of f fd) (B:Blt K mg cNoWay cMissing cNotFolder cAstray):FnOk P w K mg base CX0 1 f fd ["tree"] (spOf K g_things_of) :=
 F.okV sc_things_of len_things_of fun cdv A outer s H E hr=>⟨b_things_of,(vss_cons (vs_setO (i:=1) sc_things_of.nd rfl (Or.inl rfl) (ve_disp1 hr.dict (ve_tup va_nil) (ve_globT (ds:=[D.str ("folder" : Str),D.str ("" : Str)]) rfl (Classical.choose_spec B.g_ROOT_THING).1 ⟨(Classical.choose_spec B.g_ROOT_THING).2,by simp,reps_strs [("folder" : Str),("" : Str)]⟩)))
  (vss_cons (vs_for PassesOwn.never rfl (vi_any (vv 0)) (vg_tup rfl (vgs_cons (vg_name (i:=2) sc_things_of.nd rfl (Or.inl rfl)) (vgs_cons (vg_name (i:=3) sc_things_of.nd rfl (Or.inl rfl)) (vgs_cons (vg_name (i:=4) sc_things_of.nd rfl (Or.inl rfl)) vgs_nil))))
   (vss_one (vs_dput 1 hr.dict (vv 2) (ve_tup (vac (vv 3) (vac (vv 4) va_nil))))))
  (vss_one (vs_retO 1)))),w_things_of⟩
theorem sc_walked:FnScope ["tree","at","text","found"] ["tree","at","text"] (defScope s_walked):=⟨rfl,rfl,rfl,by decide +kernel,rfl,by decide +kernel,by decide +kernel⟩
theorem ok_walked (F:Fun K "walked" "walked" s_walked f fd) (B:Blt K mg cNoWay cMissing cNotFolder cAstray) (Cwords_of:CalX P w K mg base 3 "words_of" ["text"] (spOf K g_words_of)) (Cwalk:CalX P w K mg base 4 "walk" ["things","at","words","followed"] (spOf K g_walk)) (Cthings_of:Cal P w K mg base 1 "things_of" ["tree"] (spOf K g_things_of)) (Cstart_of:Cal P w K mg base 1 "start_of" ["rooted","at"] (spOf K g_start_of)):FnOk P w K mg base (CXR P w) 5 f fd ["tree","at","text"] (spOf K g_walked) :=
 F.okVX sc_walked len_walked fun cdv A outer s H E hr o=>⟨b_walked,(vss_cons (vs_set (i:=3) sc_walked.nd rfl (Or.inl rfl) (ve_calX Cwords_of o (hr.mono (by decide)) rfl (vac (vv 2) va_nil)))
  (vss_one (vs_ret (ve_calX Cwalk o (hr.mono (by decide)) rfl (vac (ve_cal Cthings_of (hr.mono (by decide)) rfl (vac (vv 0) va_nil)) (vac (ve_cal Cstart_of (hr.mono (by decide)) rfl (vac (ve_ix vx_seq (vv 3) ve_int) (vac (vv 1) va_nil))) (vac (ve_ix vx_seq (vv 3) ve_int) (vac ve_int va_nil)))))))),w_walked⟩
theorem sc_find_way:FnScope ["tree","at","text"] ["tree","at","text"] (defScope s_find_way):=⟨rfl,rfl,rfl,by decide +kernel,rfl,by decide +kernel,by decide +kernel⟩
theorem ok_find_way (F:Fun K "find_way" "find_way" s_find_way f fd) (B:Blt K mg cNoWay cMissing cNotFolder cAstray) (Cwalked:CalX P w K mg base 5 "walked" ["tree","at","text"] (spOf K g_walked)):FnOk P w K mg base (CXR P w) 6 f fd ["tree","at","text"] (spOf K g_find_way) :=
 F.okVX sc_find_way len_find_way fun cdv A outer s H E hr o=>⟨b_find_way,(vss_one (vs_ret (ve_ix vx_seq (ve_calX Cwalked o (hr.mono (by decide)) rfl (vac (vv 0) (vac (vv 1) (vac (vv 2) va_nil)))) ve_int))),w_find_way⟩
theorem sc_trail_of:FnScope ["tree","at","text"] ["tree","at","text"] (defScope s_trail_of):=⟨rfl,rfl,rfl,by decide +kernel,rfl,by decide +kernel,by decide +kernel⟩
theorem ok_trail_of (F:Fun K "trail_of" "trail_of" s_trail_of f fd) (B:Blt K mg cNoWay cMissing cNotFolder cAstray) (Cwalked:CalX P w K mg base 5 "walked" ["tree","at","text"] (spOf K g_walked)):FnOk P w K mg base (CXR P w) 6 f fd ["tree","at","text"] (spOf K g_trail_of) :=
 F.okVX sc_trail_of len_trail_of fun cdv A outer s H E hr o=>⟨b_trail_of,(vss_one (vs_ret (ve_ix vx_seq (ve_calX Cwalked o (hr.mono (by decide)) rfl (vac (vv 0) (vac (vv 1) (vac (vv 2) va_nil)))) ve_int))),w_trail_of⟩
theorem sc_l_walked:FnScope ["_law_tree","_law_at","_law_text"] ["_law_tree","_law_at","_law_text"] (defScope s_l_walked):=⟨rfl,rfl,rfl,by decide +kernel,rfl,by decide +kernel,by decide +kernel⟩
theorem ok_l_walked (F:Fun K "_law_walked" "_law_walked" s_l_walked f fd) (B:Blt K mg cNoWay cMissing cNotFolder cAstray) (Cfind_way:CalX P w K mg base 6 "find_way" ["tree","at","text"] (spOf K g_find_way)) (Ctrail_of:CalX P w K mg base 6 "trail_of" ["tree","at","text"] (spOf K g_trail_of)):FnOk P w K mg base CX0 7 f fd ["_law_tree","_law_at","_law_text"] (spOf K g_l_walked) :=
 F.okV sc_l_walked len_l_walked fun cdv A outer s H E hr=>⟨b_l_walked,(vss_one (vs_try (fun pn E EX' po1 o1=>(vss_one (vs_ret (ve_tup (vac ve_str (vac (ve_calX Cfind_way o1 (hr.mono (by decide)) rfl (vac (vv 0) (vac (vv 1) (vac (vv 2) va_nil)))) (vac (ve_calX Ctrail_of o1 (hr.mono (by decide)) rfl (vac (vv 0) (vac (vv 1) (vac (vv 2) va_nil)))) va_nil)))))))
   (vh_cons (yes:=["Missing"]) (no:=["NoWay","Astray","NotFolder"]) ⟨.ref cMissing,B.Missing,(cl_cons B.k_Missing B.m_Missing_Missing cl_nil),(cl_cons B.k_NoWay B.m_NoWay_Missing (cl_cons B.k_Astray B.m_Astray_Missing (cl_cons B.k_NotFolder B.m_NotFolder_Missing cl_nil)))⟩ rfl (fun e pn E=>(vss_one (vs_ret (ve_tup (vac ve_str (vac (ve_tup va_nil) (vac (ve_lst va_nil) va_nil))))))) (vh_cons (yes:=["NotFolder"]) (no:=["NoWay","Astray","Missing"]) ⟨.ref cNotFolder,B.NotFolder,(cl_cons B.k_NotFolder B.m_NotFolder_NotFolder cl_nil),(cl_cons B.k_NoWay B.m_NoWay_NotFolder (cl_cons B.k_Astray B.m_Astray_NotFolder (cl_cons B.k_Missing B.m_Missing_NotFolder cl_nil)))⟩ rfl (fun e pn E=>(vss_one (vs_ret (ve_tup (vac ve_str (vac (ve_tup va_nil) (vac (ve_lst va_nil) va_nil))))))) (vh_cons (yes:=["Astray"]) (no:=["NoWay","Missing","NotFolder"]) ⟨.ref cAstray,B.Astray,(cl_cons B.k_Astray B.m_Astray_Astray cl_nil),(cl_cons B.k_NoWay B.m_NoWay_Astray (cl_cons B.k_Missing B.m_Missing_Astray (cl_cons B.k_NotFolder B.m_NotFolder_Astray cl_nil)))⟩ rfl (fun e pn E=>(vss_one (vs_ret (ve_tup (vac ve_str (vac (ve_tup va_nil) (vac (ve_lst va_nil) va_nil))))))) vh_nil))))),w_l_walked⟩
theorem sc_text_of:FnScope ["_law_rooted","_law_words"] ["_law_rooted","_law_words"] (defScope s_text_of):=⟨rfl,rfl,rfl,by decide +kernel,rfl,by decide +kernel,by decide +kernel⟩
theorem ok_text_of (F:Fun K "_law_text_of" "_law_text_of" s_text_of f fd) (B:Blt K mg cNoWay cMissing cNotFolder cAstray):FnOk P w K mg base CX0 1 f fd ["_law_rooted","_law_words"] (spOf K g_text_of) :=
 F.okV sc_text_of len_text_of fun cdv A outer s H E hr=>⟨b_text_of,(vss_cons (vs_if (vt_val (vv 0))
   (vss_one (vs_ret (ve_op vo_add ve_str (ve_join ve_str (vv 1)))))
   vss_nil)
  (vss_one (vs_ret (ve_join ve_str (vv 1))))),w_text_of⟩
theorem sc_real:FnScope ["_law_things","_law_tree","_law_way"] ["_law_things","_law_tree","_law_way"] (defScope s_real):=⟨rfl,rfl,rfl,by decide +kernel,rfl,by decide +kernel,by decide +kernel⟩
theorem ok_real (F:Fun K "_law_real" "_law_real" s_real f fd) (B:Blt K mg cNoWay cMissing cNotFolder cAstray) (Cfind_way:CalX P w K mg base 6 "find_way" ["tree","at","text"] (spOf K g_find_way)):FnOk P w K mg base CX0 7 f fd ["_law_things","_law_tree","_law_way"] (spOf K g_real) :=
 F.okV sc_real len_real fun cdv A outer s H E hr=>⟨b_real,(vss_cons (vs_if (vw_t (vw_or (vt_not (vt_val (ve_isin .tuple rfl B.isinstance rfl B.tuple PyProof.Rows.Boot.«tuple» (vv 2)))) (vw_or1 (vw_t (vw_and (vt_cmp (vo_neD hr.units) (vv 2) (ve_tup va_nil)) (vw_and1 (vw_t (vw_or (vt_dnotin hr.dict (vv 2) (vv 0)) (vw_or1 (vt_cmp (vo_eq hr.units) (ve_ix vx_seq (ve_dget hr.dict (vv 0) (vv 2)) ve_int) ve_str))))))))))
   (vss_one (vs_ret ve_bl))
   vss_nil)
  (vss_one (vs_ret (ve_cmp (vo_eq hr.units) (ve_calN Cfind_way (hr.mono (by decide)) rfl (vac (vv 1) (vac (ve_tup va_nil) (vac (ve_op vo_add ve_str (ve_join ve_str (vv 2))) va_nil)))) (vv 2))))),w_real⟩
theorem sc_behind:FnScope ["_law_things","_law_over","_law_cells_here","_law_stem","_law_words","_law_under","_law_cell"] ["_law_things","_law_over","_law_cells_here","_law_stem"] (defScope s_behind):=⟨rfl,rfl,rfl,by decide +kernel,rfl,by decide +kernel,by decide +kernel⟩
theorem cs_behind0:CompScope (defScope s_behind) ["_law_things","_law_over","_law_cells_here","_law_stem","_law_words","_law_under","_law_cell"] ["_law_things","_law_over","_law_cells_here","_law_stem","_law_words","_law_under","_law_cell","_law_way"] ["_law_way"] ({ kind:=PySem.ScopeKind.function,names:=[ (PySem.Str.ofString ".0",PySem.NameKind.local),(PySem.Str.ofString "_law_way",PySem.NameKind.local),(PySem.Str.ofString "len",PySem.NameKind.globalImplicit),(PySem.Str.ofString "_law_over",PySem.NameKind.free)],isGenerator:=false,isCoroutine:=false,more:=[]:PySem.Scope }):=⟨rfl,by decide +kernel,by decide +kernel,by decide +kernel,by decide +kernel,rfl,by decide +kernel⟩
theorem ok_behind (F:Fun K "_law_behind" "_law_behind" s_behind f fd) (B:Blt K mg cNoWay cMissing cNotFolder cAstray) (Cmixed:Cal P w K mg base 1 "_law_mixed" ["_law_cell","_law_turn","_law_many"] (spOf K g_mixed)) (Cname_by:Cal P w K mg base 1 "_law_name_by" ["_law_stem","_law_v"] (spOf K g_name_by)):FnOk P w K mg base CX0 2 f fd ["_law_things","_law_over","_law_cells_here","_law_stem"] (spOfJ K g_behind 0) :=
 F.okJ (k:=0) sc_behind len_behind fun cdv A outer s H E hr=>⟨b_behind,(vss_cons (vs_setO (i:=4) sc_behind.nd rfl (Or.inl rfl) (ve_lst va_nil))
  (vss_lendJ (i:=0) (j:=5) sc_behind.nd rfl (Or.inl rfl) (vc_comp (M:=["_law_way"]) (vi_dictF 0) rfl cs_behind0 (fun cl C s2 H2 fp pn=>(vg_name (i:=7) (cs_behind0).nd rfl (Or.inl rfl))) (fun cl C s2 H2 fp pn=>(vfs_one (vw_t (vw_and (vt_cmp vo_gt (ve_fb vf_len rfl B.len PyProof.Rows.Boot.«len» (vv 7)) (ve_fb vf_len rfl B.len PyProof.Rows.Boot.«len» (vv 1))) (vw_and1 (vt_cmp (vo_eq hr.units) (ve_slice (vv 7) vp_none (vp_some (ve_fb vf_len rfl B.len PyProof.Rows.Boot.«len» (vv 1)))) (vv 1))))))) (fun cl C s2 H2 fp pn=>(vv 7)))
  (vss_cons (vs_if (vt_cmp vo_gt (ve_fb vf_len rfl B.len PyProof.Rows.Boot.«len» (vv 5)) ve_int)
   (vss_one (vs_setO (i:=4) sc_behind.nd rfl (Or.inl rfl) (ve_ft vf_list rfl B.list PyProof.Rows.Boot.«list» (ve_slice (ve_ix vx_seq (vv 5) (ve_cal Cmixed (hr.mono (by decide)) rfl (vac (ve_ix vx_seq (vv 2) ve_int) (vac ve_int (vac (ve_fb vf_len rfl B.len PyProof.Rows.Boot.«len» (vv 5)) va_nil))))) (vp_some (ve_fb vf_len rfl B.len PyProof.Rows.Boot.«len» (vv 1))) vp_none))))
   vss_nil)
  (vss_cons (vs_for PassesOwn.never rfl (vi_any (ve_slice (vv 2) (vp_some ve_int) vp_none)) (vg_name (i:=6) sc_behind.nd rfl (Or.inl rfl))
   (vss_one (vs_if (vt_cmp (vo_eq hr.units) (ve_cal Cmixed (hr.mono (by decide)) rfl (vac (vv 6) (vac ve_int (vac ve_int va_nil)))) ve_int)
   (vss_one (vs_append 4 (ve_ix vx_seq (ve_tup (vac ve_str (vac ve_str va_nil))) (ve_cal Cmixed (hr.mono (by decide)) rfl (vac (vv 6) (vac ve_int (vac ve_int va_nil)))))))
   (vss_one (vs_append 4 (ve_cal Cname_by (hr.mono (by decide)) rfl (vac (vv 3) (vac (ve_cal Cmixed (hr.mono (by decide)) rfl (vac (vv 6) (vac ve_int (vac ve_int va_nil)))) va_nil))))))))
  (vss_cons (vs_if (vt_cmp (vo_eq hr.units) (vv 4) (ve_lst va_nil))
   (vss_one (vs_retI (ve_lst (vac ve_str va_nil))))
   vss_nil)
  (vss_frz 4 (vss_one (vs_retI (vv 4))))))))),w_behind⟩
theorem sc_links:FnScope ["_law_steps","_law_count","_law_step"] ["_law_steps"] (defScope s_links):=⟨rfl,rfl,rfl,by decide +kernel,rfl,by decide +kernel,by decide +kernel⟩
theorem ok_links (F:Fun K "_law_links" "_law_links" s_links f fd) (B:Blt K mg cNoWay cMissing cNotFolder cAstray):FnOk P w K mg base CX0 1 f fd ["_law_steps"] (spOf K g_links) :=
 F.okV sc_links len_links fun cdv A outer s H E hr=>⟨b_links,(vss_cons (vs_set (i:=1) sc_links.nd rfl (Or.inl rfl) ve_int)
  (vss_cons (vs_for PassesOwn.never rfl (vi_any (vv 0)) (vg_name (i:=2) sc_links.nd rfl (Or.inl rfl))
   (vss_one (vs_if (vw_t (vw_and (vt_cmp (vo_neD hr.units) (ve_ix vx_seq (vv 2) ve_int) ve_str) (vw_and (vt_cmp (vo_neD hr.units) (ve_ix vx_seq (vv 2) ve_int) ve_str) (vw_and1 (vt_cmp (vo_neD hr.units) (ve_ix vx_seq (vv 2) ve_int) (ve_op vo_add (ve_ix vx_seq (vv 2) ve_int) (ve_tup (vac (ve_ix vx_seq (vv 2) ve_int) va_nil))))))))
   (vss_one (vs_aug (i:=1) sc_links.nd rfl (Or.inl rfl) ve_int))
   vss_nil)))
  (vss_one (vs_ret (vv 1))))),w_links⟩
theorem sc_meet:FnScope ["_law_first","_law_second","_law_whole"] ["_law_first","_law_second","_law_whole"] (defScope s_meet):=⟨rfl,rfl,rfl,by decide +kernel,rfl,by decide +kernel,by decide +kernel⟩
theorem ok_meet (F:Fun K "_law_meet" "_law_meet" s_meet f fd) (B:Blt K mg cNoWay cMissing cNotFolder cAstray) (Clinks:Cal P w K mg base 1 "_law_links" ["_law_steps"] (spOf K g_links)):FnOk P w K mg base CX0 2 f fd ["_law_first","_law_second","_law_whole"] (spOf K g_meet) :=
 F.okV sc_meet len_meet fun cdv A outer s H E hr=>⟨b_meet,(vss_cons (vs_if (vt_cmp (vo_eq hr.units) (ve_ix vx_seq (vv 1) ve_int) ve_str)
   (vss_cons (vs_if (vt_cmp vo_gt (ve_op vo_add (ve_cal Clinks (hr.mono (by decide)) rfl (vac (ve_ix vx_seq (vv 0) ve_int) va_nil)) (ve_cal Clinks (hr.mono (by decide)) rfl (vac (ve_ix vx_seq (vv 1) ve_int) va_nil))) ve_int)
   (vss_one (vs_ret (ve_cmp (vo_eq hr.units) (ve_ix vx_seq (vv 2) ve_int) ve_str)))
   vss_nil)
  (vss_one (vs_ret (ve_and (ve_cmp (vo_eq hr.units) (ve_ix vx_seq (vv 2) ve_int) ve_str) (ve_and (ve_cmp (vo_eq hr.units) (ve_ix vx_seq (vv 2) ve_int) (ve_ix vx_seq (vv 1) ve_int)) (ve_one (ve_cmp (vo_eq hr.units) (ve_ix vx_seq (vv 2) ve_int) (ve_op vo_add (ve_ix vx_seq (vv 0) ve_int) (ve_ix vx_seq (vv 1) ve_int)))))))))
   vss_nil)
  (vss_cons (vs_if (vt_cmp (vo_eq hr.units) (ve_cal Clinks (hr.mono (by decide)) rfl (vac (ve_ix vx_seq (vv 0) ve_int) va_nil)) ve_int)
   (vss_one (vs_ret (ve_cmp (vo_eq hr.units) (ve_ix vx_seq (vv 2) ve_int) (ve_ix vx_seq (vv 1) ve_int))))
   vss_nil)
  (vss_one (vs_ret (ve_or (ve_cmp (vo_eq hr.units) (ve_ix vx_seq (vv 2) ve_int) (ve_ix vx_seq (vv 1) ve_int)) (ve_one (ve_cmp (vo_eq hr.units) (ve_ix vx_seq (vv 2) ve_int) ve_str))))))),w_meet⟩
theorem sc_law:FnScope ["_law_script","_law_stem","_law_some","_law_many","_law_things","_law_spin","_law_at","_law_rooted","_law_words","_law_tree","_law_first","_law_over","_law_more","_law_whole"] ["_law_script"] (defScope s_law):=⟨rfl,rfl,rfl,by decide +kernel,rfl,by decide +kernel,by decide +kernel⟩
theorem ok_law (F:Fun K "law" "law" s_law f fd) (B:Blt K mg cNoWay cMissing cNotFolder cAstray) (Ccell_at:Cal P w K mg base 1 "_law_cell_at" ["_law_script","_law_k"] (spOf K g_cell_at)) (Cmixed:Cal P w K mg base 1 "_law_mixed" ["_law_cell","_law_turn","_law_many"] (spOf K g_mixed)) (Chall_by:Cal P w K mg base 3 "_law_hall_by" ["_law_cells_here","_law_stem"] (spOf K g_hall_by)) (Ccells:Cal P w K mg base 2 "_law_cells" ["_law_script","_law_first","_law_step","_law_many"] (spOf K g_cells)) (Cspun:Cal P w K mg base 2 "_law_spun" ["_law_things","_law_turn","_law_stem"] (spOfJ K g_spun 0)) (Caim_by:Cal P w K mg base 2 "_law_aim_by" ["_law_things","_law_cells_here","_law_stem"] (spOf K g_aim_by)) (Cdug:Cal P w K mg base 2 "_law_dug" ["_law_things","_law_over","_law_deep","_law_stem"] (spOfJ K g_dug 0)) (Ctree_of:Cal P w K mg base 1 "_law_tree_of" ["_law_things"] (spOf K g_tree_of)) (Cl_walked:Cal P w K mg base 7 "_law_walked" ["_law_tree","_law_at","_law_text"] (spOf K g_l_walked)) (Ctext_of:Cal P w K mg base 1 "_law_text_of" ["_law_rooted","_law_words"] (spOf K g_text_of)) (Creal:Cal P w K mg base 7 "_law_real" ["_law_things","_law_tree","_law_way"] (spOf K g_real)) (Cbehind:Cal P w K mg base 2 "_law_behind" ["_law_things","_law_over","_law_cells_here","_law_stem"] (spOfJ K g_behind 0)) (Cmeet:Cal P w K mg base 2 "_law_meet" ["_law_first","_law_second","_law_whole"] (spOf K g_meet)):FnOk P w K mg base CX0 8 f fd ["_law_script"] (spOf K g_law) :=
 F.okV sc_law len_law fun cdv A outer s H E hr=>⟨b_law,(vss_cons (vs_set (i:=1) sc_law.nd rfl (Or.inl rfl) (ve_cal Ccell_at (hr.mono (by decide)) rfl (vac (vv 0) (vac ve_int va_nil))))
  (vss_cons (vs_set (i:=2) sc_law.nd rfl (Or.inl rfl) (ve_cal Ccell_at (hr.mono (by decide)) rfl (vac (vv 0) (vac ve_int va_nil))))
  (vss_cons (vs_set (i:=3) sc_law.nd rfl (Or.inl rfl) (ve_op vo_add ve_int (ve_cal Cmixed (hr.mono (by decide)) rfl (vac (vv 2) (vac ve_int (vac ve_int va_nil))))))
  (vss_cons (vs_if (vt_cmp (vo_eq hr.units) (ve_cal Cmixed (hr.mono (by decide)) rfl (vac (vv 2) (vac ve_int (vac ve_int va_nil)))) ve_int)
   (vss_one (vs_set (i:=3) sc_law.nd rfl (Or.inl rfl) (ve_op vo_add ve_int (ve_cal Cmixed (hr.mono (by decide)) rfl (vac (vv 2) (vac ve_int (vac ve_int va_nil)))))))
   vss_nil)
  (vss_cons (vs_setO (i:=4) sc_law.nd rfl (Or.inl rfl) (ve_cal Chall_by (hr.mono (by decide)) rfl (vac (ve_cal Ccells (hr.mono (by decide)) rfl (vac (vv 0) (vac ve_int (vac ve_int (vac (vv 3) va_nil))))) (vac (vv 1) va_nil))))
  (vss_cons (vs_setCJ (i:=5) sc_law.nd rfl (Or.inl rfl) Cspun (hr.mono (by decide)) rfl (vait_here 4 (vac (ve_cal Cmixed (hr.mono (by decide)) rfl (vac (vv 2) (vac ve_int (vac ve_int va_nil)))) (vac (vv 1) va_nil))))
  (vss_cons (vs_unpL (i:=4) (i0:=6) (i1:=7) (i2:=8) sc_law.nd rfl rfl rfl (Or.inl rfl) (Or.inl rfl) (Or.inl rfl) rfl Caim_by (hr.mono (by decide)) rfl (vac (ve_cal Ccells (hr.mono (by decide)) rfl (vac (vv 0) (vac ve_int (vac ve_int (vac (ve_op vo_add ve_int (ve_cal Cmixed (hr.mono (by decide)) rfl (vac (vv 2) (vac ve_int (vac ve_int va_nil))))) va_nil))))) (vac (vv 1) va_nil)))
  (vss_cons (vs_if (vt_cmp (vo_eq hr.units) (ve_cal Cmixed (hr.mono (by decide)) rfl (vac (vv 2) (vac ve_int (vac ve_int va_nil)))) ve_int)
   (vss_cons (vs_set (i:=7) sc_law.nd rfl (Or.inl rfl) ve_bl)
  (vss_one (vs_setLJ (i:=8) sc_law.nd rfl (Or.inl rfl) rfl B.list Cdug (hr.mono (by decide)) rfl (vait_here 4 (vac (ve_tup va_nil) (vac (ve_op vo_add ve_int (ve_cal Cmixed (hr.mono (by decide)) rfl (vac (vv 2) (vac ve_int (vac ve_int va_nil))))) (vac (vv 1) va_nil)))))))
   vss_nil)
  (vss_cons (vs_if (vt_cmp (vo_eq hr.units) (vv 8) (ve_lst va_nil))
   (vss_one (vs_setO (i:=8) sc_law.nd rfl (Or.inl rfl) (ve_lst (vac ve_str va_nil))))
   vss_nil)
  (vss_cons (vs_if (vw_t (vw_and (vt_val (vv 7)) (vw_and1 (vt_cmp (vo_neD hr.units) (vv 5) (ve_tup va_nil)))))
   (vss_one (vs_setO (i:=8) sc_law.nd rfl (Or.inl rfl) (ve_op vo_add (ve_op vo_mulL (ve_ft vf_list rfl B.list PyProof.Rows.Boot.«list» (vv 5)) (ve_cal Cmixed (hr.mono (by decide)) rfl (vac (vv 2) (vac ve_int (vac ve_int va_nil))))) (vv 8))))
   vss_nil)
  (vss_frz 8 (vss_cons (vs_set (i:=9) sc_law.nd rfl (Or.inl rfl) (ve_calC (i:=4) Ctree_of (hr.mono (by decide)) rfl va_nil))
  (vss_cons (vs_set (i:=10) sc_law.nd rfl (Or.inl rfl) (ve_cal Cl_walked (hr.mono (by decide)) rfl (vac (vv 9) (vac (vv 6) (vac (ve_cal Ctext_of (hr.mono (by decide)) rfl (vac (vv 7) (vac (vv 8) va_nil))) va_nil)))))
  (vss_cons (vs_set (i:=11) sc_law.nd rfl (Or.inl rfl) (ve_tup va_nil))
  (vss_cons (vs_if (vt_cmp (vo_eq hr.units) (ve_ix vx_seq (vv 10) ve_int) ve_str)
   (vss_cons (vs_if (vt_not (vt_val (ve_calC (i:=4) Creal (hr.mono (by decide)) rfl (vac (vv 9) (vac (ve_ix vx_seq (vv 10) ve_int) va_nil)))))
   (vss_one (vs_ret ve_bl))
   vss_nil)
  (vss_one (vs_set (i:=11) sc_law.nd rfl (Or.inl rfl) (ve_ix vx_seq (vv 10) ve_int))))
   vss_nil)
  (vss_cons (vs_setCJ (i:=12) sc_law.nd rfl (Or.inl rfl) Cbehind (hr.mono (by decide)) rfl (vait_here 4 (vac (vv 11) (vac (ve_cal Ccells (hr.mono (by decide)) rfl (vac (vv 0) (vac ve_int (vac ve_int (vac (ve_op vo_add ve_int (ve_cal Cmixed (hr.mono (by decide)) rfl (vac (vv 2) (vac ve_int (vac ve_int va_nil))))) va_nil))))) (vac (vv 1) va_nil)))))
  (vss_cons (vs_if (vw_t (vw_and (vt_cmp (vo_neD hr.units) (vv 5) (ve_tup va_nil)) (vw_and1 (vt_cmp vo_gt (ve_cal Cmixed (hr.mono (by decide)) rfl (vac (vv 2) (vac ve_int (vac ve_int va_nil)))) ve_int))))
   (vss_one (vs_set (i:=12) sc_law.nd rfl (Or.inl rfl) (ve_op vo_add (ve_op vo_add (ve_op vo_mulL (ve_lst (vac ve_str va_nil)) (ve_fb vf_len rfl B.len PyProof.Rows.Boot.«len» (vv 11))) (ve_op vo_mulL (ve_ft vf_list rfl B.list PyProof.Rows.Boot.«list» (vv 5)) (ve_cal Cmixed (hr.mono (by decide)) rfl (vac (vv 2) (vac ve_int (vac ve_int va_nil)))))) (vv 12))))
   vss_nil)
  (vss_cons (vs_set (i:=12) sc_law.nd rfl (Or.inl rfl) (ve_slice (vv 12) vp_none (vp_some (ve_op vo_sub ve_int (ve_fb vf_len rfl B.len PyProof.Rows.Boot.«len» (vv 8))))))
  (vss_cons (vs_set (i:=13) sc_law.nd rfl (Or.inl rfl) (ve_cal Cl_walked (hr.mono (by decide)) rfl (vac (vv 9) (vac (vv 6) (vac (ve_cal Ctext_of (hr.mono (by decide)) rfl (vac (vv 7) (vac (ve_op vo_add (vv 8) (vv 12)) va_nil))) va_nil)))))
  (vss_cons (vs_if (vt_cmp (vo_neD hr.units) (ve_ix vx_seq (vv 10) ve_int) ve_str)
   (vss_one (vs_ret (ve_cmp (vo_eq hr.units) (ve_ix vx_seq (vv 13) ve_int) (ve_ix vx_seq (vv 10) ve_int))))
   vss_nil)
  (vss_cons (vs_if (vw_t (vw_and (vt_cmp (vo_neD hr.units) (vv 11) (ve_tup va_nil)) (vw_and1 (vt_cmp (vo_eq hr.units) (ve_ix vx_seq (ve_dget hr.dict (vv 4) (vv 11)) ve_int) ve_str))))
   (vss_one (vs_ret (ve_cmp (vo_eq hr.units) (ve_ix vx_seq (vv 13) ve_int) ve_str)))
   vss_nil)
  (vss_one (vs_ret (ve_cal Cmeet (hr.mono (by decide)) rfl (vac (vv 10) (vac (ve_cal Cl_walked (hr.mono (by decide)) rfl (vac (vv 9) (vac (vv 11) (vac (ve_cal Ctext_of (hr.mono (by decide)) rfl (vac ve_bl (vac (vv 12) va_nil))) va_nil)))) (vac (vv 13) va_nil))))))))))))))))))))))))))),w_law⟩
end
theorem all_mk {l:PySem.W.OpenLaw} {w:World} {K:PySem.W.Frag} {h:Heap} {mg:Str→Option Value} {fa:Addr} (X:K.In h) (G:h.Ns mainGlobals mg) (hfa:mg "law" = some (.ref fa))
  {f29:Addr} {od29 an29:Option Addr} {sl29:Array (Option Value)} {oc29 kV29 dc29 pm29 cd29 ct29:Value}
  {cNoWay:Addr}
  {cMissing:Addr}
  {cNotFolder:Addr}
  {cAstray:Addr}
  {gt_NAME_SIGNS:Tok}
  {gt_LONGEST_NAME:Tok}
  {gt_MOST_WORDS:Tok}
  {ad_ROOT_THING:Addr} {ob_ROOT_THING:Obj} {sn_ROOT_THING:Nat} {gt_ROOT_THING0:Tok} {gt_ROOT_THING1:Tok}
  {gt_MOST_LINKS:Tok}
  (d1:DefAt K "is_name" s_is_name)
  (d2:DefAt K "above" s_above)
  (d3:DefAt K "is_word" s_is_word)
  (d4:DefAt K "words_of" s_words_of)
  (d5:DefAt K "step" s_step)
  (d6:DefAt K "things_of" s_things_of)
  (d7:DefAt K "start_of" s_start_of)
  (d8:DefAt K "one_more" s_one_more)
  (d9:DefAt K "walk" s_walk)
  (d10:DefAt K "walked" s_walked)
  (d11:DefAt K "find_way" s_find_way)
  (d12:DefAt K "trail_of" s_trail_of)
  (d13:DefAt K "_law_cell_at" s_cell_at)
  (d14:DefAt K "_law_cells" s_cells)
  (d15:DefAt K "_law_mixed" s_mixed)
  (d16:DefAt K "_law_name_by" s_name_by)
  (d17:DefAt K "_law_link_by" s_link_by)
  (d18:DefAt K "_law_hall_by" s_hall_by)
  (d19:DefAt K "_law_tree_of" s_tree_of)
  (d20:DefAt K "_law_aim_by" s_aim_by)
  (d21:DefAt K "_law_text_of" s_text_of)
  (d22:DefAt K "_law_walked" s_l_walked)
  (d23:DefAt K "_law_links" s_links)
  (d24:DefAt K "_law_real" s_real)
  (d25:DefAt K "_law_behind" s_behind)
  (d26:DefAt K "_law_dug" s_dug)
  (d27:DefAt K "_law_spun" s_spun)
  (d28:DefAt K "_law_meet" s_meet)
  (a29:PySem.W.nsIn K mainGlobals "law" = some (some (.ref f29))) (l29:K.lookup f29=some ⟨oc29,od29,.func (PySem.W.fnOf "law" "law" (defArgs s_law) (defBody s_law) (defScope s_law) .none kV29 dc29 pm29 an29 cd29 ct29),sl29⟩) (c29:PySem.W.codeIn K cd29 "law" = true) (k29:PySem.W.keepIn K (.ref f29)=true)
  (q_NoWay:PySem.W.nsIn K mainGlobals "NoWay" = some (some (.ref cNoWay)))
  (q_Missing:PySem.W.nsIn K mainGlobals "Missing" = some (some (.ref cMissing)))
  (q_NotFolder:PySem.W.nsIn K mainGlobals "NotFolder" = some (some (.ref cNotFolder)))
  (q_Astray:PySem.W.nsIn K mainGlobals "Astray" = some (some (.ref cAstray)))
  (x_NoWay:OwnX K cNoWay)
  (x_Astray:OwnX K cAstray)
  (x_Missing:OwnX K cMissing)
  (x_NotFolder:OwnX K cNotFolder)
  (m_NoWay_Astray:PySem.W.exmOne K (.ref cNoWay) (.ref cAstray)=some false)
  (m_Astray_Astray:PySem.W.exmOne K (.ref cAstray) (.ref cAstray)=some true)
  (m_Missing_Astray:PySem.W.exmOne K (.ref cMissing) (.ref cAstray)=some false)
  (m_NotFolder_Astray:PySem.W.exmOne K (.ref cNotFolder) (.ref cAstray)=some false)
  (m_NoWay_NotFolder:PySem.W.exmOne K (.ref cNoWay) (.ref cNotFolder)=some false)
  (m_Astray_NotFolder:PySem.W.exmOne K (.ref cAstray) (.ref cNotFolder)=some false)
  (m_Missing_NotFolder:PySem.W.exmOne K (.ref cMissing) (.ref cNotFolder)=some false)
  (m_NotFolder_NotFolder:PySem.W.exmOne K (.ref cNotFolder) (.ref cNotFolder)=some true)
  (m_NoWay_Missing:PySem.W.exmOne K (.ref cNoWay) (.ref cMissing)=some false)
  (m_Astray_Missing:PySem.W.exmOne K (.ref cAstray) (.ref cMissing)=some false)
  (m_Missing_Missing:PySem.W.exmOne K (.ref cMissing) (.ref cMissing)=some true)
  (m_NotFolder_Missing:PySem.W.exmOne K (.ref cNotFolder) (.ref cMissing)=some false)
  (g_NAME_SIGNS:PySem.W.nsIn K mainGlobals "NAME_SIGNS" = some (some (.str ("abcdefghijklmnopqrstuvwxyz0123456789" : Str) gt_NAME_SIGNS)))
  (g_LONGEST_NAME:PySem.W.nsIn K mainGlobals "LONGEST_NAME" = some (some (.int 12 gt_LONGEST_NAME)))
  (g_MOST_WORDS:PySem.W.nsIn K mainGlobals "MOST_WORDS" = some (some (.int 40 gt_MOST_WORDS)))
  (g_ROOT_THING:PySem.W.nsIn K mainGlobals "ROOT_THING" = some (some (.ref ad_ROOT_THING)))
  (h_ROOT_THING:K.lookup ad_ROOT_THING=some ob_ROOT_THING)
  (u_ROOT_THING:ob_ROOT_THING.cls=.type "tuple")
  (w_ROOT_THING:ob_ROOT_THING.data=.seq #[.str ("folder" : Str) gt_ROOT_THING0,.str ("" : Str) gt_ROOT_THING1] sn_ROOT_THING)
  (g_MOST_LINKS:PySem.W.nsIn K mainGlobals "MOST_LINKS" = some (some (.int 8 gt_MOST_LINKS)))
  (z_all:PySem.W.nsIn K mainGlobals "all" = some none)
  (z_isinstance:PySem.W.nsIn K mainGlobals "isinstance" = some none)
  (z_len:PySem.W.nsIn K mainGlobals "len" = some none)
  (z_list:PySem.W.nsIn K mainGlobals "list" = some none)
  (z_range:PySem.W.nsIn K mainGlobals "range" = some none)
  (z_sorted:PySem.W.nsIn K mainGlobals "sorted" = some none)
  (z_str:PySem.W.nsIn K mainGlobals "str" = some none)
  (z_tuple:PySem.W.nsIn K mainGlobals "tuple" = some none) :
  ∃ fd:FuncData,(∀ (s:Shared) (v:Value),BindsTo s fd ⟨[v],[]⟩ [("_law_script",v)])∧∀ base:Heap,K.In base→base.Ns mainGlobals mg→FnOk l.prog w K mg base CX0 8 fa fd ["_law_script"] (spOf K g_law):=by
 have e:=hfa.symm.trans (PySem.W.mg_of X G a29)
 cases e
 have B:Blt K mg cNoWay cMissing cNotFolder cAstray:=⟨PySem.W.mg_of X G q_NoWay,q_NoWay,PySem.W.mg_of X G q_Missing,q_Missing,PySem.W.mg_of X G q_NotFolder,q_NotFolder,PySem.W.mg_of X G q_Astray,q_Astray,x_NoWay,x_Astray,x_Missing,x_NotFolder,m_NoWay_Astray,m_Astray_Astray,m_Missing_Astray,m_NotFolder_Astray,m_NoWay_NotFolder,m_Astray_NotFolder,m_Missing_NotFolder,m_NotFolder_NotFolder,m_NoWay_Missing,m_Astray_Missing,m_Missing_Missing,m_NotFolder_Missing,PySem.W.mg_none_of X G z_all,PySem.W.mg_none_of X G z_isinstance,PySem.W.mg_none_of X G z_len,PySem.W.mg_none_of X G z_list,PySem.W.mg_none_of X G z_range,PySem.W.mg_none_of X G z_sorted,PySem.W.mg_none_of X G z_str,PySem.W.mg_none_of X G z_tuple,⟨_,PySem.W.mg_of X G g_NAME_SIGNS⟩,⟨_,PySem.W.mg_of X G g_LONGEST_NAME⟩,⟨_,PySem.W.mg_of X G g_MOST_WORDS⟩,⟨_,PySem.W.mg_of X G g_ROOT_THING,.inr ⟨_,_,_,h_ROOT_THING,u_ROOT_THING,w_ROOT_THING,Nat.le_of_ble_eq_true rfl,(.cons ⟨_,rfl⟩ (.cons ⟨_,rfl⟩ .nil))⟩⟩,⟨_,PySem.W.mg_of X G g_MOST_LINKS⟩⟩
 have F29:=fun_mk (st:=s_law) l29 c29 k29
 have b29:=F29.binds1 (ps:=["_law_script"]) rfl fun _ _ _ _ _ _ _=>rfl
 refine ⟨PySem.W.fnOf "law" "law" (defArgs s_law) (defBody s_law) (defScope s_law) .none kV29 dc29 pm29 an29 cd29 ct29,fun s v=>.of_eq rfl,fun base _ _=>?_⟩
 have Ccell_at:=calD l.prog w base X G d13 (fun F=>ok_cell_at F B) fun F=>F.binds2 (ps:=["_law_script","_law_k"]) rfl fun _ _ _ _ _ _ _ _=>rfl
 have Cmixed:=calD l.prog w base X G d15 (fun F=>ok_mixed F B) fun F=>F.binds3 (ps:=["_law_cell","_law_turn","_law_many"]) rfl fun _ _ _ _ _ _ _ _ _=>rfl
 have Cname_by:=calD l.prog w base X G d16 (fun F=>ok_name_by F B) fun F=>F.binds2 (ps:=["_law_stem","_law_v"]) rfl fun _ _ _ _ _ _ _ _=>rfl
 have Clink_by:=calD l.prog w base X G d17 (fun F=>ok_link_by F B Cmixed) fun F=>F.binds4 (ps:=["_law_ways","_law_over","_law_cell","_law_name"]) rfl fun _ _ _ _ _ _ _ _ _ _=>rfl
 have Chall_by:=calD l.prog w base X G d18 (fun F=>ok_hall_by F B Cmixed Cname_by Clink_by) fun F=>F.binds2 (ps:=["_law_cells_here","_law_stem"]) rfl fun _ _ _ _ _ _ _ _=>rfl
 have Ccells:=calD l.prog w base X G d14 (fun F=>ok_cells F B Ccell_at) fun F=>F.binds4 (ps:=["_law_script","_law_first","_law_step","_law_many"]) rfl fun _ _ _ _ _ _ _ _ _ _=>rfl
 have Cspun:=calD l.prog w base X G d27 (fun F=>ok_spun F B Cname_by) fun F=>F.binds3 (ps:=["_law_things","_law_turn","_law_stem"]) rfl fun _ _ _ _ _ _ _ _ _=>rfl
 have Caim_by:=calD l.prog w base X G d20 (fun F=>ok_aim_by F B Cmixed Cname_by) fun F=>F.binds3 (ps:=["_law_things","_law_cells_here","_law_stem"]) rfl fun _ _ _ _ _ _ _ _ _=>rfl
 have Cdug:=calD l.prog w base X G d26 (fun F=>ok_dug F B Cname_by) fun F=>F.binds4 (ps:=["_law_things","_law_over","_law_deep","_law_stem"]) rfl fun _ _ _ _ _ _ _ _ _ _=>rfl
 have Ctree_of:=calD l.prog w base X G d19 (fun F=>ok_tree_of F B) fun F=>F.binds1 (ps:=["_law_things"]) rfl fun _ _ _ _ _ _ _=>rfl
 have Cis_name:=calD l.prog w base X G d1 (fun F=>ok_is_name F B) fun F=>F.binds1 (ps:=["thing"]) rfl fun _ _ _ _ _ _ _=>rfl
 have Cis_word:=calD l.prog w base X G d3 (fun F=>ok_is_word F B Cis_name) fun F=>F.binds1 (ps:=["text"]) rfl fun _ _ _ _ _ _ _=>rfl
 have Cwords_of:=calDX l.prog w base X G d4 (fun F=>ok_words_of F B Cis_word) fun F=>F.binds1 (ps:=["text"]) rfl fun _ _ _ _ _ _ _=>rfl
 have Cabove:=calD l.prog w base X G d2 (fun F=>ok_above F B) fun F=>F.binds1 (ps:=["way"]) rfl fun _ _ _ _ _ _ _=>rfl
 have Cstep:=calD l.prog w base X G d5 (fun F=>ok_step F B Cabove) fun F=>F.binds2 (ps:=["way","word"]) rfl fun _ _ _ _ _ _ _ _=>rfl
 have Cone_more:=calDX l.prog w base X G d8 (fun F=>ok_one_more F B) fun F=>F.binds1 (ps:=["followed"]) rfl fun _ _ _ _ _ _ _=>rfl
 have Cstart_of:=calD l.prog w base X G d7 (fun F=>ok_start_of F B) fun F=>F.binds2 (ps:=["rooted","at"]) rfl fun _ _ _ _ _ _ _ _=>rfl
 have Cwalk:=calDX l.prog w base X G d9 (fun F=>ok_walk F B Cstep Cone_more Cwords_of Cstart_of) fun F=>F.binds4 (ps:=["things","at","words","followed"]) rfl fun _ _ _ _ _ _ _ _ _ _=>rfl
 have Cthings_of:=calD l.prog w base X G d6 (fun F=>ok_things_of F B) fun F=>F.binds1 (ps:=["tree"]) rfl fun _ _ _ _ _ _ _=>rfl
 have Cwalked:=calDX l.prog w base X G d10 (fun F=>ok_walked F B Cwords_of Cwalk Cthings_of Cstart_of) fun F=>F.binds3 (ps:=["tree","at","text"]) rfl fun _ _ _ _ _ _ _ _ _=>rfl
 have Cfind_way:=calDX l.prog w base X G d11 (fun F=>ok_find_way F B Cwalked) fun F=>F.binds3 (ps:=["tree","at","text"]) rfl fun _ _ _ _ _ _ _ _ _=>rfl
 have Ctrail_of:=calDX l.prog w base X G d12 (fun F=>ok_trail_of F B Cwalked) fun F=>F.binds3 (ps:=["tree","at","text"]) rfl fun _ _ _ _ _ _ _ _ _=>rfl
 have Cl_walked:=calD l.prog w base X G d22 (fun F=>ok_l_walked F B Cfind_way Ctrail_of) fun F=>F.binds3 (ps:=["_law_tree","_law_at","_law_text"]) rfl fun _ _ _ _ _ _ _ _ _=>rfl
 have Ctext_of:=calD l.prog w base X G d21 (fun F=>ok_text_of F B) fun F=>F.binds2 (ps:=["_law_rooted","_law_words"]) rfl fun _ _ _ _ _ _ _ _=>rfl
 have Creal:=calD l.prog w base X G d24 (fun F=>ok_real F B Cfind_way) fun F=>F.binds3 (ps:=["_law_things","_law_tree","_law_way"]) rfl fun _ _ _ _ _ _ _ _ _=>rfl
 have Cbehind:=calD l.prog w base X G d25 (fun F=>ok_behind F B Cmixed Cname_by) fun F=>F.binds4 (ps:=["_law_things","_law_over","_law_cells_here","_law_stem"]) rfl fun _ _ _ _ _ _ _ _ _ _=>rfl
 have Clinks:=calD l.prog w base X G d23 (fun F=>ok_links F B) fun F=>F.binds1 (ps:=["_law_steps"]) rfl fun _ _ _ _ _ _ _=>rfl
 have Cmeet:=calD l.prog w base X G d28 (fun F=>ok_meet F B Clinks) fun F=>F.binds3 (ps:=["_law_first","_law_second","_law_whole"]) rfl fun _ _ _ _ _ _ _ _ _=>rfl
 exact ok_law F29 B Ccell_at Cmixed Chall_by Ccells Cspun Caim_by Cdug Ctree_of Cl_walked Ctext_of Creal Cbehind Cmeet
theorem walk {l:PySem.W.OpenLaw} {q:Program} {loose:List Str} {XP:(Str→Option Value)→Heap→Prop} {YP:World→Heap→Prop} {d:DefRec} {K:Params→PySem.W.Frag} (hn:l.most=some 63) (hdf:d.params.defaults=[])
  (hY:∀ (w:World) (h:Heap),YP w h→(K w.params).In h)
  (F:∀ (w:World) (mg:Str→Option Value) (fa:Addr) (h:Heap),(K w.params).In h→h.Ns mainGlobals mg→mg d.name=some (.ref fa) →
   ∃ fd:FuncData,(∀ (s:Shared) (u:Value),BindsTo s fd ⟨[u],[]⟩ [("_law_script",u)])∧∀ base:Heap,(K w.params).In base→base.Ns mainGlobals mg→FnOk l.prog w (K w.params) mg base CX0 8 fa fd ["_law_script"] (spOf (K w.params) g_law)) :
  PySem.W.WalkO q loose XP YP l.row.toRowW d [] (fun f vs=>PySem.call f vs) :=
 L2.walk_of (n:=63) (k:=8) (x:="_law_script") (CX:=fun _=>CX0) (sp:=fun w=>spOf (K w.params) g_law) hn (by decide) hdf ⟨rfl,by decide,by decide⟩ hY F (fun w H a ns hl _ hS=>law_sp ns hl hS) fun _ _ _ _ _ z=>z
end K52
open PySem PySem.W PyProof.Rows
set_option maxRecDepth 100000 in
set_option maxHeartbeats 0 in
def PySem.W.Fast.tw7091865518609442422 := ()
def PySem.W.Fast.tw43924960324412307 := ()
def PySem.W.Fast.tw2010184831625676224 := ()
def PySem.W.Fast.tw12740680588107521663 := ()
def PySem.W.Fast.tw14818116383549550009 := ()
def PySem.W.Fast.tw12324017506793012360 := ()
def PySem.W.Fast.tw864759552251822971 := ()
def PySem.W.Fast.tw12009129186008573391 := ()
def PySem.W.Fast.tw13590682144364347248 := ()
def PySem.W.Fast.tw16112740072530675535 := ()
def PySem.W.Fast.tw3007513283561155638 := ()
def PySem.W.Fast.tw15225113558663449497 := ()
def PySem.W.Fast.tw10525795482608980131 := ()
def PySem.W.Fast.tw3382964169153041974 := ()
def PySem.W.Fast.tw6384334254454200713 := ()
def PySem.W.Fast.tw10660541259906193260 := ()
def PySem.W.Fast.tw6560208415002862614 := ()
def PySem.W.Fast.tw9527862599739684641 := ()
def PySem.W.Fast.tw5627462973780043177 := ()
def PySem.W.Fast.tw7962817362107959728 := ()
def PySem.W.Fast.tw3837611470800352970 := ()
def PySem.W.Fast.tw14134948446355247562 := ()
def PySem.W.Fast.tw2495641148446704401 := ()
def PySem.W.Fast.tw5885211884971062256 := ()
def PySem.W.Fast.tw17736715042902650250 := ()
def PySem.W.Fast.tw8267030502464562427 := ()
def PySem.W.Fast.tw1208170217048005241 := ()
def PySem.W.Fast.tw12285455910492577743 := ()
def PySem.W.Fast.tw14430018502866287486 := ()
def PySem.W.Fast.tw18262992271317412176 := ()
def PySem.W.Fast.tw6901908046363868964 := ()
def PySem.W.Fast.tw5212237244062178110 := ()
def PySem.W.Fast.tw4806331645506035655 := ()
def PySem.W.Fast.tw8523018254759561895 := ()
def PySem.W.Fast.tw9098979204948529041 := ()
def PySem.W.Fast.tw10333404760771528801 := ()
def PySem.W.Fast.tw6353624633659604004 := ()
def PySem.W.Fast.tw7663278238901866461 := ()
def PySem.W.Fast.tw17085509192037411837 := ()
def PySem.W.Fast.tw2294895807025019436 := ()
def PySem.W.Fast.tw11547387075872990086 := ()
def PySem.W.Fast.tw8672927580120656565 := ()
def PySem.W.Fast.tw2777769711433975204 := ()
def PySem.W.Fast.tw8268597291185569150 := ()
def PySem.W.Fast.tw15376597799746851800 := ()
def PySem.W.Fast.tw3752036418861666977 := ()
def PySem.W.Fast.tw16052098183201880230 := ()
def PySem.W.Fast.tw11787926397643315285 := ()
def PySem.W.Fast.tw18297794214446624496 := ()
def PySem.W.Fast.tw12219319537131671543 := ()
def PySem.W.Fast.tw1596403589296153260 := ()
def PySem.W.Fast.tw17489228109986487200 := ()
def PySem.W.Fast.tw14094594435353175462 := ()
def PySem.W.Fast.tw11338638470651821870 := ()
def PySem.W.Fast.tw1573702674253139164 := ()
def PySem.W.Fast.tw9281395707975723537 := ()
def PySem.W.Fast.tw16920415952751722134 := ()
def PySem.W.Fast.tw2694395230418362851 := ()
def PySem.W.Fast.tw16315469233053688832 := ()
def PySem.W.Fast.tw582398937147189083 := ()
def PySem.W.Fast.tw17409239106476973799 := ()
def PySem.W.Fast.tw12249694254828611633 := ()
def PySem.W.Fast.tw4847223462030666791 := ()
def PySem.W.Fast.tw13465656052085515788 := ()
def PySem.W.Fast.tw3946994047863333535 := ()
def PySem.W.Fast.tw901654313969829227 := ()
def PySem.W.Fast.tw3872476053093924035 := ()
def PySem.W.Fast.tw6818473041320654207 := ()
def PySem.W.Fast.tw17078046564401508693 := ()
def PySem.W.Fast.tw9447213906048739074 := ()
def PySem.W.Fast.tw7596438048240116343 := ()
def PySem.W.Fast.tw8887628279977427440 := ()
def PySem.W.Fast.tw16124807137537963584 := ()
def PySem.W.Fast.tw15643117800058926264 := ()
def PySem.W.Fast.tw17697635459050952435 := ()
def PySem.W.Fast.tw18437875905403606387 := ()
def PySem.W.Fast.tw8269823040774834357 := ()
def PySem.W.Fast.tw4350529543761399769 := ()
def PySem.W.Fast.tw2349675775801407158 := ()
def PySem.W.Fast.tw3150665827075844373 := ()
def PySem.W.Fast.tw18246087147433028176 := ()
def PySem.W.Fast.tw17790020814852342030 := ()
def PySem.W.Fast.tw9567384980959536198 := ()
def PySem.W.Fast.tw75874300211383668 := ()
def PySem.W.Fast.tw13105823513996387519 := ()
def PySem.W.Fast.tw9770454548516601034 := ()
def PySem.W.Fast.tw5991717100773729013 := ()
def PySem.W.Fast.tw16920152486730647349 := ()
def PySem.W.Fast.tw16744672299434959230 := ()
def PySem.W.Fast.tw5416590063793658519 := ()
def PySem.W.Fast.tw16918584496088865968 := ()
def PySem.W.Fast.tw913827235170478013 := ()
def PySem.W.Fast.tw10100080384410029668 := ()
def PySem.W.Fast.tw4384781956165779546 := ()
def PySem.W.Fast.tw8718115981421584336 := ()
def PySem.W.Fast.tw11329708502391337573 := ()
def PySem.W.Fast.tw10353133329396688046 := ()
def PySem.W.Fast.tw2520790725588604271 := ()
def PySem.W.Fast.tw4394389595522176561 := ()
def PySem.W.Fast.tw4635314510947960910 := ()
def PySem.W.Fast.tw15860142904907646253 := ()
def PySem.W.Fast.tw1506764504255415934 := ()
def PySem.W.Fast.tw4910030224345563522 := ()
def PySem.W.Fast.tw11697393351365620863 := ()
def PySem.W.Fast.tw3333475644846112106 := ()
def PySem.W.Fast.tw1013396506572932436 := ()
def PySem.W.Fast.tw6566806092853547140 := ()
def PySem.W.Fast.tw4814712285114648209 := ()
def PySem.W.Fast.tw7437478850479291719 := ()
def PySem.W.Fast.tw6728174451716835929 := ()
def PySem.W.Fast.tw4157815360011683951 := ()
def PySem.W.Fast.tw7655456521676703794 := ()
def PySem.W.Fast.tw8215214973028827628 := ()
def PySem.W.Fast.tw1834916544934003745 := ()
def PySem.W.Fast.tw1033821964811290297 := ()
def PySem.W.Fast.tw9805255680439088575 := ()
def PySem.W.Fast.tw11055862392062456286 := ()
def PySem.W.Fast.tw4139473987652882591 := ()
def PySem.W.Fast.tw15229348291000141081 := ()
def PySem.W.Fast.tw4235236332656252492 := ()
def PySem.W.Fast.tw1823002406132823110 := ()
def PySem.W.Fast.tw4227728478611186273 := ()
def PySem.W.Fast.tw8632789196804650923 := ()
def PySem.W.Fast.tw4502472903388821820 := ()
def PySem.W.Fast.tw9398080132690313021 := ()
def PySem.W.Fast.tw6496647402038694174 := ()
def PySem.W.Fast.tw12350716150514167595 := ()
def PySem.W.Fast.tw17939653987934305373 := ()
def PySem.W.Fast.tw12820161458378990191 := ()
def PySem.W.Fast.tw8506202897191387955 := ()
def PySem.W.Fast.tw1893635121992530162 := ()
def PySem.W.Fast.tw11377260889504277446 := ()
def PySem.W.Fast.tw5983449695059134782 := ()
def PySem.W.Fast.tw16538008984844676105 := ()
def PySem.W.Fast.tw7384362946633861216 := ()
def PySem.W.Fast.tw14408297758116449352 := ()
def PySem.W.Fast.tw1173712376325097062 := ()
def PySem.W.Fast.tw3315051399813235656 := ()
def PySem.W.Fast.tw17337053202327594665 := ()
def PySem.W.Fast.tw9944743088736223072 := ()
def PySem.W.Fast.tw1831854643331986814 := ()
def PySem.W.Fast.tw17469341310038411884 := ()
def PySem.W.Fast.tw12394686892891381223 := ()
def PySem.W.Fast.tw17444619528108840182 := ()
def PySem.W.Fast.tw17164568417032319416 := ()
def PySem.W.Fast.tw9720947667647202961 := ()
def PySem.W.Fast.tw4358214297602089147 := ()
def PySem.W.Fast.tw14256334618844496066 := ()
def PySem.W.Fast.tw2798198286986507740 := ()
def PySem.W.Fast.tw2067542270145663735 := ()
def PySem.W.Fast.tw12022427368194771093 := ()
def PySem.W.Fast.tw11443050505385386240 := ()
def PySem.W.Fast.tw15947499330093103454 := ()
def PySem.W.Fast.tw1577006776503473351 := ()
def PySem.W.Fast.tw9798824939161399989 := ()
def PySem.W.Fast.tw13925326810152853895 := ()
def PySem.W.Fast.tw13021160464673777816 := ()
def PySem.W.Fast.tw17038841872460872965 := ()
def PySem.W.Fast.tw12675942296838398999 := ()
def PySem.W.Fast.tw12717531733902512673 := ()
def PySem.W.Fast.tw8775747880467218640 := ()
def PySem.W.Fast.tw14962519678892806232 := ()
def PySem.W.Fast.tw9479969004895431021 := ()
def PySem.W.Fast.tw17996935080791677014 := ()
def PySem.W.Fast.tw12383848232433583223 := ()
def PySem.W.Fast.tw13377228746686451472 := ()
def PySem.W.Fast.tw14490410898384029961 := ()
def PySem.W.Fast.tw1024696907691766747 := ()
def PySem.W.Fast.tw14012588087350153667 := ()
def PySem.W.Fast.tw3315269563796454426 := ()
def PySem.W.Fast.tw6943213571732301736 := ()
def PySem.W.Fast.tw10309454676786364703 := ()
def PySem.W.Fast.tw14801662323740077603 := ()
def PySem.W.Fast.tw2527496705308993034 := ()
def PySem.W.Fast.tw344458577293172069 := ()
def PySem.W.Fast.tw13485688877474865117 := ()
def PySem.W.Fast.tw4386649560162259069 := ()
def PySem.W.Fast.tw7871303659528127125 := ()
def PySem.W.Fast.tw10194887472568965883 := ()
def PySem.W.Fast.tw11352076932043283978 := ()
def PySem.W.Fast.tw12997677290873407603 := ()
def PySem.W.Fast.tw9043898825349632576 := ()
def PySem.W.Fast.tw4010452053865209310 := ()
def PySem.W.Fast.tw6857673326712216979 := ()
def PySem.W.Fast.tw17993448427091943754 := ()
def PySem.W.Fast.tw10975953428633569220 := ()
def PySem.W.Fast.tw6717823095347746387 := ()
def PySem.W.Fast.tw6917913176858464202 := ()
def PySem.W.Fast.tw14510609150080607944 := ()
def PySem.W.Fast.tw4294769115099311901 := ()
def PySem.W.Fast.tw9232086400776908076 := ()
def PySem.W.Fast.tw16265990626722136116 := ()
def PySem.W.Fast.tw11545681885893658743 := ()
def PySem.W.Fast.tw8112811852818617263 := ()
def PySem.W.Fast.tw7773651644833456727 := ()
def PySem.W.Fast.tw7473694587603559408 := ()
def PySem.W.Fast.tw9146587948218429065 := ()
def PySem.W.Fast.tw6631511133295013306 := ()
def PySem.W.Fast.tw10772364944996152895 := ()
def PySem.W.Fast.tw7593162917896428067 := ()
def PySem.W.Fast.tw11959696406569079104 := ()
def PySem.W.Fast.tw17102457107111856691 := ()
def PySem.W.Fast.tw9223969065739969386 := ()
def PySem.W.Fast.tw4776479922903762131 := ()
def PySem.W.Fast.tw13209661587400817793 := ()
def PySem.W.Fast.tw13293198017346747371 := ()
def PySem.W.Fast.tw14640019629963346454 := ()
def PySem.W.Fast.tw11458794418489852409 := ()
def PySem.W.Fast.tw13441418322458450539 := ()
def PySem.W.Fast.tw5060126574872225011 := ()
def PySem.W.Fast.tw8299886122846589987 := ()
def PySem.W.Fast.tw13034183790869624772 := ()
def PySem.W.Fast.tw5075743966530686621 := ()
def PySem.W.Fast.tw14675762504663426821 := ()
def PySem.W.Fast.tw12178992634176281455 := ()
def PySem.W.Fast.tw10418463868683214658 := ()
def PySem.W.Fast.tw14827661845938669658 := ()
def PySem.W.Fast.tw14165642348990983858 := ()
def PySem.W.Fast.tw2931749793308193108 := ()
def PySem.W.Fast.tw16365257750482470928 := ()
def PySem.W.Fast.tw2169883338642203050 := ()
def PySem.W.Fast.tw6546283247627521392 := ()
def PySem.W.Fast.tw5859463673211117564 := ()
def PySem.W.Fast.tw976235066459704373 := ()
def PySem.W.Fast.tw9634573088408606466 := ()
def PySem.W.Fast.tw18357815448703882922 := ()
def PySem.W.Fast.tw2817493452260089887 := ()
def PySem.W.Fast.tw15943789414027569437 := ()
def PySem.W.Fast.tw11624220578589067811 := ()
def PySem.W.Fast.tw5471815408803438915 := ()
def PySem.W.Fast.tw10371741080713141403 := ()
def PySem.W.Fast.tw13524951255796898750 := ()
def PySem.W.Fast.tw16173453302213036600 := ()
def PySem.W.Fast.tw2189234630403506556 := ()
def PySem.W.Fast.tw4015618690764182600 := ()
def PySem.W.Fast.tw12836201150674520169 := ()
def PySem.W.Fast.tw16033014051481158907 := ()
def PySem.W.Fast.tw6688345397790645594 := ()
def PySem.W.Fast.tw8328754089306742462 := ()
def PySem.W.Fast.tw7178119298393682760 := ()
def PySem.W.Fast.tw10222449110793454435 := ()
def PySem.W.Fast.tw15110930300572532543 := ()
def PySem.W.Fast.tw1199239092599170502 := ()
def PySem.W.Fast.tw1096120379679210590 := ()
def PySem.W.Fast.tw13619031396964635183 := ()
def PySem.W.Fast.tw14067055462897672716 := ()
def PySem.W.Fast.tw17728499940068374406 := ()
def PySem.W.Fast.tw8980885205758078302 := ()
def PySem.W.Fast.tw10045030034561689803 := ()
def PySem.W.Fast.tw1056620392245120472 := ()
def PySem.W.Fast.tw16713881281089665899 := ()
def PySem.W.Fast.tw6910487737779020583 := ()
def PySem.W.Fast.tw7746609507441685674 := ()
def PySem.W.Fast.tw17490646979783369304 := ()
def PySem.W.Fast.tw13501510281531821094 := ()
def PySem.W.Fast.tw14405588880927310914 := ()
def PySem.W.Fast.tw16607689217430480007 := ()
def PySem.W.Fast.tw1354935603966966341 := ()
def PySem.W.Fast.tw9598612709198524039 := ()
def PySem.W.Fast.tw207556393660394103 := ()
theorem PySem.Challenge.cw_glasslayers_k52_walks_behind_walks_holds : PySem.Challenge.rw_glasslayers_k52_walks_behind_walks.Holds := by
 w_on; o_law; k_head; (case hw=>w_witness2)
 k_fill
 refine K52.walk (l:=PySem.Challenge.rw_glasslayers_k52_walks_behind_walks) rfl rfl (fun w h Y=>PySem.W.kIn_of Y) ?F
 case F =>
  intro w mg fa h KX G hmg
  refine' K52.all_mk KX G hmg ?d1 ?d2 ?d3 ?d4 ?d5 ?d6 ?d7 ?d8 ?d9 ?d10 ?d11 ?d12 ?d13 ?d14 ?d15 ?d16 ?d17 ?d18 ?d19 ?d20 ?d21 ?d22 ?d23 ?d24 ?d25 ?d26 ?d27 ?d28 ?a29 ?l29 ?c29 ?k29 ?q_NoWay ?q_Missing ?q_NotFolder ?q_Astray ?x_NoWay ?x_Astray ?x_Missing ?x_NotFolder ?m_NoWay_Astray ?m_Astray_Astray ?m_Missing_Astray ?m_NotFolder_Astray ?m_NoWay_NotFolder ?m_Astray_NotFolder ?m_Missing_NotFolder ?m_NotFolder_NotFolder ?m_NoWay_Missing ?m_Astray_Missing ?m_Missing_Missing ?m_NotFolder_Missing ?g_NAME_SIGNS ?g_LONGEST_NAME ?g_MOST_WORDS ?g_ROOT_THING ?h_ROOT_THING ?u_ROOT_THING ?w_ROOT_THING ?g_MOST_LINKS ?z_all ?z_isinstance ?z_len ?z_list ?z_range ?z_sorted ?z_str ?z_tuple
  (case d1=>refine' L2.at_mk ?a ?b ?c ?d; (case a=>k_is); (case b=>k_is); (case c=>k_is); (case d=>k_is))
  (case d2=>refine' L2.at_mk ?a ?b ?c ?d; (case a=>k_is); (case b=>k_is); (case c=>k_is); (case d=>k_is))
  (case d3=>refine' L2.at_mk ?a ?b ?c ?d; (case a=>k_is); (case b=>k_is); (case c=>k_is); (case d=>k_is))
  (case d4=>refine' L2.at_mk ?a ?b ?c ?d; (case a=>k_is); (case b=>k_is); (case c=>k_is); (case d=>k_is))
  (case d5=>refine' L2.at_mk ?a ?b ?c ?d; (case a=>k_is); (case b=>k_is); (case c=>k_is); (case d=>k_is))
  (case d6=>refine' L2.at_mk ?a ?b ?c ?d; (case a=>k_is); (case b=>k_is); (case c=>k_is); (case d=>k_is))
  (case d7=>refine' L2.at_mk ?a ?b ?c ?d; (case a=>k_is); (case b=>k_is); (case c=>k_is); (case d=>k_is))
  (case d8=>refine' L2.at_mk ?a ?b ?c ?d; (case a=>k_is); (case b=>k_is); (case c=>k_is); (case d=>k_is))
  (case d9=>refine' L2.at_mk ?a ?b ?c ?d; (case a=>k_is); (case b=>k_is); (case c=>k_is); (case d=>k_is))
  (case d10=>refine' L2.at_mk ?a ?b ?c ?d; (case a=>k_is); (case b=>k_is); (case c=>k_is); (case d=>k_is))
  (case d11=>refine' L2.at_mk ?a ?b ?c ?d; (case a=>k_is); (case b=>k_is); (case c=>k_is); (case d=>k_is))
  (case d12=>refine' L2.at_mk ?a ?b ?c ?d; (case a=>k_is); (case b=>k_is); (case c=>k_is); (case d=>k_is))
  (case d13=>refine' L2.at_mk ?a ?b ?c ?d; (case a=>k_is); (case b=>k_is); (case c=>k_is); (case d=>k_is))
  (case d14=>refine' L2.at_mk ?a ?b ?c ?d; (case a=>k_is); (case b=>k_is); (case c=>k_is); (case d=>k_is))
  (case d15=>refine' L2.at_mk ?a ?b ?c ?d; (case a=>k_is); (case b=>k_is); (case c=>k_is); (case d=>k_is))
  (case d16=>refine' L2.at_mk ?a ?b ?c ?d; (case a=>k_is); (case b=>k_is); (case c=>k_is); (case d=>k_is))
  (case d17=>refine' L2.at_mk ?a ?b ?c ?d; (case a=>k_is); (case b=>k_is); (case c=>k_is); (case d=>k_is))
  (case d18=>refine' L2.at_mk ?a ?b ?c ?d; (case a=>k_is); (case b=>k_is); (case c=>k_is); (case d=>k_is))
  (case d19=>refine' L2.at_mk ?a ?b ?c ?d; (case a=>k_is); (case b=>k_is); (case c=>k_is); (case d=>k_is))
  (case d20=>refine' L2.at_mk ?a ?b ?c ?d; (case a=>k_is); (case b=>k_is); (case c=>k_is); (case d=>k_is))
  (case d21=>refine' L2.at_mk ?a ?b ?c ?d; (case a=>k_is); (case b=>k_is); (case c=>k_is); (case d=>k_is))
  (case d22=>refine' L2.at_mk ?a ?b ?c ?d; (case a=>k_is); (case b=>k_is); (case c=>k_is); (case d=>k_is))
  (case d23=>refine' L2.at_mk ?a ?b ?c ?d; (case a=>k_is); (case b=>k_is); (case c=>k_is); (case d=>k_is))
  (case d24=>refine' L2.at_mk ?a ?b ?c ?d; (case a=>k_is); (case b=>k_is); (case c=>k_is); (case d=>k_is))
  (case d25=>refine' L2.at_mk ?a ?b ?c ?d; (case a=>k_is); (case b=>k_is); (case c=>k_is); (case d=>k_is))
  (case d26=>refine' L2.at_mk ?a ?b ?c ?d; (case a=>k_is); (case b=>k_is); (case c=>k_is); (case d=>k_is))
  (case d27=>refine' L2.at_mk ?a ?b ?c ?d; (case a=>k_is); (case b=>k_is); (case c=>k_is); (case d=>k_is))
  (case d28=>refine' L2.at_mk ?a ?b ?c ?d; (case a=>k_is); (case b=>k_is); (case c=>k_is); (case d=>k_is))
  (case a29=>k_is)
  (case l29=>k_is)
  (case c29=>k_is)
  (case k29=>k_is)
  (case q_NoWay=>k_is)
  (case q_Missing=>k_is)
  (case q_NotFolder=>k_is)
  (case q_Astray=>k_is)
  (case x_NoWay=>(delta L2.OwnX; k_exc))
  (case x_Astray=>(delta L2.OwnX; k_exc))
  (case x_Missing=>(delta L2.OwnX; k_exc))
  (case x_NotFolder=>(delta L2.OwnX; k_exc))
  (case m_NoWay_Astray=>kts_exm)
  (case m_Astray_Astray=>kts_exm)
  (case m_Missing_Astray=>kts_exm)
  (case m_NotFolder_Astray=>kts_exm)
  (case m_NoWay_NotFolder=>kts_exm)
  (case m_Astray_NotFolder=>kts_exm)
  (case m_Missing_NotFolder=>kts_exm)
  (case m_NotFolder_NotFolder=>kts_exm)
  (case m_NoWay_Missing=>kts_exm)
  (case m_Astray_Missing=>kts_exm)
  (case m_Missing_Missing=>kts_exm)
  (case m_NotFolder_Missing=>kts_exm)
  (case g_NAME_SIGNS=>k_is)
  (case g_LONGEST_NAME=>k_is)
  (case g_MOST_WORDS=>k_is)
  (case g_ROOT_THING=>k_is)
  (case h_ROOT_THING=>k_is)
  (case u_ROOT_THING=>rfl)
  (case w_ROOT_THING=>rfl)
  (case g_MOST_LINKS=>k_is)
  (case z_all=>k_is)
  (case z_isinstance=>k_is)
  (case z_len=>k_is)
  (case z_list=>k_is)
  (case z_range=>k_is)
  (case z_sorted=>k_is)
  (case z_str=>k_is)
  (case z_tuple=>k_is)
