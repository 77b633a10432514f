import PyProof.Rows.All
import Wide.All
import OpenK.AllK
import Wide.FinOn
import Lean
import PyProof.EqAt
import PyProof.EqKinds
import PyProof.TupleCall
import PySem.Challenge.RW_glasslayers_k25_what_hangs
set_option compiler.extract_closed false
set_option Elab.async false
set_option linter.all false
set_option maxRecDepth 100000
namespace L2
open PySem PySem.Spec PyProof.Rows
abbrev Key:=Sum Int Str
def keyIs:Key→Value→Bool
 | .inl k,v=>Value.isInt k v
 | .inr x,v=>Value.isStrOf x v
def keyH (w:World):Key→Int
 | .inl k=>hashInt k
 | .inr x=>hashStr w x
theorem keyIs_shape:∀ {k:Key} {v:Value},keyIs k v=true→(∃ i t,k=Sum.inl i∧v=Value.int i t)∨(∃ x t,k=Sum.inr x∧v=Value.str x t)
 | .inl i,v,h=>by
  obtain ⟨t,e⟩:=Value.isInt_shape (k:=i) (v:=v) h
  exact .inl ⟨i,t,rfl,e⟩
 | .inr x,v,h=>by
  obtain ⟨t,e⟩:=Value.isStrOf_shape (x:=x) (v:=v) h
  exact .inr ⟨x,t,rfl,e⟩
theorem keyIs_int (i:Int) (t:Tok):keyIs (.inl i) (.int i t)=true:=by simp [keyIs,Value.isInt]
theorem keyIs_str (x:Str) (t:Tok):keyIs (.inr x) (.str x t)=true:=by simp [keyIs,Value.isStrOf]
theorem key_ll (a b:Int):decide ((Sum.inl a:Key)=Sum.inl b)=(a == b):=by
 by_cases e:a=b
 ·subst e; simp
 ·have h:¬ (Sum.inl a:Key)=Sum.inl b:=fun q=>e (Sum.inl.inj q)
  rw [decide_eq_false h]
  exact (beq_eq_false_iff_ne.mpr e).symm
theorem key_rr (a b:Str):decide ((Sum.inr a:Key)=Sum.inr b)=decide (a=b):=by
 by_cases e:a=b
 ·subst e; simp
 ·have h:¬ (Sum.inr a:Key)=Sum.inr b:=fun q=>e (Sum.inr.inj q)
  rw [decide_eq_false h,decide_eq_false e]
theorem key_lr (a:Int) (b:Str):decide ((Sum.inl a:Key)=Sum.inr b)=false:=decide_eq_false (fun q=>nomatch q)
theorem key_rl (a:Str) (b:Int):decide ((Sum.inr a:Key)=Sum.inl b)=false:=decide_eq_false (fun q=>nomatch q)
def mixKind (prog:Program) (w:World):PySem.KeyKind prog w Key where
 is:=keyIs
 hash:=keyH w
 inj:=fun v a b ha hb=>by
  rcases keyIs_shape ha with ⟨i,t,rfl,rfl⟩ | ⟨x,t,rfl,rfl⟩
  ·rcases keyIs_shape hb with ⟨j,u,rfl,e⟩ | ⟨y,u,rfl,e⟩
   ·injection e with e1 _; rw [e1]
   ·exact nomatch e
  ·rcases keyIs_shape hb with ⟨j,u,rfl,e⟩ | ⟨y,u,rfl,e⟩
   ·exact nomatch e
   ·injection e with e1 _; rw [e1]
 byValue:=fun k v h=>by
  rcases keyIs_shape h with ⟨i,t,rfl,rfl⟩ | ⟨x,t,rfl,rfl⟩ <;> rfl
 pyHash:=fun hv h=>by
  rcases keyIs_shape hv with ⟨i,t,rfl,rfl⟩ | ⟨x,t,rfl,rfl⟩
  ·exact wpAny_pyHash_int h
  ·exact wpAny_pyHash_str h
 eqBool:=fun hu hv h=>by
  rcases keyIs_shape hu with ⟨i,t,rfl,rfl⟩ | ⟨x,t,rfl,rfl⟩
  ·rcases keyIs_shape hv with ⟨j,u,rfl,rfl⟩ | ⟨y,u,rfl,rfl⟩
   ·rw [key_ll] at h; exact wpAny_eqBool_int h
   ·rw [key_lr] at h; exact SeqAt.EqAt.int_str i t y u _ _ _ _ h
  ·rcases keyIs_shape hv with ⟨j,u,rfl,rfl⟩ | ⟨y,u,rfl,rfl⟩
   ·rw [key_rl] at h; exact SeqAt.EqAt.str_int x t j u _ _ _ _ h
   ·rw [key_rr] at h; exact wpAny_eqBool_str h
 «strs»:=fun k x t v h=>by
  rcases keyIs_shape h with ⟨i,u,rfl,e⟩ | ⟨y,u,rfl,e⟩
  ·exact nomatch e
  ·injection e with e1 _
   subst e1
   cases v <;> rfl
theorem mixKind_int (prog:Program) (w:World) (i:Int) (t:Tok):(mixKind prog w).is (.inl i) (.int i t)=true:=keyIs_int i t
theorem mixKind_str (prog:Program) (w:World) (x:Str) (t:Tok):(mixKind prog w).is (.inr x) (.str x t)=true:=keyIs_str x t
end L2
namespace L2
open PySem PySem.Spec PyProof.Rows
inductive V where
 | non | bl (b:Bool) | int (i:Int) | str (x:Str) | byt (b:Array UInt8) | flt (b:UInt64) | ref (a:Addr) | ty (n:String)
 deriving DecidableEq
def RelV:V→Value→Prop
 | .non,u=>u=Value.none
 | .bl b,u=>u=Value.bool b
 | .int i,u=>∃ t,u=Value.int i t
 | .str x,u=>∃ t,u=Value.str x t
 | .byt b,u=>∃ t,u=Value.bytes b t
 | .flt b,u=>∃ t,u=Value.float b t
 | .ref a,u=>u=Value.ref a
 | .ty n,u=>u=Value.type n
abbrev Vals:List V→List Value→Prop:=Paired RelV
theorem Vals.length {xs:List V} {us:List Value} (r:Vals xs us):xs.length=us.length:=Paired.length r
theorem Vals.get:∀ {xs:List V} {us:List Value} {i:Nat} {x:V},Vals xs us→xs[i]?=some x→∃ u,us[i]?=some u∧RelV x u
 | _,_,_,_,.nil,e=>by simp at e
 | _,_,0,_,.cons r _,e=>by simp at e; subst e; exact ⟨_,rfl,r⟩
 | _,_,i+1,x,.cons _ t,e=>by
  obtain ⟨u,h1,h2⟩:=Vals.get (i:=i) (x:=x) t (by simpa using e)
  exact ⟨u,by simpa using h1,h2⟩
theorem Vals.append:∀ {xs ys:List V} {us ws:List Value},Vals xs us→Vals ys ws→Vals (xs++ys) (us++ws)
 | _,_,_,_,.nil,s=>s
 | _,_,_,_,.cons r t,s=>.cons r (Vals.append t s)
theorem Vals.take:∀ {xs:List V} {us:List Value} (n:Nat),Vals xs us→Vals (xs.take n) (us.take n)
 | _,_,0,_=>.nil
 | _,_,_+1,.nil=>.nil
 | _,_,n+1,.cons r t=>.cons r (Vals.take n t)
theorem Vals.drop:∀ {xs:List V} {us:List Value} (n:Nat),Vals xs us→Vals (xs.drop n) (us.drop n)
 | _,_,0,r=>r
 | _,_,_+1,.nil=>.nil
 | _,_,n+1,.cons _ t=>Vals.drop n t
def RelO:Option V→Option Value→Prop
 | some v,some u=>RelV v u
 | none,none=>True
 | _,_=>False
def KV {κ:Type}:List (κ × V)→List (κ × Value)→Prop:=Paired fun (p:κ × V) (q:κ × Value)=>p.1=q.1∧RelV p.2 q.2
def kV:Key→V
 | .inl i=>.int i
 | .inr x=>.str x
inductive HO where
 | lst (xs:List V)
 | tup (xs:List V)
 | dK (kvs:List (Key × V)) | dT (kvs:List (List Key × V))
 | set (S:Int→Bool) (n:Nat)
 | ins (C dx:Addr) (fs:List (Str × V))
 | own (x:Addr)
 | xd (fs:List (Str × V))
 | met (f x:Addr)
 | rng (lo hi:Int)
 | frz (o:Obj) (u:HO)
 | tbl (ps:Array Value)
 | ext (φ:Heap→Prop)
abbrev Hp:=Addr→Option HO
def upd (H:Hp) (a:Addr) (o:HO):Hp:=fun b=>if b=a then some o else H b
theorem upd_same {H:Hp} {a:Addr} {o:HO}:upd H a o a=some o:=by unfold upd; rw [if_pos rfl]
theorem upd_ne {H:Hp} {a b:Addr} {o:HO} (h:b≠a):upd H a o b=H b:=by unfold upd; rw [if_neg h]
theorem ne_of {H:Hp} {a b:Addr} {o u:HO} (h:H a=some o) (h':H b=some u) (d:o≠u):a≠b:=by
 intro e; subst e; rw [h] at h'; exact d (Option.some.inj h')
theorem ne_of_none {H:Hp} {a b:Addr} {o:HO} (h:H a=some o) (h':H b=none):a≠b:=by
 intro e; subst e; rw [h] at h'; cases h'
section
variable (P:Program) (w:World)
def ObjOk (H:Hp) (h:Heap) (a:Addr):HO→Prop
 | .lst xs=>xs.length≤sizeLine∧∃ (its:List Value) (n:Nat),Vals xs its∧h.get? a=some { cls:=.type "list",data:=.seq its.toArray n }
 | .tup xs=>xs.length≤sizeLine∧∃ its:List Value,Vals xs its∧IsTup h a its.toArray
 | .dK kvs=>kvs.length≤sizeLine∧(a == sysModules)=false∧∃ vs,KV kvs vs∧h.DictOf (mixKind P w) a vs
 | .dT kvs=>kvs.length≤sizeLine∧(a == sysModules)=false∧∃ xs:List (List Key × Addr × Value),
   Paired (fun (p:List Key × V) (q:List Key × Addr × Value)=>p.1=q.1∧H q.2.1=some (.tup (p.1.map kV))∧RelV p.2 q.2.2) kvs xs ∧
   ∃ o es ep,h.get? a=some o∧o.ExactDict∧o.data=.dict es ep∧es.toList=xs.map (entryOfKey (tupleKind (mixKind P w)))∧(xs.map (·.1)).Nodup
 | .set S n=>h.SetOf (intKind P w) a S n
 | .ins C dx fs=>H dx=some (.own a)∧fs.length≤1000∧dx≠a∧h.get? a=some (PySem.W.instObj C dx) ∧
   ∃ mA,h.Ns1 dx mA∧(∀ f,RelO (fs.lookup f) (mA f))∧PySem.Within mA (fs.map (·.1))
 | .own _=>∃ o,h.get? a=some o
 | .xd fs=>∃ mA,h.Ns1 a mA∧∀ f,RelO (fs.lookup f) (mA f)
 | .rng lo hi=>∃ t u v,h.get? a=some { cls:=.type "range",data:=.fields #[.int lo t,.int hi u,.int 1 v] }
 | .frz o u=>h.get? a=some o∧ObjOk H h a u
 | .tbl ps=>h.get? a=some { cls:=.none,data:=.fields ps }
 | .met f x=>h.get? a=some (PySem.W.methodObj (.ref f) (.ref x))
 | .ext φ=>φ h∧(∃ o,h.get? a=some o)∧∀ h1 h2:Heap,φ h1→(∀ o,h1.get? a=some o→h2.get? a=some o)→φ h2
def HOk (H:Hp) (h:Heap):Prop:=∀ a o,H a=some o→ObjOk P w H h a o
end
section
variable {P:Program} {w:World} {H H':Hp} {h h':Heap} {a:Addr} {o:HO}
theorem ObjOk.lt (x:ObjOk P w H h a o):a < h.objs.size:=by
 cases o with
 | lst xs=>obtain ⟨_,_,_,_,e⟩:=x; exact Heap.lt_size e
 | tup xs=>obtain ⟨_,_,_,p⟩:=x; exact p.lt
 | dK kvs=>obtain ⟨_,_,_,_,o,_,_,e,_⟩:=x; exact Heap.lt_size e
 | dT kvs=>obtain ⟨_,_,_,_,o,_,_,e,_⟩:=x; exact Heap.lt_size e
 | set S n=>obtain ⟨o,_,_,_,e,_⟩:=x; exact Heap.lt_size e
 | ins C dx fs=>obtain ⟨_,_,_,e,_⟩:=x; exact Heap.lt_size e
 | own y=>obtain ⟨_,e⟩:=x; exact Heap.lt_size e
 | xd fs=>obtain ⟨_,⟨_,_,_,e,_⟩,_⟩:=x; exact Heap.lt_size e
 | rng lo hi=>obtain ⟨_,_,_,e⟩:=x; exact Heap.lt_size e
 | frz ob u=>obtain ⟨e,_⟩:=x; exact Heap.lt_size e
 | tbl ps=>exact Heap.lt_size (show h.get? a=some _ from x)
 | met f y=>exact Heap.lt_size (show h.get? a=some _ from x)
 | ext φ=>obtain ⟨_,⟨_,e⟩,_⟩:=x; exact Heap.lt_size e
theorem Paired.mapP {α β:Type} {F G:α→β→Prop}:∀ {l₁:List α} {l₂:List β},Paired F l₁ l₂→(∀ a b,F a b→G a b)→Paired G l₁ l₂
 | _,_,.nil,_=>.nil
 | _,_,.cons r t,f=>.cons (f _ _ r) (Paired.mapP t f)
theorem ObjOk.stay (x:ObjOk P w H h a o) (k:∀ b u,(b=a∨H b=some (.own a))→h.get? b=some u→h'.get? b=some u)
  (ho:∀ b,H b=some (.own a)→H' b=some (.own a)) (ht:∀ b xs,H b=some (.tup xs)→H' b=some (.tup xs)):ObjOk P w H' h' a o:=by
 induction o with
 | lst xs=>obtain ⟨z,its,n,r,e⟩:=x; exact ⟨z,its,n,r,k _ _ (.inl rfl) e⟩
 | tup xs=>obtain ⟨z,its,r,ob,e,c⟩:=x; exact ⟨z,its,r,ob,k _ _ (.inl rfl) e,c⟩
 | dK kvs=>obtain ⟨z,y,vs,r,ob,es,ep,e,c⟩:=x; exact ⟨z,y,vs,r,ob,es,ep,k _ _ (.inl rfl) e,c⟩
 | dT kvs =>
  obtain ⟨z,y,xs,r,ob,es,ep,e,c⟩:=x
  exact ⟨z,y,xs,Paired.mapP r fun p q z=>⟨z.1,ht _ _ z.2.1,z.2.2⟩,ob,es,ep,k _ _ (.inl rfl) e,c⟩
 | set S n=>obtain ⟨ob,es,ep,t,e,c⟩:=x; exact ⟨ob,es,ep,t,k _ _ (.inl rfl) e,c⟩
 | ins C dx fs =>
  obtain ⟨d,z,ne,e,mA,⟨od,es,ep,e2,c⟩,r⟩:=x
  exact ⟨ho _ d,z,ne,k _ _ (.inl rfl) e,mA,⟨od,es,ep,k _ _ (.inr d) e2,c⟩,r⟩
 | own y=>obtain ⟨ob,e⟩:=x; exact ⟨ob,k _ _ (.inl rfl) e⟩
 | xd fs=>obtain ⟨mA,⟨od,es,ep,e,c⟩,r⟩:=x; exact ⟨mA,⟨od,es,ep,k _ _ (.inl rfl) e,c⟩,r⟩
 | rng lo hi=>obtain ⟨t,u,v,e⟩:=x; exact ⟨t,u,v,k _ _ (.inl rfl) e⟩
 | frz ob u ih=>obtain ⟨e,q⟩:=x; exact ⟨k _ _ (.inl rfl) e,ih q⟩
 | tbl ps =>
  have e:h.get? a=some { cls:=.none,data:=.fields ps }:=x
  show h'.get? a=some { cls:=.none,data:=.fields ps }
  exact k a _ (.inl rfl) e
 | met f y =>
  have e:h.get? a=some (PySem.W.methodObj (.ref f) (.ref y)):=x
  show h'.get? a=some (PySem.W.methodObj (.ref f) (.ref y))
  exact k a _ (.inl rfl) e
 | ext φ=>obtain ⟨p,⟨o,e⟩,st⟩:=x; exact ⟨st _ _ p fun o q=>k _ _ (.inl rfl) q,⟨o,k _ _ (.inl rfl) e⟩,st⟩
theorem HOk.lt (x:HOk P w H h) (e:H a=some o):a < h.objs.size:=(x a o e).lt
theorem HOk.fresh (x:HOk P w H h) (e:h.objs.size≤a):H a=none:=by
 cases q:H a with
 | none=>rfl
 | some u=>exact absurd (Nat.lt_of_lt_of_le (x.lt q) e) (Nat.lt_irrefl _)
theorem HOk.kept (x:HOk P w H h) (k:∀ b u,h.get? b=some u→h'.get? b=some u):HOk P w H h':=fun a o e =>
 (x a o e).stay (fun b u _ q=>k b u q) (fun _ q=>q) fun _ _ q=>q
theorem HOk.laid (x:HOk P w H h) (k:∀ b u,h.get? b=some u→h'.get? b=some u) (hp:h.objs.size≤a) (new:ObjOk P w (upd H a o) h' a o):HOk P w (upd H a o) h':=fun b u e=>by
 have hn:=x.fresh hp
 by_cases hb:b=a
 ·subst hb; rw [upd_same] at e; cases e; exact new
 ·rw [upd_ne hb] at e
  exact (x b u e).stay (fun c v _ q=>k c v q) (fun c q=>by rw [upd_ne (ne_of_none q hn)]; exact q) fun c xs q=>by rw [upd_ne (ne_of_none q hn)]; exact q
end
def Rd (H:Hp) (a:Addr) (u:HO):Prop:=H a=some u∨∃ o,H a=some (.frz o u)
theorem Rd.ok {P:Program} {w:World} {H:Hp} {h:Heap} {a:Addr} {u:HO} (r:Rd H a u) (x:HOk P w H h):ObjOk P w H h a u:=by
 rcases r with r | ⟨o,r⟩
 ·exact x a u r
 ·obtain ⟨_,q⟩:=x a _ r
  exact q
def Mut:Option HO→Prop
 | some (.lst _)=>True
 | some (.dK _)=>True
 | some (.dT _)=>True
 | some (.set _ _)=>True
 | some (.ins _ _ _)=>True
 | some (.ext _)=>True
 | _=>False
section
variable {P:Program} {w:World} {H:Hp} {h h':Heap} {x e:Addr} {o':HO}
theorem HOk.write (ok:HOk P w H h) (mu:Mut (H x)) (he:e=x∨H e=some (.own x)) (k:∀ b u,b≠e→h.get? b=some u→h'.get? b=some u) (heo:∃ u,h'.get? e=some u)
  (new:ObjOk P w (upd H x o') h' x o'):HOk P w (upd H x o') h':=fun b u q=>by
 have nown:∀ c y,H c=some (.own y)→c≠x:=fun c y r z=>by subst z; rw [r] at mu; exact mu
 have ntup:∀ c xs,H c=some (.tup xs)→c≠x:=fun c xs r z=>by subst z; rw [r] at mu; exact mu
 by_cases hb:b=x
 ·subst hb; rw [upd_same] at q; cases q; exact new
 ·rw [upd_ne hb] at q
  by_cases hbe:b=e
  ·have q':H b=some (.own x):=by
    rcases he with z | z
    ·exact absurd (hbe.trans z) hb
    ·rw [hbe]; exact z
   rw [q] at q'; cases q'
   obtain ⟨v,hv⟩:=heo
   exact ⟨v,by rw [hbe]; exact hv⟩
  ·refine (ok b u q).stay (fun c v hc r=>k c v ?_ r) (fun c r=>by rw [upd_ne (nown c b r)]; exact r) fun c xs r=>by rw [upd_ne (ntup c xs r)]; exact r
   rcases hc with rfl | hc
   ·exact hbe
   ·rintro rfl
    rcases he with z | z
    ·exact nown c b hc z
    ·rw [hc] at z; cases z; exact hb rfl
end
structure Un (fs ex:List Addr) (H H':Hp) (h h':Heap):Prop where
 keep:∀ b o,h.get? b=some o→H b=none→b∉fs→b∉ex→h'.get? b=some o
 slot:∀ b o,h.get? b=some o→H b=none→b∈fs→b∉ex→∃ sl,h'.get? b=some { o with slots:=sl }
 free:∀ b o,h.get? b=some o→H b=none→b∉ex→H' b=none
 there:∀ b o,h.get? b=some o→b∉ex→∃ o',h'.get? b=some o'
 tups:∀ b xs,H b=some (.tup xs)→H' b=some (.tup xs)
 frzs:∀ b o u,H b=some (.frz o u)→H' b=some (.frz o u)
 tbls:∀ b ps,H b=some (.tbl ps)→∃ more,H' b=some (.tbl (ps++more))
section
variable {fs fs' ex ex':List Addr} {H H1 H2:Hp} {h h1 h2 h':Heap} {a x e:Addr} {o:HO}
theorem Un.any (u:Un fs ex H H1 h h1) {b:Addr} {ob:Obj} (q:h.get? b=some ob) (n:H b=none) (hx:b∉ex):∃ sl,h1.get? b=some { ob with slots:=sl }:=by
 by_cases hb:b∈fs
 ·exact u.slot b ob q n hb hx
 ·exact ⟨ob.slots,u.keep b ob q n hb hx⟩
theorem Un.kept (k:∀ b u,h.get? b=some u→h'.get? b=some u):Un fs ex H H h h' :=
 ⟨fun b ob q _ _ _=>k b ob q,fun b ob q _ _ _=>⟨ob.slots,k b ob q⟩,fun _ _ _ n _=>n,fun b ob q _=>⟨ob,k b ob q⟩,fun _ _ q=>q,fun _ _ _ q=>q,fun _ ps q=>⟨#[],by rw [q]; simp⟩⟩
theorem Un.refl:Un fs ex H H h h:=Un.kept fun _ _ q=>q
theorem Un.laid (k:∀ b u,h.get? b=some u→h'.get? b=some u) (hp:h.objs.size≤a) (hn:H a=none):Un fs ex H (upd H a o) h h' where
 keep:=fun b u q _ _ _=>k b u q
 slot:=fun b u q _ _ _=>⟨u.slots,k b u q⟩
 free:=fun b u q n _=>by rw [upd_ne (Nat.ne_of_lt (Nat.lt_of_lt_of_le (Heap.lt_size q) hp))]; exact n
 there:=fun b u q _=>⟨u,k b u q⟩
 tups:=fun b xs q=>by rw [upd_ne (ne_of_none q hn)]; exact q
 frzs:=fun b u xs q=>by rw [upd_ne (ne_of_none q hn)]; exact q
 tbls:=fun b ps q=>⟨#[],by rw [upd_ne (ne_of_none q hn),q]; simp⟩
theorem Un.write (mu:Mut (H x)) (he:e=x∨H e=some (.own x)) (k:∀ b u,b≠e→h.get? b=some u→h'.get? b=some u) (heo:∃ u,h'.get? e=some u):Un fs ex H (upd H x o) h h':=by
 have hx:∀ b,H b=none→b≠x:=fun b n z=>by subst z; rw [n] at mu; exact mu
 have hb:∀ b,H b=none→b≠e:=fun b n z=>by
  subst z
  rcases he with r | r
  ·exact hx b n r
  ·rw [n] at r; cases r
 have hm:∀ b u,H b=some u→¬ Mut (some u)→b≠x:=fun b u q nm z=>by subst z; rw [q] at mu; exact nm mu
 refine ⟨fun b u q n _ _=>k b u (hb b n) q,fun b u q n _ _=>⟨u.slots,k b u (hb b n) q⟩,fun b u q n _=>by rw [upd_ne (hx b n)]; exact n,fun b u q _=>?_,
  fun b xs q=>by rw [upd_ne (hm b _ q fun z=>z)]; exact q,fun b u xs q=>by rw [upd_ne (hm b _ q fun z=>z)]; exact q,fun b ps q=>⟨#[],by rw [upd_ne (hm b _ q fun z=>z),q]; simp⟩⟩
 by_cases hbe:b=e
 ·subst hbe; exact heo
 ·exact ⟨u,k b u hbe q⟩
end
def trk (h:Heap) (H:Hp):List Addr:=(List.range h.objs.size).filter fun a=>(H a).isSome
def hidT (h:Heap) (H:Hp):Heap:=PySem.W.hideAll h (trk h H)
theorem hidT_size (h:Heap) (H:Hp):(hidT h H).objs.size=h.objs.size:=PySem.W.hideAll_size _ _
theorem hidT_get {h:Heap} {H:Hp} {b:Addr} {o:Obj} (e:h.get? b=some o) (n:H b=none):(hidT h H).get? b=some o :=
 PySem.W.hideAll_get _ e fun hm=>by
  have q:(H b).isSome=true:=(List.mem_filter.mp hm).2
  rw [n] at q; simp at q
theorem of_hidT {h:Heap} {H:Hp} {b:Addr} {o:Obj} (e:(hidT h H).get? b=some o):h.get? b=some o∧H b=none:=by
 have e':h.get? b=some o:=PySem.W.of_hideAll (trk h H) e
 refine ⟨e',?_⟩
 cases q:H b with
 | none=>rfl
 | some x =>
  have hm:b∈trk h H:=List.mem_filter.mpr ⟨List.mem_range.mpr (Heap.lt_size e'),by simp [q]⟩
  have z:(hidT h H).get? b=none:=PySem.W.hideAll_none (trk h H) hm
  rw [z] at e; cases e
def allNews (g h:Heap) (L:Addr):List (Addr × Obj):=(List.range h.objs.size).filterMap fun a=>if a=L∨(g.get? a).isSome=true then none else (h.get? a).map fun o=>(a,o)
def rest (g h:Heap) (L d:Addr):List (Addr × Obj):=(allNews g h L).filter fun p=>decide (p.1≠d)
end L2
namespace L2
open PySem PySem.Spec PyProof.Rows
structure Mod (K:PySem.W.Frag) (mg:Str→Option Value) (base:Heap):Prop where
 kin:K.In base
 glob:base.Ns mainGlobals mg
 blt:∃ mb,base.Ns builtinsNs mb∧∀ x:Str,x≠"__name__" → mb x=bootBuiltins x
 nolimit:base.NoLimit
structure Cx where
 prog:Program
 w:World
 K:PySem.W.Frag
 mg:Str→Option Value
 base:Heap
 A:Around
 N:List Str
 s₀:Shared
 H₀:Hp
 env:Env
 outer:List Env
 stack:List Env
 ex:List Addr
 fn:Str→Bool
 calm:Bool
 pn:List (Addr × Obj)
 xe:Value→Shared→Prop
def frs (l:List Env):List Addr:=l.filterMap (·.frame)
abbrev Cx.fs (X:Cx):List Addr:=frs X.outer
def Vis (sc:Scope) (x:Str):Prop:=sc.names.lookup x=some .local∨sc.names.lookup x=some .cell∨sc.names.lookup x=some .free
def Loc (sc:Scope) (x:Str):Prop:=sc.names.lookup x=some .local∨sc.names.lookup x=some .cell
def Look (env:Env) (h:Heap) (m:Str→Option Value) (x:Str) (u:Value):Prop :=
 (env.kindOf x=some .local∧m x=some u)∨((env.kindOf x=some .cell∨env.kindOf x=some .free)∧∃ c,env.cells.lookup x=some c∧h.IsCell c (some u))
structure Cx.Ok (X:Cx):Prop where
 mod:Mod X.K X.mg X.base
 kind:X.env.scope.kind=.function
 glob:X.env.globals=mainGlobals
 blt:X.env.builtins=builtinsNs
 above:X.s₀.heap.objs.size≤X.env.locals
 inj:∀ x y c,X.env.cells.lookup x=some c→X.env.cells.lookup y=some c→x=y
 has:∀ x,(X.env.kindOf x=some .cell∨X.env.kindOf x=some .free)→∃ c,X.env.cells.lookup x=some c
 cab:∀ x c,X.fn x=true→X.env.cells.lookup x=some c→X.s₀.heap.objs.size≤c
 hd:X.calm=true→X.A.handled=none
 frames:X.A.frames=some X.stack
 stk:X.stack=X.outer∨(X.stack=X.env :: X.outer∧X.env.frame=some X.env.locals)
 exf:∀ b∈X.ex,b≠X.env.locals∧∀ x c,X.env.cells.lookup x=some c→c≠b
 bs:∀ b o,X.base.get? b=some o→X.s₀.heap.get? b=some o∧X.H₀ b=none
 bsz:X.base.objs.size≤X.s₀.heap.objs.size
 noex:∀ b o,X.base.get? b=some o→b∉X.ex
 exfs:∀ b∈X.ex,b∉X.fs
 funs:X.s₀.heap.FunFrames X.base X.outer
 frf:∀ b∈X.fs,X.H₀ b=none
structure Inv (X:Cx) (pins:List (Addr × Obj)) (σ:List (Option V)) (H:Hp) (s:Shared):Prop where
 ok:X.Ok
 os:s.os=X.s₀.os
 bare:AllBare s.gens
 base:Un X.fs X.ex X.H₀ H X.s₀.heap s.heap
 loc:∃ m,s.heap.Ns X.env.locals m∧∀ (i:Nat) (x:Str) (v:V),X.N[i]?=some x→σ[i]?=some (some v)→Vis X.env.scope x→∃ u,RelV v u∧Look X.env s.heap m x u
 cell:∀ x c,X.env.cells.lookup x=some c→∃ v,s.heap.IsCell c v
 free:H X.env.locals=none
 freeC:∀ x c,X.env.cells.lookup x=some c→H c=none
 pin:∀ p∈X.pn++pins,s.heap.get? p.1=some p.2∧H p.1=none∧p.1≠X.env.locals∧p.1∉X.fs∧∀ v,p.2.data≠.cell v
 hok:HOk X.prog X.w H s.heap
 len:σ.length=X.N.length
section
variable {X:Cx} {pins:List (Addr × Obj)} {σ:List (Option V)} {H H':Hp} {s:Shared} {h':Heap}
theorem Cx.Ok.nofr (ok:X.Ok) {b:Addr} {o:Obj} (e:X.base.get? b=some o):b∉X.fs:=fun hb=>by
 have:=(ok.funs.mem hb).1
 rw [e] at this; cases this
theorem Inv.bs (I:Inv X pins σ H s):∀ b o,X.base.get? b=some o→s.heap.get? b=some o∧H b=none:=fun b o e =>
 ⟨I.base.keep b o (I.ok.bs b o e).1 (I.ok.bs b o e).2 (I.ok.nofr e) (I.ok.noex b o e),I.base.free b o (I.ok.bs b o e).1 (I.ok.bs b o e).2 (I.ok.noex b o e)⟩
theorem Inv.bk (I:Inv X pins σ H s):∀ b o,X.base.get? b=some o→s.heap.get? b=some o:=fun b o e=>(I.bs b o e).1
theorem Inv.mod (I:Inv X pins σ H s):Mod X.K X.mg X.base:=I.ok.mod
theorem Inv.kIn (I:Inv X pins σ H s):X.K.In s.heap:=I.ok.mod.kin.keeps I.bk
theorem Inv.lt (I:Inv X pins σ H s):X.env.locals < s.heap.objs.size:=let ⟨_,hn,_⟩:=I.loc; hn.lt
theorem Inv.sz (I:Inv X pins σ H s):X.s₀.heap.objs.size≤s.heap.objs.size:=Nat.le_trans I.ok.above (Nat.le_of_lt I.lt)
theorem Inv.nofs (I:Inv X pins σ H s) {a:Addr} (h:s.heap.objs.size≤a):a∉X.fs:=fun hb=>by
 obtain ⟨_,o,ho,_⟩:=I.ok.funs.mem hb
 exact absurd (Nat.lt_of_lt_of_le (Heap.lt_size ho) (Nat.le_trans I.sz h)) (Nat.lt_irrefl _)
theorem Inv.cne (I:Inv X pins σ H s):∀ x c,X.env.cells.lookup x=some c→c≠X.env.locals:=fun x c e z=>by
 obtain ⟨v,o,ho,hd⟩:=I.cell x c e
 obtain ⟨m,⟨o',es,ep,ho',hd',_⟩,_⟩:=I.loc
 rw [z,ho'] at ho; cases ho; rw [hd'] at hd; cases hd
theorem Inv.funs (I:Inv X pins σ H s):s.heap.FunFrames X.base X.outer:=by
 have all:∀ (l:List Env),(∀ b∈frs l,b∈X.fs)→X.s₀.heap.FunFrames X.base l→s.heap.FunFrames X.base l:=by
  intro l
  induction l with
  | nil=>intro _ _; trivial
  | cons env r ih =>
   intro hs hl
   obtain ⟨hk,⟨L,o,hf,hn,ho,hd⟩,hr⟩:=hl
   have hL:L∈X.fs:=hs L (by unfold frs; rw [List.filterMap_cons,hf]; exact List.mem_cons_self)
   obtain ⟨sl,e⟩:=I.base.slot L o ho (I.ok.frf L hL) hL fun z=>I.ok.exfs L z hL
   exact ⟨hk,⟨L,_,hf,hn,e,hd⟩,ih (fun b hb=>hs b (by unfold frs; rw [List.filterMap_cons,hf]; exact List.mem_cons_of_mem _ hb)) hr⟩
 exact all X.outer (fun _ hb=>hb) I.ok.funs
theorem Inv.stack (I:Inv X pins σ H s):s.heap.FunFrames X.base X.stack:=by
 rcases I.ok.stk with e | ⟨e,hf⟩
 ·rw [e]; exact I.funs
 ·rw [e]
  obtain ⟨m,hn,_⟩:=I.loc
  refine .cons (by rw [I.ok.kind]; decide) hf hn ?_ I.funs
  exact Heap.get?_none_of_le (Nat.le_trans I.ok.bsz I.ok.above)
theorem Inv.stkSub (I:Inv X pins σ H s):∀ b∈frs X.stack,b∈X.env.locals :: X.fs:=fun b hb=>by
 rcases I.ok.stk with e | ⟨e,hf⟩
 ·rw [e] at hb; exact List.mem_cons_of_mem _ hb
 ·rw [e] at hb
  unfold frs at hb
  rw [List.filterMap_cons,hf] at hb
  exact hb
theorem Inv.stkFree (I:Inv X pins σ H s):∀ b∈frs X.stack,H b=none:=fun b hb=>by
 rcases List.mem_cons.mp (I.stkSub b hb) with e | hb
 ·rw [e]; exact I.free
 ·obtain ⟨_,o,ho,_⟩:=I.ok.funs.mem hb
  exact I.base.free b o ho (I.ok.frf b hb) fun z=>I.ok.exfs b z hb
theorem Inv.step {g':Array GenState} {t':Nat} {d':Drawn} {ch:List Addr} (I:Inv X pins σ H s)
  (hch:∀ b∈ch,(b∈X.ex∨X.s₀.heap.objs.size≤b)∧b≠X.env.locals∧(∀ x c,X.env.cells.lookup x=some c→c≠b)∧∀ p∈X.pn++pins,p.1≠b)
  (keep:∀ b o,b≠X.env.locals→b∉X.fs→b∉ch→s.heap.get? b=some o→H b=none→h'.get? b=some o)
  (slot:∀ b o,b≠X.env.locals→b∈X.fs→b∉ch→s.heap.get? b=some o→H b=none→∃ sl,h'.get? b=some { o with slots:=sl }) (free:∀ b o,b∉ch→s.heap.get? b=some o→H b=none→H' b=none)
  (there:∀ b o,b∉ch→s.heap.get? b=some o→∃ o',h'.get? b=some o')
  (tups:∀ b xs,H b=some (.tup xs)→H' b=some (.tup xs)) (frzs:∀ b o u,H b=some (.frz o u)→H' b=some (.frz o u)) (tbls:∀ b ps,H b=some (.tbl ps)→∃ more,H' b=some (.tbl (ps++more)))
  (ns:∀ m,s.heap.Ns X.env.locals m→h'.Ns X.env.locals m) (hok:HOk X.prog X.w H' h') (hg:AllBare g') :
  Inv X pins σ H' { s with heap:=h',gens:=g',drawn:=d',toks:=t' }:=by
 have neL:∀ b o,X.s₀.heap.get? b=some o→b≠X.env.locals:=fun b o e=>Nat.ne_of_lt (Nat.lt_of_lt_of_le (Heap.lt_size e) I.ok.above)
 have neC:∀ b o,X.s₀.heap.get? b=some o→b∉X.ex→b∉ch:=fun b o e hx hb=>by
  rcases (hch b hb).1 with z | z
  ·exact hx z
  ·exact absurd (Nat.lt_of_lt_of_le (Heap.lt_size e) z) (Nat.lt_irrefl _)
 have cellK:∀ x c,X.env.cells.lookup x=some c→∀ v,s.heap.IsCell c v→h'.IsCell c v:=fun x c e v ⟨o,ho,hd⟩=>by
  have nch:c∉ch:=fun z=>(hch c z).2.2.1 x c e rfl
  by_cases hc:c∈X.fs
  ·obtain ⟨sl,q⟩:=slot c o (I.cne x c e) hc nch ho (I.freeC x c e)
   exact ⟨_,q,hd⟩
  ·exact ⟨o,keep c o (I.cne x c e) hc nch ho (I.freeC x c e),hd⟩
 refine ⟨I.ok,I.os,hg,⟨fun b o e n hb hx=>?_,fun b o e n hb hx=>?_,fun b o e n hx=>?_,fun b o e hx=>?_,fun b xs e=>tups b xs (I.base.tups b xs e),fun b o xs e=>frzs b o xs (I.base.frzs b o xs e),fun b ps e=>?_⟩,?_,fun x c e=>?_,?_,fun x c e=>?_,fun p hp=>?_,hok,I.len⟩
 ·exact keep b o (neL b o e) hb (neC b o e hx) (I.base.keep b o e n hb hx) (I.base.free b o e n hx)
 ·obtain ⟨sl,e1⟩:=I.base.slot b o e n hb hx
  obtain ⟨sl',e2⟩:=slot b _ (neL b o e) hb (neC b o e hx) e1 (I.base.free b o e n hx)
  exact ⟨sl',e2⟩
 ·obtain ⟨o',e1⟩:=I.base.there b o e hx
  exact free b o' (neC b o e hx) e1 (I.base.free b o e n hx)
 ·obtain ⟨o',e1⟩:=I.base.there b o e hx
  exact there b o' (neC b o e hx) e1
 ·obtain ⟨m1,e1⟩:=I.base.tbls b ps e
  obtain ⟨m2,e2⟩:=tbls b _ e1
  exact ⟨m1++m2,by rw [e2,Array.append_assoc]⟩
 ·obtain ⟨m,hn,hl⟩:=I.loc
  refine ⟨m,ns m hn,fun i x v e1 e2 e3=>?_⟩
  obtain ⟨u,r,l⟩:=hl i x v e1 e2 e3
  refine ⟨u,r,?_⟩
  rcases l with l | ⟨k,c,e,z⟩
  ·exact .inl l
  ·exact .inr ⟨k,c,e,cellK x c e _ z⟩
 ·obtain ⟨v,z⟩:=I.cell x c e
  exact ⟨v,cellK x c e v z⟩
 ·obtain ⟨m,⟨o,_,_,ho,_⟩,_⟩:=I.loc
  exact free _ o (fun z=>(hch _ z).2.1 rfl) ho I.free
 ·obtain ⟨v,o,ho,hd⟩:=I.cell x c e
  exact free c o (fun z=>(hch c z).2.2.1 x c e rfl) ho (I.freeC x c e)
 ·obtain ⟨e,n,ne,nf,d⟩:=I.pin p hp
  have nch:p.1∉ch:=fun z=>(hch p.1 z).2.2.2 p hp rfl
  exact ⟨keep p.1 p.2 ne nf nch e n,free p.1 p.2 nch e n,ne,nf,d⟩
theorem Inv.un {t':Nat} (I:Inv X pins σ H s) (u:Un X.fs [] H H' s.heap h') (hok:HOk X.prog X.w H' h'):Inv X pins σ H' { s with heap:=h',toks:=t' }:=by
 obtain ⟨m,⟨o,es,ep,ho,r⟩,_⟩:=id I.loc
 obtain ⟨sl,hL⟩:=u.any ho I.free (by simp)
 exact I.step (g':=s.gens) (d':=s.drawn) (ch:=[]) (fun _ z=>nomatch z) (fun b o _ hb _ e n=>u.keep b o e n hb (by simp)) (fun b o _ hb _ e n=>u.slot b o e n hb (by simp)) (fun b o _ e n=>u.free b o e n (by simp)) (fun b o _ e=>u.there b o e (by simp)) u.tups u.frzs u.tbls (fun m' hm=>by
  obtain ⟨o',es',ep',ho',r'⟩:=hm
  rw [ho] at ho'; cases ho'
  exact ⟨_,es',ep',hL,r'⟩) hok I.bare
theorem Inv.call {g':Array GenState} {t':Nat} {d':Drawn} {ch:List Addr} (I:Inv X pins σ H s) (u:Un (frs X.stack) ch H H' s.heap h') (hok:HOk X.prog X.w H' h') (hg:AllBare g')
  (hch:∀ b∈ch,(b∈X.ex∨X.s₀.heap.objs.size≤b)∧b≠X.env.locals∧(∀ x c,X.env.cells.lookup x=some c→c≠b)∧∀ p∈X.pn++pins,p.1≠b) :
  Inv X pins σ H' { s with heap:=h',gens:=g',drawn:=d',toks:=t' }:=by
 obtain ⟨m,⟨o,es,ep,ho,r⟩,_⟩:=id I.loc
 obtain ⟨sl,hL⟩:=u.any ho I.free fun z=>(hch _ z).2.1 rfl
 exact I.step (ch:=ch) hch (fun b o hL hb hc e n=>u.keep b o e n (fun z=>(List.mem_cons.mp (I.stkSub b z)).elim hL hb) hc) (fun b o _ _ hc e n=>u.any e n hc) (fun b o hc e n=>u.free b o e n hc) (fun b o hc e=>u.there b o e hc) u.tups u.frzs u.tbls (fun m' hm=>by
  obtain ⟨o',es',ep',ho',r'⟩:=hm
  rw [ho] at ho'; cases ho'
  exact ⟨_,es',ep',hL,r'⟩) hok hg
theorem Inv.turned {t':Nat} {it:Addr} (I:Inv X pins σ H s) (k:∀ b o,b≠it→s.heap.get? b=some o→h'.get? b=some o) (hn:H it=none) (hL:it≠X.env.locals)
  (h1:it∈X.ex∨X.s₀.heap.objs.size≤it) (h2:∀ x c,X.env.cells.lookup x=some c→c≠it) (h3:∀ p∈X.pn++pins,p.1≠it):Inv X pins σ H { s with heap:=h',toks:=t' }:=by
 have nit:∀ b u,H b=some u→b≠it:=fun b u e z=>by rw [z,hn] at e; cases e
 refine I.step (g':=s.gens) (d':=s.drawn) (ch:=[it]) (fun b hb=>?_) (fun b o _ _ hc e _=>k b o (fun z=>hc (by simp [z])) e) (fun b o _ _ hc e _=>⟨o.slots,k b o (fun z=>hc (by simp [z])) e⟩) (fun _ _ _ _ n=>n)
  (fun b o hc e=>⟨o,k b o (fun z=>hc (by simp [z])) e⟩) (fun _ _ e=>e) (fun _ _ _ e=>e) (fun b ps e=>⟨#[],by rw [e]; simp⟩) (fun m hm=>?_) (fun b u e=>?_) I.bare
 ·have e:b=it:=by simpa using hb
  subst e
  exact ⟨h1,hL,h2,h3⟩
 ·obtain ⟨o,es,ep,ho,r⟩:=hm
  exact ⟨o,es,ep,k _ o (Ne.symm hL) ho,r⟩
 ·refine (I.hok b u e).stay (fun c v hc q=>k c v ?_ q) (fun _ q=>q) fun _ _ q=>q
  rcases hc with z | z
  ·rw [z]; exact nit b u e
  ·exact nit c _ z
theorem Inv.tok (I:Inv X pins σ H s) (t:Nat):Inv X pins σ H { s with toks:=t }:=I.un (h':=s.heap) (t':=t) Un.refl I.hok
theorem Inv.kept {t':Nat} (I:Inv X pins σ H s) (k:∀ b u,s.heap.get? b=some u→h'.get? b=some u):Inv X pins σ H { s with heap:=h',toks:=t' }:=I.un (Un.kept k) (I.hok.kept k)
theorem Inv.laid {a:Addr} {o:HO} {t':Nat} (I:Inv X pins σ H s) (k:∀ b u,s.heap.get? b=some u→h'.get? b=some u) (hp:s.heap.objs.size≤a) (new:ObjOk X.prog X.w (upd H a o) h' a o) :
  Inv X pins σ (upd H a o) { s with heap:=h',toks:=t' }:=I.un (Un.laid k hp (I.hok.fresh hp)) (I.hok.laid k hp new)
theorem Inv.write {x e:Addr} {o:HO} {t':Nat} (I:Inv X pins σ H s) (mu:Mut (H x)) (he:e=x∨H e=some (.own x)) (k:∀ b u,b≠e→s.heap.get? b=some u→h'.get? b=some u) (heo:∃ u,h'.get? e=some u)
  (new:ObjOk X.prog X.w (upd H x o) h' x o):Inv X pins σ (upd H x o) { s with heap:=h',toks:=t' }:=I.un (Un.write mu he k heo) (I.hok.write mu he k heo new)
theorem Inv.pins_of {pins':List (Addr × Obj)} (I:Inv X pins σ H s) (h:∀ p∈pins',s.heap.get? p.1=some p.2∧H p.1=none∧p.1≠X.env.locals∧p.1∉X.fs∧∀ v,p.2.data≠.cell v):Inv X pins' σ H s :=
 ⟨I.ok,I.os,I.bare,I.base,I.loc,I.cell,I.free,I.freeC,fun p hp=>(List.mem_append.mp hp).elim (fun z=>I.pin p (List.mem_append_left _ z)) (h p),I.hok,I.len⟩
theorem nodup_ix {N:List Str} (hN:N.Nodup) {i j:Nat} {x:Str} (a:N[i]?=some x) (b:N[j]?=some x):i=j:=by
 obtain ⟨h1,e1⟩:=List.getElem?_eq_some_iff.mp a
 obtain ⟨h2,e2⟩:=List.getElem?_eq_some_iff.mp b
 exact (List.getElem_inj hN).mp (e1.trans e2.symm)
theorem store_ok2 {M:Model} {A:Around} {E:Value→Shared→Prop} {i:Nat} {x:Str} {v:V} {u:Value} {Q:Unit→Shared→Prop} (I:Inv X pins σ H s) (hN:X.N.Nodup) (hi:X.N[i]?=some x) (hx:Loc X.env.scope x) (r:RelV v u)
  (h:∀ s',Inv X pins (σ.set i (some v)) H s'→(∃ a,Heap.SameBut a s.heap s'.heap∧(a=X.env.locals∨X.env.cells.lookup x=some a))→Q () s') (hf:X.fn x=true∨X.env.scope.names.lookup x=some .local:=by first | exact .inl rfl | exact .inr rfl | assumption):wpAny M A (storeName X.env x u) Q E s:=by
 obtain ⟨m,hn,hl⟩:=id I.loc
 have hcls:(X.env.scope.kind == .class || (X.env.scope.kind == .module && X.env.locals != X.env.globals))=false:=by rw [I.ok.kind]; rfl
 have hiσ:i < σ.length:=by rw [I.len]; exact (List.getElem?_eq_some_iff.mp hi).1
 have cne:=I.cne
 have tracked:∀ {a:Addr} {h':Heap},(∃ o,s.heap.get? a=some o∧H a=none)→Heap.SameBut a s.heap h'→HOk X.prog X.w H h':=fun {a h'} ha hs b ob e=>by
  obtain ⟨_,_,hfree⟩:=ha
  refine (I.hok b ob e).stay (fun c w' hc q=>(hs.2 c ?_).trans q) (fun _ q=>q) fun _ _ q=>q
  rintro rfl
  rcases hc with rfl | hc
  ·rw [hfree] at e; cases e
  ·rw [hfree] at hc; cases hc
 rcases hx with hk | hk
 ·refine wpAny_storeName_local hk hn (fun h' hn' hs=>?_) hcls
  obtain ⟨oL,_,_,hoL,_⟩:=id hn
  refine h _ ⟨I.ok,I.os,I.bare,⟨fun b o e n hb hx=>?_,fun b o e n hb hx=>?_,I.base.free,fun b o e hx=>?_,I.base.tups,I.base.frzs,I.base.tbls⟩,⟨_,hn',fun j y v' e1 e2 e3=>?_⟩,fun y c e=>?_,I.free,I.freeC,fun p hp=>?_,tracked ⟨oL,hoL,I.free⟩ hs,by simpa using I.len⟩ ⟨_,hs,.inl rfl⟩
  ·exact (hs.2 b (Nat.ne_of_lt (Nat.lt_of_lt_of_le (Heap.lt_size e) I.ok.above))).trans (I.base.keep b o e n hb hx)
  ·obtain ⟨sl,e1⟩:=I.base.slot b o e n hb hx
   exact ⟨sl,(hs.2 b (Nat.ne_of_lt (Nat.lt_of_lt_of_le (Heap.lt_size e) I.ok.above))).trans e1⟩
  ·obtain ⟨o',e1⟩:=I.base.there b o e hx
   exact ⟨o',(hs.2 b (Nat.ne_of_lt (Nat.lt_of_lt_of_le (Heap.lt_size e) I.ok.above))).trans e1⟩
  ·by_cases hj:j=i
   ·subst hj
    rw [hi] at e1; cases e1
    rw [List.getElem?_set_self hiσ] at e2
    cases e2
    exact ⟨u,r,.inl ⟨hk,by simp⟩⟩
   ·rw [List.getElem?_set_ne (Ne.symm hj)] at e2
    obtain ⟨u',r',q⟩:=hl j y v' e1 e2 e3
    refine ⟨u',r',?_⟩
    rcases q with ⟨k,e⟩ | ⟨k,c,e,z⟩
    ·refine .inl ⟨k,?_⟩
     have:y≠x:=fun e=>hj (nodup_ix hN e1 (e ▸ hi))
     simp [this,e]
    ·exact .inr ⟨k,c,e,z.sameBut hs (cne y c e)⟩
  ·obtain ⟨w',z⟩:=I.cell y c e
   exact ⟨w',z.sameBut hs (cne y c e)⟩
  ·obtain ⟨e,n,ne,nf,d⟩:=I.pin p hp
   exact ⟨(hs.2 p.1 ne).trans e,n,ne,nf,d⟩
 ·have hfn:X.fn x=true:=by
   rcases hf with z | z
   ·exact z
   ·rw [z] at hk; cases hk
  obtain ⟨c,hc⟩:=I.ok.has x (.inl hk)
  obtain ⟨w',z⟩:=I.cell x c hc
  refine wpAny_storeName_cell I.ok.kind hk hc z (fun h' hc' hs=>?_)
  obtain ⟨oc,hoc,hocd⟩:=id z
  refine h { s with heap:=h' } ⟨I.ok,I.os,I.bare,⟨fun b o e n hb hx=>?_,fun b o e n hb hx=>?_,I.base.free,fun b o e hx=>?_,I.base.tups,I.base.frzs,I.base.tbls⟩,⟨m,hn.sameBut hs (Ne.symm (cne x c hc)),fun j y v' e1 e2 e3=>?_⟩,fun y c' e=>?_,I.free,I.freeC,fun p hp=>?_,tracked ⟨oc,hoc,I.freeC x c hc⟩ hs,by simpa using I.len⟩ ⟨c,hs,.inr hc⟩
  ·exact (hs.2 b (Nat.ne_of_lt (Nat.lt_of_lt_of_le (Heap.lt_size e) (I.ok.cab x c hfn hc)))).trans (I.base.keep b o e n hb hx)
  ·obtain ⟨sl,e1⟩:=I.base.slot b o e n hb hx
   exact ⟨sl,(hs.2 b (Nat.ne_of_lt (Nat.lt_of_lt_of_le (Heap.lt_size e) (I.ok.cab x c hfn hc)))).trans e1⟩
  ·obtain ⟨o',e1⟩:=I.base.there b o e hx
   exact ⟨o',(hs.2 b (Nat.ne_of_lt (Nat.lt_of_lt_of_le (Heap.lt_size e) (I.ok.cab x c hfn hc)))).trans e1⟩
  ·by_cases hj:j=i
   ·subst hj
    rw [hi] at e1; cases e1
    rw [List.getElem?_set_self hiσ] at e2
    cases e2
    exact ⟨u,r,.inr ⟨.inl hk,c,hc,hc'⟩⟩
   ·rw [List.getElem?_set_ne (Ne.symm hj)] at e2
    obtain ⟨u',r',q⟩:=hl j y v' e1 e2 e3
    refine ⟨u',r',?_⟩
    rcases q with q | ⟨k,c',e,z'⟩
    ·exact .inl q
    ·refine .inr ⟨k,c',e,z'.sameBut hs ?_⟩
     rintro rfl
     exact hj (nodup_ix hN e1 (I.ok.inj _ _ _ e hc ▸ hi))
  ·by_cases hcc:c'=c
   ·subst hcc; exact ⟨_,hc'⟩
   ·obtain ⟨w2,z2⟩:=I.cell y c' e
    exact ⟨w2,z2.sameBut hs hcc⟩
  ·obtain ⟨e,n,ne,nf,d⟩:=I.pin p hp
   refine ⟨(hs.2 p.1 ?_).trans e,n,ne,nf,d⟩
   intro q
   rw [q,hoc] at e
   have q':oc=p.2:=Option.some.inj e
   exact d w' (by rw [← q']; exact hocd)
theorem store_ok {M:Model} {A:Around} {E:Value→Shared→Prop} {i:Nat} {x:Str} {v:V} {u:Value} {Q:Unit→Shared→Prop} (I:Inv X pins σ H s) (hN:X.N.Nodup) (hi:X.N[i]?=some x) (hx:Loc X.env.scope x) (r:RelV v u)
  (h:∀ s',Inv X pins (σ.set i (some v)) H s'→Q () s') (hf:X.fn x=true∨X.env.scope.names.lookup x=some .local:=by first | exact .inl rfl | exact .inr rfl | assumption):wpAny M A (storeName X.env x u) Q E s :=
 store_ok2 I hN hi hx r (fun s' I' _=>h s' I') hf
theorem Inv.call' {s':Shared} {ch:List Addr} (I:Inv X pins σ H s) (ho:s'.os=s.os) (u:Un (frs X.stack) ch H H' s.heap s'.heap) (hok:HOk X.prog X.w H' s'.heap) (hg:AllBare s'.gens)
  (hch:∀ b∈ch,(b∈X.ex∨X.s₀.heap.objs.size≤b)∧b≠X.env.locals∧(∀ x c,X.env.cells.lookup x=some c→c≠b)∧∀ p∈X.pn++pins,p.1≠b):Inv X pins σ H' s':=by
 obtain ⟨h',g',d',t',o'⟩:=s'
 have e:o'=s.os:=ho
 subst e
 exact I.call (g':=g') (t':=t') (d':=d') u hok hg hch
end
abbrev XK:=Value→Option Addr→Hp→Prop
abbrev St:=List (Option V)
abbrev VK:=V→Hp→Prop
abbrev TE:=St→Hp→VK→Prop
abbrev TT:=St→Hp→(Bool→Hp→Prop)→Prop
abbrev TA:=St→Hp→(List V→Hp→Prop)→Prop
structure Ends where
 nx:St→Hp→Prop
 rt:VK
 bk:St→Hp→Prop:=fun _ _=>False
 ct:St→Hp→Prop:=fun _ _=>False
abbrev TS:=Ends→St→Hp→Prop
def EP (X:Cx) (pins:List (Addr × Obj)) (σ:St) (Q:VK) (u:Value) (s':Shared):Prop:=∃ v H',Inv X pins σ H' s'∧RelV v u∧Q v H'
def TP (X:Cx) (pins:List (Addr × Obj)) (σ:St) (Q:Bool→Hp→Prop) (b:Bool) (s':Shared):Prop:=∃ H',Inv X pins σ H' s'∧Q b H'
def AP (X:Cx) (pins:List (Addr × Obj)) (σ:St) (Q:List V→Hp→Prop) (us:List Value) (s':Shared):Prop:=∃ vs H',Inv X pins σ H' s'∧Vals vs us∧Q vs H'
def SP (X:Cx) (pins:List (Addr × Obj)) (D:Ends) (f:Flow) (s':Shared):Prop :=
 match f with
 | .next=>∃ σ' H',Inv X pins σ' H' s'∧D.nx σ' H'
 | .brk=>∃ σ' H',Inv X pins σ' H' s'∧D.bk σ' H'
 | .cont=>∃ σ' H',Inv X pins σ' H' s'∧D.ct σ' H'
 | .ret u=>∃ v σ' H',Inv X pins σ' H' s'∧RelV v u∧D.rt v H'
def PE (X:Cx) (e:Expr) (t:TE):Prop :=
 ∀ (pins:List (Addr × Obj)) (s:Shared) (σ:St) (H:Hp) (Q:VK),Inv X pins σ H s→t σ H Q→wpAny (model X.prog X.w) X.A (eval e X.env) (EP X pins σ Q) X.xe s
def PT (X:Cx) (e:Expr) (t:TT):Prop :=
 ∀ (pins:List (Addr × Obj)) (s:Shared) (σ:St) (H:Hp) (Q:Bool→Hp→Prop),Inv X pins σ H s→t σ H Q→wpAny (model X.prog X.w) X.A (isTrue e X.env (eval e X.env)) (TP X pins σ Q) X.xe s
def PW (X:Cx) (e:Expr) (t:TT):Prop :=
 ∀ (whole:Sem Value) (pins:List (Addr × Obj)) (s:Shared) (σ:St) (H:Hp) (Q:Bool→Hp→Prop),Inv X pins σ H s→t σ H Q→wpAny (model X.prog X.w) X.A (isTrue e X.env whole) (TP X pins σ Q) X.xe s
theorem PW.pt {X:Cx} {e:Expr} {t:TT} (h:PW X e t):PT X e t:=h _
def PA (X:Cx) (es:List Expr) (t:TA):Prop :=
 ∀ (pos:Pos) (pins:List (Addr × Obj)) (s:Shared) (σ:St) (H:Hp) (Q:List V→Hp→Prop),Inv X pins σ H s→t σ H Q→wpAny (model X.prog X.w) X.A (spliced (backTo pos (starEach es X.env))) (AP X pins σ Q) X.xe s
def PS (X:Cx) (st:Stmt) (t:TS):Prop :=
 ∀ (pins:List (Addr × Obj)) (s:Shared) (σ:St) (H:Hp) (D:Ends),Inv X pins σ H s→t D σ H→wpAny (model X.prog X.w) X.A (exec st X.env) (SP X pins D) X.xe s
def PSs (X:Cx) (st:List Stmt) (t:TS):Prop :=
 ∀ (pins:List (Addr × Obj)) (s:Shared) (σ:St) (H:Hp) (D:Ends),Inv X pins σ H s→t D σ H→wpAny (model X.prog X.w) X.A (execs st X.env) (SP X pins D) X.xe s
theorem thn {α:Type} {t:Sem α} {Q Q':α→Shared→Prop} {M:Model} {A:Around} {E:Value→Shared→Prop} {s:Shared} (h:wpAny M A t Q E s) (hQ:∀ a s,Q a s→Q' a s):wpAny M A t Q' E s:=wpAny_mono h hQ fun _ _ x=>x
end L2
namespace L2
open PySem PySem.Spec PyProof.Rows
section
variable {X:Cx}
def tVar (i:Nat):TE:=fun σ H Q=>∃ v,σ[i]?=some (some v)∧Q v H
def tC (v:V):TE:=fun _ H Q=>Q v H
theorem pe_var {i:Nat} {x:Str} {pos:Pos} (hN:X.N[i]?=some x) (hv:Vis X.env.scope x) (hd:(x == ("__debug__" : Str))=false:=by decide) (hcd:(x == ("__classdict__" : Str))=false:=by decide):PE X (.Name x pos) (tVar i):=by
 intro pins s σ H Q I h
 obtain ⟨v,e,h⟩:=h
 obtain ⟨m,hn,hl⟩:=I.loc
 obtain ⟨u,r,l⟩:=hl i x v hN e hv
 have fin:EP X pins σ Q u s:=⟨v,H,I,r,h⟩
 rcases l with ⟨hk,hm⟩ | ⟨hk,c,hc,hcell⟩
 ·exact wpAny_Name (wpAny_loadName_local I.ok.kind hk hn hm fin) hd
 ·rcases hk with hk | hk
  ·exact wpAny_Name (wpAny_loadName_cell I.ok.kind hk hc hcell fin) hd
  ·exact wpAny_Name (wpAny_loadName_free I.ok.kind hk hc hcell fin hcd) hd
theorem pe_int {i j pos}:PE X (.Constant (.int i) j pos) (tC (.int i)):=fun _ _ _ H _ I h=>wpAny_Constant_int ⟨.int i,H,I.tok _,⟨_,rfl⟩,h⟩
theorem pe_bl {b j pos}:PE X (.Constant (.bool b) j pos) (tC (.bl b)):=fun _ _ _ H _ I h=>Constant_bool ⟨.bl b,H,I,rfl,h⟩
theorem pe_non {j pos}:PE X (.Constant .none j pos) (tC .non):=fun _ _ _ H _ I h=>Constant_none ⟨.non,H,I,rfl,h⟩
theorem pe_str {x j pos}:PE X (.Constant (.str x) j pos) (tC (.str x)):=fun _ _ _ H _ I h=>Calls.Constant_str ⟨.str x,H,I.tok _,⟨_,rfl⟩,h⟩
def Gl (X:Cx) (x:Str):Prop:=X.env.kindOf x=some .globalImplicit
theorem ld_glob {E:Value→Shared→Prop} {pins:List (Addr × Obj)} {s:Shared} {σ:St} {H:Hp} {x:Str} {u:Value} {pos:Pos} {Q:Value→Shared→Prop} (I:Inv X pins σ H s) (hg:Gl X x) (hm:X.mg x=some u) (h:Q u s)
  (hd:(x == ("__debug__" : Str))=false:=by decide):wpAny (model X.prog X.w) X.A (eval (.Name x pos) X.env) Q E s :=
 Calls.Name_function_global I.ok.kind hg (Calls.loadGlobal_global (by rw [I.ok.glob]; exact I.mod.glob.keeps I.bk) hm h) hd
theorem ld_blt {E:Value→Shared→Prop} {pins:List (Addr × Obj)} {s:Shared} {σ:St} {H:Hp} {x:Str} {u:Value} {pos:Pos} {Q:Value→Shared→Prop} (I:Inv X pins σ H s) (hg:Gl X x) (hm:X.mg x=none) (hv:bootBuiltins x=some u) (h:Q u s)
  (hn:x≠"__name__" := by decide) (hd:(x == ("__debug__" : Str))=false:=by decide):wpAny (model X.prog X.w) X.A (eval (.Name x pos) X.env) Q E s:=by
 obtain ⟨mb,h1,h2⟩:=I.mod.blt
 exact Calls.Name_function_global I.ok.kind hg (Calls.loadGlobal_builtin (by rw [I.ok.glob]; exact I.mod.glob.keeps I.bk) hm (by rw [I.ok.blt]; exact h1.keeps I.bk) ((h2 x hn).trans hv) h) hd
theorem pe_bltn {x:Str} {v:V} {u:Value} {pos:Pos} (hg:Gl X x) (hm:X.mg x=none) (hv:bootBuiltins x=some u) (r:RelV v u) (hn:x≠"__name__" := by decide) (hd:(x == ("__debug__" : Str))=false:=by decide):PE X (.Name x pos) (tC v) :=
 fun _ _ _ H _ I h=>ld_blt I hg hm hv ⟨v,H,I,r,h⟩ hn hd
variable {a b:Expr} {ta tb:TE} {pos:Pos}
def PC (X:Cx) (op:CmpOp) (a b:Expr) (t:TE):Prop :=
 ∀ (pins:List (Addr × Obj)) (s:Shared) (σ:St) (H:Hp) (Q:VK),Inv X pins σ H s→t σ H Q →
  wpAny (model X.prog X.w) X.A (eval a X.env) (fun v s₁=>wpAny (model X.prog X.w) X.A (eval b X.env) (fun u s₂=>wpAny (model X.prog X.w) X.A (compareOp op v u) (EP X pins σ Q) X.xe s₂) X.xe s₁) X.xe s
theorem nobehind (b:Expr) {op:CmpOp} (h:op≠.In) (h2:op≠.NotIn):behindInMarks op b=false:=by
 have e1:(op == CmpOp.In)=false:=by cases op <;> first | rfl | exact absurd rfl h
 have e2:(op == CmpOp.NotIn)=false:=by cases op <;> first | rfl | exact absurd rfl h2
 cases b <;> simp [behindInMarks,e1,e2]
def tB (t:TE):TT:=fun σ H Q=>t σ H fun x H1=>∃ c,x=.bl c∧Q c H1
theorem pt_cmp {op:CmpOp} {t:TE} (h:PC X op a b t) (h1:behindInMarks op b=false:=by first | exact nobehind _ (by decide) (by decide) | rfl):PT X (.Compare a [op] [b] pos) (tB t):=by
 intro pins s σ H Q I hw
 refine wpAny_isTrue_Compare1 (thn (h pins s σ H _ I hw) fun v s1 h1=>thn h1 fun u s2 h2=>thn h2 fun c s3 ⟨x,H1,I1,r1,q1⟩=>?_) h1
 obtain ⟨d,rfl,q⟩:=q1
 cases r1
 exact wpAny_truthy_bool ⟨H1,I1,q⟩
theorem pt_val {e:Expr} {t:TE} (h:PE X e t) (he:∀ whole,isTrue e X.env whole=(do let v ← whole; standAt e.pos; holding [v] (truthy v)):=by intro _; rfl):PT X e (tB t):=by
 intro pins s σ H Q I hw
 refine isTrue_plain (thn (h pins s σ H _ I hw) fun v s1 ⟨x,H1,I1,r1,q1⟩=>?_) (he _)
 obtain ⟨d,rfl,q⟩:=q1
 cases r1
 exact wpAny_truthy_bool ⟨H1,I1,q⟩
variable {tA tB':TT} {rest:List Expr}
def tAnd (t u:TT):TT:=fun σ H Q=>t σ H fun c H1=>if c=true then u σ H1 Q else Q false H1
def tOr (t u:TT):TT:=fun σ H Q=>t σ H fun c H1=>if c=true then Q true H1 else u σ H1 Q
def tNot (t:TT):TT:=fun σ H Q=>t σ H fun c H1=>Q (!c) H1
theorem pw_and1 (ha:PT X a tA):PW X (.BoolOp .And [a] pos) tA:=by
 intro wh pins s σ H Q I h
 refine isTrue_and (thn (ha pins s σ H Q I h) fun c s1 e=>?_)
 cases c with
 | true=>exact isTrue_and_nil e
 | false=>exact e
theorem pw_or1 (ha:PT X a tA):PW X (.BoolOp .Or [a] pos) tA:=by
 intro wh pins s σ H Q I h
 refine isTrue_or (thn (ha pins s σ H Q I h) fun c s1 e=>?_)
 cases c with
 | false=>exact isTrue_or_nil e
 | true=>exact e
theorem pw_and (ha:PT X a tA) (hb:PW X (.BoolOp .And (b :: rest) pos) tB'):PW X (.BoolOp .And (a :: b :: rest) pos) (tAnd tA tB'):=by
 intro wh pins s σ H Q I h
 refine isTrue_and (thn (ha pins s σ H _ I h) fun c s1 ⟨H1,I1,q1⟩=>?_)
 cases c with
 | true=>exact hb wh pins s1 σ H1 Q I1 q1
 | false=>exact ⟨H1,I1,q1⟩
theorem pw_or (ha:PT X a tA) (hb:PW X (.BoolOp .Or (b :: rest) pos) tB'):PW X (.BoolOp .Or (a :: b :: rest) pos) (tOr tA tB'):=by
 intro wh pins s σ H Q I h
 refine isTrue_or (thn (ha pins s σ H _ I h) fun c s1 ⟨H1,I1,q1⟩=>?_)
 cases c with
 | true=>exact ⟨H1,I1,q1⟩
 | false=>exact hb wh pins s1 σ H1 Q I1 q1
theorem pt_not (ha:PT X a tA):PT X (.UnaryOp .Not a pos) (tNot tA):=by
 intro pins s σ H Q I h
 exact isTrue_not (ha pins s σ H (fun c H1=>Q (!c) H1) I h)
def tAndV (ta tb:TE):TE:=fun σ H Q=>ta σ H fun x H1=>∃ c,x=.bl c∧if c=true then tb σ H1 Q else Q (.bl false) H1
def tOrV (ta tb:TE):TE:=fun σ H Q=>ta σ H fun x H1=>∃ c,x=.bl c∧if c=true then Q (.bl true) H1 else tb σ H1 Q
def tNotV (ta:TE):TE:=fun σ H Q=>ta σ H fun x H1=>∃ c,x=.bl c∧Q (.bl (!c)) H1
theorem pe_one {op} {t:TE} (h:PE X a t):PE X (.BoolOp op [a] pos) t:=fun pins s σ H Q I hw=>BoolOp_one (h pins s σ H Q I hw)
theorem pe_and (ha:PE X a ta) (hb:PE X (.BoolOp .And (b :: rest) pos) tb):PE X (.BoolOp .And (a :: b :: rest) pos) (tAndV ta tb):=by
 intro pins s σ H Q I h
 refine BoolOp_and (thn (ha pins s σ H _ I h) fun v s1 ⟨x,H1,I1,r1,q1⟩=>?_)
 obtain ⟨c,rfl,q1⟩:=q1
 cases r1
 refine wpAny_truthy_bool ?_
 cases c with
 | true=>exact hb pins s1 σ H1 Q I1 q1
 | false=>exact ⟨.bl false,H1,I1,rfl,q1⟩
theorem pe_or (ha:PE X a ta) (hb:PE X (.BoolOp .Or (b :: rest) pos) tb):PE X (.BoolOp .Or (a :: b :: rest) pos) (tOrV ta tb):=by
 intro pins s σ H Q I h
 refine BoolOp_or (thn (ha pins s σ H _ I h) fun v s1 ⟨x,H1,I1,r1,q1⟩=>?_)
 obtain ⟨c,rfl,q1⟩:=q1
 cases r1
 refine wpAny_truthy_bool ?_
 cases c with
 | false=>exact hb pins s1 σ H1 Q I1 q1
 | true=>exact ⟨.bl true,H1,I1,rfl,q1⟩
theorem pe_not (ha:PE X a ta):PE X (.UnaryOp .Not a pos) (tNotV ta):=by
 intro pins s σ H Q I h
 refine UnaryOp_ (thn (ha pins s σ H _ I h) fun v s1 ⟨x,H1,I1,r1,q1⟩=>?_)
 obtain ⟨c,rfl,q1⟩:=q1
 cases r1
 exact not_of (wpAny_truthy_bool ⟨.bl (!c),H1,I1,rfl,q1⟩)
def tIf (t:TT) (ta tb:TE):TE:=fun σ H Q=>t σ H fun c H1=>if c=true then ta σ H1 Q else tb σ H1 Q
theorem pe_ifExp {c:Expr} (hc:PT X c tA) (ha:PE X a ta) (hb:PE X b tb):PE X (.IfExp c a b pos) (tIf tA ta tb):=by
 intro pins s σ H Q I h
 refine wpAny_IfExp (thn (hc pins s σ H _ I h) fun d s1 ⟨H1,I1,q1⟩=>?_)
 cases d with
 | true=>exact ha pins s1 σ H1 Q I1 q1
 | false=>exact hb pins s1 σ H1 Q I1 q1
end
end L2
namespace L2
open PySem PySem.Spec PyProof.Rows
def SqL (K:PySem.W.Frag) (H:Hp) (a:Addr) (xs:List V):Prop :=
 Rd H a (.lst xs) ∨
  ∃ (o:Obj) (its:Array Value) (n:Nat),K.lookup a=some o∧o.cls=.type "list" ∧ o.dict=none∧o.data=.seq its n∧its.size≤sizeLine∧Vals xs its.toList
def SqT (K:PySem.W.Frag) (H:Hp) (a:Addr) (xs:List V):Prop :=
 Rd H a (.tup xs) ∨
  ∃ (o:Obj) (its:Array Value) (n:Nat),K.lookup a=some o∧o.cls=.type "tuple" ∧ o.data=.seq its n∧its.size≤sizeLine∧Vals xs its.toList
def absV:Value→Option V
 | .none=>some .non
 | .bool b=>some (.bl b)
 | .int i _=>some (.int i)
 | .str x _=>some (.str x)
 | .bytes b _=>some (.byt b)
 | .float b _=>some (.flt b)
 | .ref a=>some (.ref a)
 | .type n=>some (.ty n)
 | _=>none
theorem RelV.abs {x:V} {u:Value} (r:RelV x u):absV u=some x:=by
 cases x with
 | non=>cases r; rfl
 | bl _=>cases r; rfl
 | int _=>obtain ⟨t,rfl⟩:=r; rfl
 | str _=>obtain ⟨t,rfl⟩:=r; rfl
 | byt _=>obtain ⟨t,rfl⟩:=r; rfl
 | flt _=>obtain ⟨t,rfl⟩:=r; rfl
 | ref _=>cases r; rfl
 | ty _=>cases r; rfl
theorem RelV.inj {x y:V} {u:Value} (r:RelV x u) (q:RelV y u):x=y:=Option.some.inj (r.abs.symm.trans q.abs)
theorem Vals.inj:∀ {xs ys:List V} {us:List Value},Vals xs us→Vals ys us→xs=ys
 | _,_,_,.nil,.nil=>rfl
 | _,_,_,.cons r t,.cons r' t'=>by rw [r.inj r',Vals.inj t t']
section
variable {X:Cx} {pins:List (Addr × Obj)} {σ:St} {H:Hp} {s:Shared} {a:Addr} {xs ys:List V}
theorem SqL.of {K:PySem.W.Frag} (h:H a=some (.lst xs)):SqL K H a xs:=.inl (.inl h)
theorem SqT.of {K:PySem.W.Frag} (h:H a=some (.tup xs)):SqT K H a xs:=.inl (.inl h)
theorem Inv.list (I:Inv X pins σ H s) (h:SqL X.K H a xs):∃ its:List Value,Vals xs its∧PlainL s.heap a its.toArray∧xs.length≤sizeLine:=by
 rcases h with h | ⟨o,its,n,hk,hc,hd,hs,hz,r⟩
 ·obtain ⟨z,its,n,r,e⟩:=h.ok I.hok
  exact ⟨its,r,⟨_,n,e,rfl,rfl,rfl⟩,z⟩
 ·refine ⟨its.toList,r,⟨o,n,I.kIn a o hk,hc,hd,by simpa using hs⟩,?_⟩
  have e:=r.length
  simp only [Array.length_toList] at e
  lia
theorem Inv.tuple (I:Inv X pins σ H s) (h:SqT X.K H a xs):∃ its:List Value,Vals xs its∧IsTup s.heap a its.toArray∧xs.length≤sizeLine:=by
 rcases h with h | ⟨o,its,n,hk,hc,hs,hz,r⟩
 ·obtain ⟨z,its,r,p⟩:=h.ok I.hok
  exact ⟨its,r,p,z⟩
 ·refine ⟨its.toList,r,⟨o,I.kIn a o hk,hc,n,by simpa using hs⟩,?_⟩
  have e:=r.length
  simp only [Array.length_toList] at e
  lia
theorem Inv.list_inj (I:Inv X pins σ H s) (h:SqL X.K H a xs) (h':SqL X.K H a ys):xs=ys:=by
 obtain ⟨its,r,⟨o,n,e,_,_,d⟩,_⟩:=I.list h
 obtain ⟨its',r',⟨o',n',e',_,_,d'⟩,_⟩:=I.list h'
 rw [e] at e'; cases e'
 rw [d] at d'
 injection d' with d1 _
 have:its=its':=by simpa using congrArg Array.toList d1
 subst this
 exact r.inj r'
theorem Inv.tuple_inj (I:Inv X pins σ H s) (h:SqT X.K H a xs) (h':SqT X.K H a ys):xs=ys:=by
 obtain ⟨its,r,⟨o,e,_,n,d⟩,_⟩:=I.tuple h
 obtain ⟨its',r',⟨o',e',_,n',d'⟩,_⟩:=I.tuple h'
 rw [e] at e'; cases e'
 rw [d] at d'
 injection d' with d1 _
 have:its=its':=by simpa using congrArg Array.toList d1
 subst this
 exact r.inj r'
end
abbrev Cx.wish (X:Cx) (E:Value→Shared→Prop):Cx:={ X with xe:=E }
abbrev Cx.nox (X:Cx):Cx:=X.wish fun _ _=>False
theorem Cx.Ok.wish {X:Cx} (ok:X.Ok) (E:Value→Shared→Prop):(X.wish E).Ok :=
 ⟨ok.mod,ok.kind,ok.glob,ok.blt,ok.above,ok.inj,ok.has,ok.cab,ok.hd,ok.frames,ok.stk,ok.exf,ok.bs,ok.bsz,ok.noex,ok.exfs,ok.funs,ok.frf⟩
theorem Cx.Ok.unwish {X:Cx} {E:Value→Shared→Prop} (ok:(X.wish E).Ok):X.Ok :=
 ⟨ok.mod,ok.kind,ok.glob,ok.blt,ok.above,ok.inj,ok.has,ok.cab,ok.hd,ok.frames,ok.stk,ok.exf,ok.bs,ok.bsz,ok.noex,ok.exfs,ok.funs,ok.frf⟩
section
variable {X:Cx} {pins:List (Addr × Obj)} {σ:St} {H:Hp} {s:Shared} {E:Value→Shared→Prop}
theorem Inv.wish (I:Inv X pins σ H s) (E:Value→Shared→Prop):Inv (X.wish E) pins σ H s:=⟨I.ok.wish E,I.os,I.bare,I.base,I.loc,I.cell,I.free,I.freeC,I.pin,I.hok,I.len⟩
theorem Inv.unwish (I:Inv (X.wish E) pins σ H s):Inv X pins σ H s:=⟨I.ok.unwish,I.os,I.bare,I.base,I.loc,I.cell,I.free,I.freeC,I.pin,I.hok,I.len⟩
theorem SP.unwish {D:Ends} {f:Flow} {s':Shared} (h:SP (X.wish E) pins D f s'):SP X pins D f s':=by
 cases f with
 | next=>obtain ⟨σ',H',I,q⟩:=h; exact ⟨σ',H',I.unwish,q⟩
 | brk=>obtain ⟨σ',H',I,q⟩:=h; exact ⟨σ',H',I.unwish,q⟩
 | cont=>obtain ⟨σ',H',I,q⟩:=h; exact ⟨σ',H',I.unwish,q⟩
 | ret u=>obtain ⟨v,σ',H',I,r,q⟩:=h; exact ⟨v,σ',H',I.unwish,r,q⟩
theorem PSs.nox {st:List Stmt} {t:TS} (h:PSs X.nox st t):PSs X st t:=fun pins s σ H D I hw =>
 wpAny_mono (h pins s σ H D (I.wish _) hw) (fun _ _ q=>q.unwish) fun _ _ z=>False.elim z
end
section
variable {X:Cx} {st:Stmt} {rest:List Stmt} {t u:TS} {e:Expr} {te:TE} {pos:Pos}
def tNext:TS:=fun D σ H=>D.nx σ H
def tSeq (t u:TS):TS:=fun D σ H=>t { D with nx:=u D } σ H
theorem pss_nil:PSs X [] tNext:=fun _ _ σ H _ I h=>wpAny_execs_nil ⟨σ,H,I,h⟩
theorem pss_cons (h1:PS X st t) (h2:PSs X rest u):PSs X (st :: rest) (tSeq t u):=by
 intro pins s σ H D I h
 refine wpAny_execs_cons (thn (h1 pins s σ H { D with nx:=u D } I h) fun f s1 q=>?_)
 cases f with
 | next =>
  obtain ⟨σ',H',I',q⟩:=q
  exact h2 pins s1 σ' H' D I' q
 | ret v=>exact q
 | brk=>exact q
 | cont=>exact q
theorem pss_one (h1:PS X st t):PSs X [st] t:=by
 intro pins s σ H D I h
 refine wpAny_execs_cons (thn (h1 pins s σ H D I h) fun f s1 q=>?_)
 cases f with
 | next=>exact wpAny_execs_nil q
 | ret v=>exact q
 | brk=>exact q
 | cont=>exact q
theorem Inv.quiet {pins:List (Addr × Obj)} {σ:St} {H:Hp} {s:Shared} (I:Inv X pins σ H s):interactive X.env=false:=by simp [interactive,I.ok.kind]
def tDrop (te:TE):TS:=fun D σ H=>te σ H fun _ H1=>D.nx σ H1
theorem ps_expr (he:PE X e te) (hs:swapsWith e none pos.line X.env=pure false:=by rfl):PS X (.Expr e pos) (tDrop te):=by
 intro pins s σ H D I h
 exact wpAny_Expr_any (thn (he pins s σ H _ I h) fun v s1 ⟨x,H1,I1,r1,q1⟩=>⟨σ,H1,I1,q1⟩) I.quiet hs
def tRet (te:TE):TS:=fun D σ H=>te σ H D.rt
theorem ps_ret (he:PE X e te):PS X (.Return (some e) pos) (tRet te):=by
 intro pins s σ H D I h
 exact wpAny_Return_some (thn (he pins s σ H _ I h) fun v s1 ⟨x,H1,I1,r1,q1⟩=>⟨x,σ,H1,I1,r1,q1⟩)
def tIfS (c:TT) (t u:TS):TS:=fun D σ H=>c σ H fun b H1=>if b=true then t D σ H1 else u D σ H1
theorem ps_if {c:Expr} {a b:List Stmt} {tc:TT} (hc:PT X c tc) (ha:PSs X a t) (hb:PSs X b u):PS X (.If c a b pos) (tIfS tc t u):=by
 intro pins s σ H D I h
 refine wpAny_If (thn (hc pins s σ H _ I h) fun d s1 ⟨H1,I1,q1⟩=>?_)
 cases d with
 | true=>exact ha pins s1 σ H1 D I1 q1
 | false=>exact hb pins s1 σ H1 D I1 q1
end
abbrev TG:=V→St→Hp→(St→Hp→Prop)→Prop
abbrev TGs:=List V→St→Hp→(St→Hp→Prop)→Prop
def PG (X:Cx) (target:Expr) (t:TG):Prop :=
 ∀ (pins:List (Addr × Obj)) (s:Shared) (σ:St) (H:Hp) (v:V) (u:Value) (Q:St→Hp→Prop),Inv X pins σ H s→RelV v u→t v σ H Q →
  wpAny (model X.prog X.w) X.A (assign target X.env u) (fun _ s'=>∃ σ' H',Inv X pins σ' H' s'∧Q σ' H') X.xe s
def PGs (X:Cx) (ts:List Expr) (t:TGs):Prop :=
 ∀ (pins:List (Addr × Obj)) (s:Shared) (σ:St) (H:Hp) (vs:List V) (us:List Value) (Q:St→Hp→Prop),Inv X pins σ H s→Vals vs us→t vs σ H Q →
  wpAny (model X.prog X.w) X.A (assignInOrder ((assignEach ts X.env).map (·.2)) us) (fun _ s'=>∃ σ' H',Inv X pins σ' H' s'∧Q σ' H') X.xe s
section
variable {X:Cx} {pos:Pos}
def gName (i:Nat):TG:=fun v σ H Q=>Q (σ.set i (some v)) H
theorem pg_name {i:Nat} {x:Str} (hN:X.N.Nodup) (hi:X.N[i]?=some x) (hx:Loc X.env.scope x) (hf:X.fn x=true∨X.env.scope.names.lookup x=some .local:=by first | exact .inl rfl | exact .inr rfl | assumption):PG X (.Name x pos) (gName i):=by
 intro pins s σ H v u Q I r h
 exact wpAny_assign_Name (store_ok I hN hi hx r (fun s' I'=>⟨_,H,I',h⟩) hf)
def gNil:TGs:=fun vs σ H Q=>vs=[]∧Q σ H
def gCons (t:TG) (u:TGs):TGs:=fun vs σ H Q=>∃ v r,vs=v :: r∧t v σ H fun σ' H'=>u r σ' H' Q
theorem pgs_nil:PGs X [] gNil:=by
 intro pins s σ H vs us Q I r h
 obtain ⟨e,h⟩:=h
 subst e
 cases r
 exact assignInOrder_nil ⟨σ,H,I,h⟩
theorem pgs_cons {e:Expr} {es:List Expr} {t:TG} {u:TGs} (h1:PG X e t) (h2:PGs X es u)
  (hs:(assignEach (e :: es) X.env).map (·.2)=assign e X.env :: (assignEach es X.env).map (·.2):=by rfl):PGs X (e :: es) (gCons t u):=by
 intro pins s σ H vs us Q I r h
 obtain ⟨v,vr,e1,h⟩:=h
 subst e1
 cases r with
 | cons r rr =>
  rw [hs]
  refine assignInOrder_cons (thn (h1 pins s σ H _ _ _ I r h) fun _ s1 ⟨σ1,H1,I1,q1⟩=>?_)
  exact h2 pins s1 σ1 H1 _ _ Q I1 rr q1
def gTup (K:PySem.W.Frag) (n:Nat) (t:TGs):TG:=fun v σ H Q=>∃ a xs,v=.ref a∧SqT K H a xs∧xs.length=n∧t xs σ H Q
theorem pg_tup {es:List Expr} {k:Nat} {t:TGs} {n:Nat} (hc:X.calm=true) (h:PGs X es t)
  (hn:(assignEach es X.env).length=n:=by rfl) (hst:(assignEach es X.env).findIdx? (·.1)=none:=by rfl):PG X (.Tuple es k pos) (gTup X.K n t):=by
 intro pins s σ H v u Q I r hw
 obtain ⟨a,xs,e1,hq,hl,hw⟩:=hw
 subst e1
 cases r
 obtain ⟨its,rv,ht,hz⟩:=I.tuple hq
 refine assign_Tuple_tuple (I.ok.hd hc) ht (by simp [hn,← hl,rv.length]) hst fun h' hx=>?_
 have I1:Inv X pins σ H { s with heap:=h' }:=I.kept (t':=s.toks) fun b o e=>hx b o (Nat.ne_of_lt (Heap.lt_size e)) e
 exact h pins _ σ H xs _ Q I1 (by simpa using rv) hw
def tAsg (te:TE) (g:TG):TS:=fun D σ H=>te σ H fun x H1=>g x σ H1 D.nx
theorem ps_asg {tg e:Expr} {te:TE} {g:TG} (he:PE X e te) (hg:PG X tg g) (hs:swapsWithSole [tg] e pos.line X.env=pure false:=by rfl) (hw:swappedStores [tg] e X.env=pure none:=by rfl)
  (h1:(assignEach [tg] X.env).map (·.2)=[assign tg X.env]:=by rfl):PS X (.Assign [tg] e pos) (tAsg te g):=by
 intro pins s σ H D I h
 refine wpAny_Assign_stores (thn (he pins s σ H _ I h) fun v s1 ⟨x,H1,I1,r1,q1⟩=>?_) hs hw
 rw [h1]
 exact thn (hg pins s1 σ H1 x v _ I1 r1 q1) fun _ s2 q=>q
theorem ps_set {i:Nat} {x:Str} {e:Expr} {te:TE} {pos':Pos} (hN:X.N.Nodup) (hi:X.N[i]?=some x) (hx:Loc X.env.scope x) (he:PE X e te) (hs:swapsWith e (some (.Name x pos')) pos.line X.env=pure false:=by rfl) (hf:X.fn x=true∨X.env.scope.names.lookup x=some .local:=by first | exact .inl rfl | exact .inr rfl | assumption) :
  PS X (.Assign [.Name x pos'] e pos) (tAsg te (gName i)):=by
 intro pins s σ H D I h
 refine wpAny_Assign_Name (thn (he pins s σ H _ I h) fun v s1 ⟨y,H1,I1,r1,q1⟩=>?_) hs
 exact store_ok I1 hN hi hx r1 (fun s2 I2=>⟨_,H1,I2,q1⟩) hf
end
section
variable {X:Cx} {pos:Pos}
end
structure It where
 go:Nat→Hp→Prop
 yld:Nat→Hp→V→Hp→Prop
 stop:Nat→Hp→Prop
def FpOk (X:Cx) (pins:List (Addr × Obj)) (H:Hp) (b:Addr):Prop :=
 H b=none∧b≠X.env.locals∧b∉X.fs∧(b∈X.ex∨X.s₀.heap.objs.size≤b)∧(∀ x c,X.env.cells.lookup x=some c→c≠b)∧∀ p∈X.pn++pins,p.1≠b
theorem Inv.fpOk {X:Cx} {pins:List (Addr × Obj)} {σ:St} {H H':Hp} {s:Shared} {b:Addr} (I:Inv X pins σ H s) (hb:s.heap.objs.size≤b) (hn:H' b=none):FpOk X pins H' b:=by
 refine ⟨hn,Nat.ne_of_gt (Nat.lt_of_lt_of_le I.lt hb),I.nofs hb,.inr (Nat.le_trans I.sz hb),fun x c e z=>?_,fun p hp z=>?_⟩
 ·obtain ⟨v,q⟩:=I.cell x c e
  exact absurd (Nat.lt_of_lt_of_le q.lt (by rw [z]; exact hb)) (Nat.lt_irrefl _)
 ·exact absurd (Nat.lt_of_lt_of_le (Heap.lt_size (I.pin p hp).1) (by rw [z]; exact hb)) (Nat.lt_irrefl _)
structure Turn (P:Program) (w:World) (K:PySem.W.Frag) (tg:Expr) (J:It) (fp:List Addr) (it:Addr) (tn:Nat→Heap→Prop):Prop where
 mem:it∈fp
 obj:∀ i h,tn i h→∀ b∈fp,∃ o,h.get? b=some o∧∀ v,o.data≠.cell v
 keep:∀ i h h',tn i h→(∀ b∈fp,∀ o,h.get? b=some o→h'.get? b=some o)→tn i h'
 item:∀ (X:Cx),X.prog=P→X.w=w→X.K=K→X.calm=true→∀ (i:Nat) (pins:List (Addr × Obj)) (s:Shared) (σ:St) (H:Hp) (E:Value→Shared→Prop),Inv X pins σ H s→(∀ b∈fp,FpOk X pins H b)→tn i s.heap→J.go i H →
  wpAny (model P w) X.A (pyNext (.ref it)) (fun r s1=>∃ u,r=some u ∧
   wpAny (model P w) X.A (letOwnedTupleGo tg (.ref it) u) (fun _ s2=>∃ x H',Inv X pins σ H' s2∧RelV x u∧J.yld i H x H'∧tn (i+1) s2.heap∧∀ b∈fp,H' b=none) E s1) E s
 done:∀ (X:Cx),X.prog=P→X.w=w→X.K=K→X.calm=true→∀ (i:Nat) (pins:List (Addr × Obj)) (s:Shared) (σ:St) (H:Hp) (E:Value→Shared→Prop),Inv X pins σ H s→(∀ b∈fp,FpOk X pins H b)→tn i s.heap→J.stop i H →
  wpAny (model P w) X.A (pyNext (.ref it)) (fun r s1=>r=none∧Inv X pins σ H s1) E s
 self:∀ (A:Around) (i:Nat) (s:Shared) (Q:Value→Shared→Prop) (E:Value→Shared→Prop),tn i s.heap→Q (.ref it) s→wpAny (model P w) A (pyIter (.ref it)) Q E s
abbrev TI:=St→Hp→(It→Hp→Prop)→Prop
def PIE (X:Cx) (pins:List (Addr × Obj)) (σ:St) (tg:Expr) (R:It→Hp→Prop) (itv:Value) (s2:Shared):Prop :=
 ∃ (it:Addr) (fp:List Addr) (tn:Nat→Heap→Prop) (J:It) (H':Hp),itv=.ref it∧Inv X pins σ H' s2∧Turn X.prog X.w X.K tg J fp it tn∧tn 0 s2.heap∧(∀ b∈fp,FpOk X pins H' b)∧R J H'
def PI (X:Cx) (tg iter:Expr) (wi:TI):Prop :=
 ∀ (pins:List (Addr × Obj)) (s:Shared) (σ:St) (H:Hp) (R:It→Hp→Prop),Inv X pins σ H s→wi σ H R →
  wpAny (model X.prog X.w) X.A (eval iter X.env) (fun v s1=>wpAny (model X.prog X.w) X.A (pyIter v) (PIE X pins σ tg R) X.xe s1) X.xe s
theorem go_of {M:Model} {A:Around} {E:Value→Shared→Prop} {s:Shared} {tg:Expr} {it:Addr} {u:Value} {o:Obj} {n:String} {vs:Array Value} {Q:Unit→Shared→Prop} (ho:s.heap.get? it=some o) (hc:o.cls=.type n) (hd:o.data=.fields vs)
    (hn:["enumerate","zip","dict_itemiterator","dict_reverseitemiterator","odict_iterator","itertools.zip_longest","itertools.pairwise"].contains n=false) (hQ:Q () s):wpAny M A (letOwnedTupleGo tg (.ref it) u) Q E s:=by
  unfold letOwnedTupleGo
  cases tg <;> first
    | exact wpAny_pure hQ
    | (cases u <;> first
        | exact wpAny_pure hQ
        | (refine wpAny_bind (wpAny_load ho ?_)
           rw [hc,hd]
           show wpAny M A (if (["enumerate","zip","dict_itemiterator","dict_reverseitemiterator","odict_iterator","itertools.zip_longest","itertools.pairwise"].contains n && vs[0]? == some (rawInt _))=true then _ else _) Q E s
           rw [if_neg (by intro h; rw [hn,Bool.false_and] at h; cases h)]
           exact wpAny_pure hQ))
def Itl (K:PySem.W.Frag) (a:Addr):It :=
 ⟨fun i H=>∃ xs x,SqL K H a xs∧xs[i]?=some x,fun i H x H'=>H'=H∧∀ xs,SqL K H a xs→xs[i]?=some x,fun i H=>∃ xs,SqL K H a xs∧xs.length≤i⟩
def Itt (K:PySem.W.Frag) (a:Addr):It :=
 ⟨fun i H=>∃ xs x,SqT K H a xs∧xs[i]?=some x,fun i H x H'=>H'=H∧∀ xs,SqT K H a xs→xs[i]?=some x,fun i H=>∃ xs,SqT K H a xs∧xs.length≤i⟩
def Itr (lo:Int) (n:Nat):It:=⟨fun i _=>i < n,fun i H x H'=>H'=H∧x=.int (lo+i),fun i _=>n≤i⟩
theorem turn_list {P:Program} {w:World} {K:PySem.W.Frag} {tg:Expr} (a it:Addr):Turn P w K tg (Itl K a) [it] it (fun i h=>h.IsListIter it a i) where
 mem:=by simp
 obj:=fun i h st b hb=>by
  have e:b=it:=by simpa using hb
  subst e
  obtain ⟨o,e,c,d⟩:=st
  exact ⟨o,e,fun v z=>by rw [d] at z; cases z⟩
 keep:=fun i h h' st k=>st.at fun o e=>k it (by simp) o e
 item:=by
  intro X hP hw hK hc i pins s σ H E I hf st hg
  subst hP hw hK
  obtain ⟨xs,x,hq,hx⟩:=hg
  obtain ⟨its,rv,p,hz⟩:=I.list hq
  obtain ⟨u,hu,ru⟩:=rv.get hx
  obtain ⟨f0,f1,f2,f3,f4,f5⟩:=hf it (by simp)
  refine wpAny_pyNext_list_item st p.isList (x:=u) (by simpa using hu) fun h' st' sb=>?_
  have I1:Inv X pins σ H { s with heap:=h' }:=I.turned (t':=s.toks) (fun b o hb e=>(sb.2 b hb).trans e) f0 f1 f3 f4 f5
  obtain ⟨o,e,c,d⟩:=id st'
  exact ⟨u,rfl,go_of (s:={ s with heap:=h' }) e c d (by decide) ⟨x,H,I1,ru,⟨rfl,fun ys hy=>by rw [I.list_inj hy hq]; exact hx⟩,st',fun b hb=>(hf b hb).1⟩⟩
 done:=by
  intro X hP hw hK hc i pins s σ H E I hf st hg
  subst hP hw hK
  obtain ⟨xs,hq,hx⟩:=hg
  obtain ⟨its,rv,p,hz⟩:=I.list hq
  obtain ⟨f0,f1,f2,f3,f4,f5⟩:=hf it (by simp)
  have hl:=rv.length
  exact wpAny_pyNext_list_end (I.ok.hd hc) st p.isList (by simp; lia) fun h' eb=>⟨rfl,I.turned (t':=s.toks) (fun b o hb e=>eb b o hb e) f0 f1 f3 f4 f5⟩
 self:=fun _ _ _ _ _ st h=>wpAny_pyIter_listiter st h
theorem turn_tuple {P:Program} {w:World} {K:PySem.W.Frag} {tg:Expr} (a it:Addr):Turn P w K tg (Itt K a) [it] it (fun i h=>h.IsTupleIter it a i) where
 mem:=by simp
 obj:=fun i h st b hb=>by
  have e:b=it:=by simpa using hb
  subst e
  obtain ⟨o,e,c,d⟩:=st
  exact ⟨o,e,fun v z=>by rw [d] at z; cases z⟩
 keep:=fun i h h' st k=>st.at fun o e=>k it (by simp) o e
 item:=by
  intro X hP hw hK hc i pins s σ H E I hf st hg
  subst hP hw hK
  obtain ⟨xs,x,hq,hx⟩:=hg
  obtain ⟨its,rv,p,hz⟩:=I.tuple hq
  obtain ⟨u,hu,ru⟩:=rv.get hx
  obtain ⟨f0,f1,f2,f3,f4,f5⟩:=hf it (by simp)
  refine wpAny_pyNext_tuple_item st (show s.heap.IsTuple a its.toArray from p) (x:=u) (by simpa using hu) fun h' st' sb=>?_
  have I1:Inv X pins σ H { s with heap:=h' }:=I.turned (t':=s.toks) (fun b o hb e=>(sb.2 b hb).trans e) f0 f1 f3 f4 f5
  obtain ⟨o,e,c,d⟩:=id st'
  exact ⟨u,rfl,go_of (s:={ s with heap:=h' }) e c d (by decide) ⟨x,H,I1,ru,⟨rfl,fun ys hy=>by rw [I.tuple_inj hy hq]; exact hx⟩,st',fun b hb=>(hf b hb).1⟩⟩
 done:=by
  intro X hP hw hK hc i pins s σ H E I hf st hg
  subst hP hw hK
  obtain ⟨xs,hq,hx⟩:=hg
  obtain ⟨its,rv,p,hz⟩:=I.tuple hq
  obtain ⟨f0,f1,f2,f3,f4,f5⟩:=hf it (by simp)
  have hl:=rv.length
  exact wpAny_pyNext_tuple_end (I.ok.hd hc) st (show s.heap.IsTuple a its.toArray from p) (by simp; lia) fun h' eb=>⟨rfl,I.turned (t':=s.toks) (fun b o hb e=>eb b o hb e) f0 f1 f3 f4 f5⟩
 self:=fun _ _ _ _ _ st h=>wpAny_pyIter_tupleiter st h
theorem turn_range {P:Program} {w:World} {K:PySem.W.Frag} {tg:Expr} (it:Addr) (lo:Int) (n:Nat):Turn P w K tg (Itr lo n) [it] it (fun i h=>IsRangeIter h it (lo+(i:Nat) * 1) ((n:Int) - (i:Nat)) 1) where
 mem:=by simp
 obj:=fun i h st b hb=>by
  have e:b=it:=by simpa using hb
  subst e
  exact ⟨_,st,fun v z=>by
   have z':Data.fields _=Data.cell v:=z
   cases z'⟩
 keep:=fun i h h' st k=>k it (by simp) _ st
 item:=by
  intro X hP hw hK hc i pins s σ H E I hf st hg
  subst hP hw hK
  obtain ⟨f0,f1,f2,f3,f4,f5⟩:=hf it (by simp)
  have W:=Walks.range (prog:=X.prog) (w:=X.w) (I.ok.hd hc) it lo 1 n
  refine W.item i s _ _ hg st fun v h' tk hv st' kk=>?_
  obtain ⟨t,rfl⟩:=hv
  have I1:Inv X pins σ H { s with heap:=h',toks:=tk }:=I.turned (fun b o hb e=>kk b o (by simpa using hb) e) f0 f1 f3 f4 f5
  refine ⟨_,rfl,go_of (s:={ s with heap:=h',toks:=tk }) (n:="range_iterator") st' rfl rfl (by decide) ⟨.int (lo+i),H,I1,⟨t,?_⟩,⟨rfl,rfl⟩,st',fun b hb=>(hf b hb).1⟩⟩
  rw [Int.mul_one]
 done:=by
  intro X hP hw hK hc i pins s σ H E I hf st hg
  subst hP hw hK
  obtain ⟨f0,f1,f2,f3,f4,f5⟩:=hf it (by simp)
  exact wpAny_pyNext_range_end (I.ok.hd hc) st (by have:n≤i:=hg; lia) fun h' eb=>⟨rfl,I.turned (t':=s.toks) (fun b o hb e=>eb b o hb e) f0 f1 f3 f4 f5⟩
 self:=fun _ _ _ _ _ st h=>wpAny_pyIter_rangeiter st h
end L2
namespace L2
open PySem PySem.Spec PyProof.Rows
section
variable {X:Cx} {tg:Expr}
theorem range_it {pins:List (Addr × Obj)} {σ:St} {H:Hp} {s:Shared} {R:It→Hp→Prop} {E:Value→Shared→Prop} {lo hi:Int} {t u v:Tok} {tk:Nat} (I:Inv X pins σ H s) (h1:-(2 ^ 62)≤lo) (h2:lo < 2 ^ 62) (h3:-(2 ^ 62)≤hi) (h4:hi < 2 ^ 62)
  (q:R (Itr lo (hi - lo).toNat) H):wpAny (model X.prog X.w) X.A (pyIter (.ref s.heap.objs.size)) (PIE X pins σ tg R) E { s with heap:=s.heap.push { cls:=.type "range",data:=.fields #[.int lo t,.int hi u,.int 1 v] },toks:=tk }:=by
 refine wpAny_pyIter_range (IsRange.new ..) (small_one h1 h2 h3 h4) ?_
 have I1:Inv X pins σ H { s with heap:=s.heap.push { cls:=.type "range",data:=.fields #[.int lo t,.int hi u,.int 1 v] },toks:=tk }:=I.kept fun b o e=>Heap.get?_push_of_some _ e
 refine ⟨(s.heap.push { cls:=.type "range",data:=.fields #[.int lo t,.int hi u,.int 1 v] }).objs.size,[(s.heap.push { cls:=.type "range",data:=.fields #[.int lo t,.int hi u,.int 1 v] }).objs.size],_,_,H,rfl,
  I1.kept (t':=tk) fun b o e=>Heap.get?_push_of_some _ e,turn_range _ lo (hi - lo).toNat,?_,fun b hb=>?_,q⟩
 ·have e1:lo+((0:Nat):Int) * 1=lo:=by simp
  have e2:(((hi - lo).toNat:Nat):Int) - ((0:Nat):Int)=Builtin.Range.rangeSize lo hi 1:=by rw [rangeSize_one]; split <;> lia
  show IsRangeIter _ _ (lo+((0:Nat):Int) * 1) ((((hi - lo).toNat:Nat):Int) - ((0:Nat):Int)) 1
  rw [e1,e2]
  exact Heap.get?_push_size _ rfl
 ·have e:b=(s.heap.push { cls:=.type "range",data:=.fields #[.int lo t,.int hi u,.int 1 v] }).objs.size:=by simpa using hb
  subst e
  exact I1.fpOk (Nat.le_refl _) (I1.hok.fresh (Nat.le_refl _))
def iRng1 (ta:TA):TI:=fun σ H R=>ta σ H fun vs H1=>∃ j:Int,vs=[.int j]∧-(2 ^ 62)≤j∧j < 2 ^ 62∧R (Itr 0 j.toNat) H1
def iRng2 (ta:TA):TI:=fun σ H R=>ta σ H fun vs H1=>∃ i j:Int,vs=[.int i,.int j]∧(-(2 ^ 62)≤i∧i < 2 ^ 62∧-(2 ^ 62)≤j∧j < 2 ^ 62)∧R (Itr i (j - i).toNat) H1
theorem pi_range1 {a:Expr} {ta:TA} {p pos:Pos} (hg:Gl X "range") (hm:X.mg "range" = none) (ha:PA X [a] ta) (hs:starEach [a] X.env=[(false,eval a X.env)]:=by rfl):PI X tg (.Call (.Name "range" p) [a] [] pos) (iRng1 ta):=by
 intro pins s σ H R I h
 refine Call_ (ld_blt I hg hm boot_range (PyProof.Rows.callWith_type1 (thn (ha pos pins s σ H _ I h) fun us s1 ⟨vs,H1,I1,r1,q1⟩=>?_) hs rfl))
 obtain ⟨j,e,q1,q2,q⟩:=q1
 subst e
 cases r1 with
 | cons r rr =>
  cases rr
  obtain ⟨t,rfl⟩:=r
  exact call_range_1 (range_it I1 (by lia) (by lia) q1 q2 (by simpa using q))
theorem pi_range2 {a b:Expr} {ta:TA} {p pos:Pos} (hg:Gl X "range") (hm:X.mg "range" = none) (ha:PA X [a,b] ta) (hs:starEach [a,b] X.env=[(false,eval a X.env),(false,eval b X.env)]:=by rfl) (hs2:starEach [b] X.env=[(false,eval b X.env)]:=by rfl) :
  PI X tg (.Call (.Name "range" p) [a,b] [] pos) (iRng2 ta):=by
 intro pins s σ H R I h
 refine Call_ (ld_blt I hg hm boot_range (PyProof.Rows.callWith_type1 (thn (ha pos pins s σ H _ I h) fun us s1 ⟨vs,H1,I1,r1,q1⟩=>?_) (by rw [hs,hs2]) (by rw [hs2]; rfl)))
 obtain ⟨i,j,e,⟨q1,q2,q3,q4⟩,q⟩:=q1
 subst e
 cases r1 with
 | cons r rr =>
  cases rr with
  | cons r' rr =>
   cases rr
   obtain ⟨t,rfl⟩:=r
   obtain ⟨t',rfl⟩:=r'
   exact call_range_2 (range_it I1 q1 q2 q3 q4 q)
def tFor (wi:TI) (g:TG) (tb:TS):TS:=fun D σ H=>wi σ H fun J H1=>∃ W:Nat→Nat→St→Hp→Prop,(∃ m,W 0 m σ H1)∧∀ i m σ H,W i m σ H →
 (J.stop i H∧D.nx σ H)∨(J.go i H∧∃ N:St→Hp→Prop,(∀ σ' H',N σ' H'→∃ m',m' < m∧W (i+1) m' σ' H')∧∀ x H',J.yld i H x H'→g x σ H' fun σ2 H2=>tb { D with nx:=N,ct:=N,bk:=D.nx } σ2 H2)
def pinsAt (fp:List Addr) (h:Heap):List (Addr × Obj):=fp.filterMap fun b=>(h.get? b).map fun o=>(b,o)
theorem mem_pinsAt {fp:List Addr} {h:Heap} {b:Addr} {o:Obj} (hb:b∈fp) (e:h.get? b=some o):(b,o)∈pinsAt fp h:=List.mem_filterMap.mpr ⟨b,hb,by rw [e]; rfl⟩
theorem of_pinsAt {fp:List Addr} {h:Heap} {p:Addr × Obj} (hp:p∈pinsAt fp h):p.1∈fp∧h.get? p.1=some p.2:=by
 obtain ⟨b,hb,e⟩:=List.mem_filterMap.mp hp
 cases q:h.get? b with
 | none=>rw [q] at e; cases e
 | some o =>
  rw [q] at e
  have e':(b,o)=p:=Option.some.inj e
  subst e'
  exact ⟨hb,q⟩
theorem Inv.pinned {pins:List (Addr × Obj)} {σ:St} {H:Hp} {s:Shared} {fp:List Addr} (I:Inv X pins σ H s) (hf:∀ b∈fp,FpOk X pins H b) (ho:∀ b∈fp,∃ o,s.heap.get? b=some o∧∀ v,o.data≠.cell v):Inv X (pins++pinsAt fp s.heap) σ H s :=
 I.pins_of fun p hp=>(List.mem_append.mp hp).elim (fun z=>I.pin p (List.mem_append_right _ z)) fun z=>by
  obtain ⟨hb,e⟩:=of_pinsAt z
  obtain ⟨f0,f1,f2,_⟩:=hf p.1 hb
  obtain ⟨o,e',d⟩:=ho p.1 hb
  rw [e] at e'; cases e'
  exact ⟨e,f0,f1,f2,d⟩
theorem Inv.unpinned {pins pl:List (Addr × Obj)} {σ:St} {H:Hp} {s:Shared} (I:Inv X (pins++pl) σ H s):Inv X pins σ H s:=I.pins_of fun p hp=>I.pin p (List.mem_append_right _ (List.mem_append_left _ hp))
theorem ps_for {iter:Expr} {body:List Stmt} {wi:TI} {g:TG} {tb:TS} {pos:Pos} (hp:PassesOwn (model X.prog X.w) X.A X.env X.xe) (hc:X.calm=true) (hi:PI X tg iter wi) (hg:PG X tg g) (hb:PSs X body tb)
  (hs:∀ x,foldedSetIterable iter X.env x=pure x:=by intro _; rfl):PS X (.For tg iter body [] pos) (tFor wi g tb):=by
 intro pins s σ H D I h
 refine wpAny_For (thn (hi pins s σ H _ I h) fun v s1 h1=>thn h1 fun itv s2 h2=>?_) hs
 obtain ⟨it,fp,tn,J,H2,e,I2,T,st2,f2,W,⟨m0,w0⟩,turn⟩:=h2
 subst e
 have stat:∀ {H':Hp},(∀ b∈fp,H' b=none)→∀ b∈fp,FpOk X pins H' b:=fun hn b hb=>⟨hn b hb,(f2 b hb).2⟩
 refine codeAny_forLoop_any (fun n s'=>∃ i σ' H',Inv X pins σ' H' s'∧tn i s'.heap∧(∀ b∈fp,H' b=none)∧W i n σ' H') ?_ m0 ⟨0,σ,H2,I2,st2,fun b hb=>(f2 b hb).1,w0⟩
 rintro n s3 ⟨i,σ3,H3,I3,st3,fr3,w3⟩
 rcases turn i n σ3 H3 w3 with ⟨stop,qn⟩ | ⟨go,N,hN,step⟩
 ·refine wpAny_passesOwn hp (thn (T.done X rfl rfl rfl hc i pins s3 σ3 H3 X.xe I3 (stat fr3) st3 stop) fun r s4 ⟨hr,I4⟩=>?_)
  subst hr
  exact wpAny_execs_nil ⟨σ3,H3,I4,qn⟩
 ·refine wpAny_passesOwn hp (thn (T.item X rfl rfl rfl hc i pins s3 σ3 H3 X.xe I3 (stat fr3) st3 go) fun r s4 ⟨u,hr,h4⟩=>?_)
  subst hr
  refine wpAny_passesOwn hp (thn h4 fun _ s5 ⟨x,H5,I5,r5,y5,st5,fr5⟩=>?_)
  have I5':=I5.pinned (stat fr5) (T.obj _ _ st5)
  refine wpAny_passesOwn hp (thn (hg _ s5 σ3 H5 x u _ I5' r5 (step x H5 y5)) fun _ s6 ⟨σ6,H6,I6,q6⟩=>?_)
  refine wpAny_passesOwn hp (thn (hb _ s6 σ6 H6 _ I6 q6) fun f s7 q7=>?_)
  have again:∀ {σ7:St} {H7:Hp},Inv X (pins++pinsAt fp s5.heap) σ7 H7 s7→N σ7 H7→∃ m,m < n∧∃ i σ' H',Inv X pins σ' H' s7∧tn i s7.heap∧(∀ b∈fp,H' b=none)∧W i m σ' H':=fun {σ7 H7} I7 n7=>by
   obtain ⟨m',hm,w7⟩:=hN σ7 H7 n7
   refine ⟨m',hm,i+1,σ7,H7,I7.unpinned,T.keep _ _ _ st5 fun b hb o e=>(I7.pin (b,o) (List.mem_append_right _ (List.mem_append_right _ (mem_pinsAt hb e)))).1,fun b hb=>?_,w7⟩
   obtain ⟨o,e,d⟩:=T.obj _ _ st5 b hb
   exact (I7.pin (b,o) (List.mem_append_right _ (List.mem_append_right _ (mem_pinsAt hb e)))).2.1
  cases f with
  | next=>obtain ⟨σ7,H7,I7,n7⟩:=q7; exact again I7 n7
  | cont=>obtain ⟨σ7,H7,I7,n7⟩:=q7; exact again I7 n7
  | brk=>obtain ⟨σ7,H7,I7,q7⟩:=q7; exact ⟨σ7,H7,I7.unpinned,q7⟩
  | ret v=>obtain ⟨x7,σ7,H7,I7,r7,q7⟩:=q7; exact ⟨x7,σ7,H7,I7.unpinned,r7,q7⟩
end
end L2
namespace L2
open PySem PySem.Spec PyProof.Rows
abbrev R2:=V→V→Hp→VK→Prop
def OpR (X:Cx) (f:Value→Value→Sem Value) (r:R2):Prop :=
 ∀ (pins:List (Addr × Obj)) (s:Shared) (σ:St) (H:Hp) (x y:V) (v u:Value) (Q:VK),Inv X pins σ H s→RelV x v→RelV y u→r x y H Q →
  wpAny (model X.prog X.w) X.A (f v u) (EP X pins σ Q) X.xe s
def UnR (X:Cx) (f:Value→Sem Value) (r:V→Hp→VK→Prop):Prop :=
 ∀ (pins:List (Addr × Obj)) (s:Shared) (σ:St) (H:Hp) (x:V) (v:Value) (Q:VK),Inv X pins σ H s→RelV x v→r x H Q →
  wpAny (model X.prog X.w) X.A (f v) (EP X pins σ Q) X.xe s
def CallR (X:Cx) (f:Value) (r:List V→Hp→VK→Prop):Prop :=
 ∀ (pins:List (Addr × Obj)) (s:Shared) (σ:St) (H:Hp) (xs:List V) (us:List Value) (Q:VK),Inv X pins σ H s→Vals xs us→r xs H Q →
  wpAny (model X.prog X.w) X.A (call f us) (EP X pins σ Q) X.xe s
def tOp (r:R2) (ta tb:TE):TE:=fun σ H Q=>ta σ H fun x H1=>tb σ H1 fun y H2=>r x y H2 Q
def tUn (r:V→Hp→VK→Prop) (ta:TE):TE:=fun σ H Q=>ta σ H fun x H1=>r x H1 Q
def rI (C:Int→Int→Prop) (g:Int→Int→V):R2:=fun x y H Q=>∃ i j,x=.int i∧y=.int j∧C i j∧Q (g i j) H
def rI0 (g:Int→Int→V):R2:=fun x y H Q=>∃ i j,x=.int i∧y=.int j∧Q (g i j) H
def rU (g:Int→V):V→Hp→VK→Prop:=fun x H Q=>∃ i,x=.int i∧Q (g i) H
section
variable {X:Cx} {a b c:Expr} {ta tb tc:TE} {pos:Pos}
theorem binT (ha:PE X a ta) (hb:PE X b tb) {pins:List (Addr × Obj)} {s:Shared} {σ:St} {H:Hp} {R:V→V→Hp→Prop} (I:Inv X pins σ H s)
  (h:ta σ H fun x H1=>tb σ H1 fun y H2=>R x y H2) {Q:Value→Shared→Prop} {f:Value→Value→Sem Value}
  (hf:∀ v u s2 x y H2,Inv X pins σ H2 s2→RelV x v→RelV y u→R x y H2→wpAny (model X.prog X.w) X.A (f v u) Q X.xe s2) :
  wpAny (model X.prog X.w) X.A (eval a X.env) (fun v s₁=>wpAny (model X.prog X.w) X.A (eval b X.env) (fun u s₂=>wpAny (model X.prog X.w) X.A (f v u) Q X.xe s₂) X.xe s₁) X.xe s:=by
 refine thn (ha pins s σ H _ I h) fun v s1 ⟨x,H1,I1,r1,q1⟩=>?_
 refine thn (hb pins s1 σ H1 _ I1 q1) fun u s2 ⟨y,H2,I2,r2,q2⟩=>?_
 exact hf v u s2 x y H2 I2 r1 r2 q2
theorem pe_op {op:Operator} {r:R2} (ho:OpR X (binaryOp op) r) (ha:PE X a ta) (hb:PE X b tb):PE X (.BinOp a op b pos) (tOp r ta tb):=by
 intro pins s σ H Q I h
 exact wpAny_BinOp (binT ha hb I h fun v u s2 x y H2 I2 rx ry q=>ho pins s2 σ H2 x y v u Q I2 rx ry q)
theorem pe_un {op:UnaryOp} {r:V→Hp→VK→Prop} (ho:UnR X (unaryOp op) r) (ha:PE X a ta):PE X (.UnaryOp op a pos) (tUn r ta):=by
 intro pins s σ H Q I h
 exact UnaryOp_ (thn (ha pins s σ H _ I h) fun v s1 ⟨x,H1,I1,r1,q1⟩=>ho pins s1 σ H1 x v Q I1 r1 q1)
theorem opI {f:Value→Value→Sem Value} {C:Int→Int→Prop} {g:Int→Int→Int}
  (rule:∀ (i j:Int) (t u:Tok) (s:Shared) (Q:Value→Shared→Prop) (E:Value→Shared→Prop),C i j→Q (.int (g i j) s.toks) { s with toks:=s.toks+1 }→wpAny (model X.prog X.w) X.A (f (.int i t) (.int j u)) Q E s) :
  OpR X f (rI C fun i j=>.int (g i j)):=by
 intro pins s σ H x y v u Q I rx ry h
 obtain ⟨i,j,rfl,rfl,hc,q⟩:=h
 obtain ⟨t,rfl⟩:=rx
 obtain ⟨t',rfl⟩:=ry
 exact rule i j t t' s _ _ hc ⟨.int (g i j),H,I.tok _,⟨_,rfl⟩,q⟩
theorem opI0 {f:Value→Value→Sem Value} {g:Int→Int→Int}
  (rule:∀ (i j:Int) (t u:Tok) (s:Shared) (Q:Value→Shared→Prop) (E:Value→Shared→Prop),Q (.int (g i j) s.toks) { s with toks:=s.toks+1 }→wpAny (model X.prog X.w) X.A (f (.int i t) (.int j u)) Q E s) :
  OpR X f (rI0 fun i j=>.int (g i j)):=by
 intro pins s σ H x y v u Q I rx ry h
 obtain ⟨i,j,rfl,rfl,q⟩:=h
 obtain ⟨t,rfl⟩:=rx
 obtain ⟨t',rfl⟩:=ry
 exact rule i j t t' s _ _ ⟨.int (g i j),H,I.tok _,⟨_,rfl⟩,q⟩
theorem opB0 {f:Value→Value→Sem Value} {g:Int→Int→Bool}
  (rule:∀ (i j:Int) (t u:Tok) (s:Shared) (Q:Value→Shared→Prop) (E:Value→Shared→Prop),Q (.bool (g i j)) s→wpAny (model X.prog X.w) X.A (f (.int i t) (.int j u)) Q E s) :
  OpR X f (rI0 fun i j=>.bl (g i j)):=by
 intro pins s σ H x y v u Q I rx ry h
 obtain ⟨i,j,rfl,rfl,q⟩:=h
 obtain ⟨t,rfl⟩:=rx
 obtain ⟨t',rfl⟩:=ry
 exact rule i j t t' s _ _ ⟨.bl (g i j),H,I,rfl,q⟩
def CDiv (i j:Int):Prop:=0 < j∧j < 1073741824
def CPow (i j:Int):Prop:=0≤j∧j≤1000000∧i.natAbs < 2 ^ 64
def CMul (i j:Int):Prop:=(-(2 ^ 64) < i∧i < 2 ^ 64)∨(-(2 ^ 64) < j∧j < 2 ^ 64)
theorem CMul.ok {i j:Int} (h:CMul i j):IntMulOk i j:=by
 rcases h with ⟨h1,h2⟩ | ⟨h1,h2⟩
 ·exact .of_left (intBits_le_64 h1 h2)
 ·exact .of_right (intBits_le_64 h1 h2)
theorem op_add:OpR X (binaryOp .Add) (rI0 fun i j=>.int (i+j)):=opI0 fun _ _ _ _ _ _ _ q=>add_int q
theorem op_sub:OpR X (binaryOp .Sub) (rI0 fun i j=>.int (i - j)):=opI0 fun _ _ _ _ _ _ _ q=>sub_int q
theorem op_mul:OpR X (binaryOp .Mult) (rI CMul fun i j=>.int (i * j)):=opI fun _ _ _ _ _ _ _ hc q=>mul_int q hc.ok
theorem op_fdiv:OpR X (binaryOp .FloorDiv) (rI CDiv fun i j=>.int (i / j)):=opI fun i j _ _ _ _ _ hc q=>by
 have h1:(0:Int) < j:=hc.1
 have h2:j < 1073741824:=hc.2
 exact floordiv_int (by lia) (by rw [Int.fdiv_eq_ediv_of_nonneg i (by lia)]; exact q) (.inl (PyProof.noPylong_small (by lia)))
theorem op_mod:OpR X (binaryOp .Mod) (rI (fun _ j=>0 < j) fun i j=>.int (i % j)):=opI fun i j _ _ _ _ _ hc q=>by
 have h1:(0:Int) < j:=hc
 exact mod_int' (by lia) (by rw [Int.fmod_eq_emod_of_nonneg i (by lia)]; exact q)
theorem op_pow:OpR X (binaryOp .Pow) (rI CPow fun i j=>.int (i ^ j.toNat)):=opI fun _ _ _ _ _ _ _ hc q=>pow_int_small hc.1 hc.2.1 hc.2.2 q
theorem unI {f:Value→Sem Value} {g:Int→Int}
  (rule:∀ (i:Int) (t:Tok) (s:Shared) (Q:Value→Shared→Prop) (E:Value→Shared→Prop),Q (.int (g i) s.toks) { s with toks:=s.toks+1 }→wpAny (model X.prog X.w) X.A (f (.int i t)) Q E s) :
  UnR X f (rU fun i=>.int (g i)):=by
 intro pins s σ H x v Q I rx h
 obtain ⟨i,rfl,q⟩:=h
 obtain ⟨t,rfl⟩:=rx
 exact rule i t s _ _ ⟨.int (g i),H,I.tok _,⟨_,rfl⟩,q⟩
theorem un_neg:UnR X (unaryOp .USub) (rU fun i=>.int (-i)):=unI fun _ _ _ _ _ q=>neg_int q
end
def scal:V→V→Bool
 | .non,.non=>true | .non,.int _=>true | .int _,.non=>true | .non,.bl _=>true | .bl _,.non=>true | .non,.str _=>true | .str _,.non=>true
 | .int _,.int _=>true | .bl _,.bl _=>true | .str _,.str _=>true | .byt _,.byt _=>true
 | .int _,.str _=>true | .str _,.int _=>true | .bl _,.str _=>true | .str _,.bl _=>true
 | _,_=>false
def rEq:R2:=fun x y H Q=>scal x y=true∧Q (.bl (decide (x=y))) H
def rNe:R2:=fun x y H Q=>scal x y=true∧Q (.bl (!decide (x=y))) H
theorem dec_int {i j:Int}:decide (V.int i=V.int j)=(i == j):=by
 rw [Bool.eq_iff_iff]
 simp
theorem dec_bl {i j:Bool}:decide (V.bl i=V.bl j)=(i == j):=by
 rw [Bool.eq_iff_iff]
 simp
theorem dec_str {i j:Str}:decide (V.str i=V.str j)=(i == j):=by
 rw [Bool.eq_iff_iff]
 simp
theorem dec_byt {i j:Array UInt8}:decide (V.byt i=V.byt j)=(i.toList == j.toList):=by
 rw [Bool.eq_iff_iff]
 cases i
 cases j
 simp
section
variable {X:Cx} {a b c:Expr} {ta tb tc:TE} {pos:Pos}
theorem fin_bl {pins:List (Addr × Obj)} {σ:St} {H:Hp} {s:Shared} {Q:VK} {k k':Bool} (I:Inv X pins σ H s) (q:Q (.bl k) H) (e:k=k'):EP X pins σ Q (.bool k') s:=by
 subst e
 exact ⟨.bl k,H,I,rfl,q⟩
theorem op_eq:OpR X (compareOp .Eq) rEq:=by
 intro pins s σ H x y v u Q I rx ry h
 obtain ⟨hs,q⟩:=h
 cases x with
 | non =>
  cases rx
  cases y with
  | non=>cases ry; exact PySem.EqNone.eq_none_none (fin_bl I q (by simp))
  | bl j=>cases ry; exact PySem.EqNone.eq_none_bool (fin_bl I q (by simp))
  | int j=>obtain ⟨t',rfl⟩:=ry; exact PySem.EqNone.eq_none_int (fin_bl I q (by simp))
  | str j=>obtain ⟨t',rfl⟩:=ry; exact PySem.EqNone.eq_none_str (fin_bl I q (by simp))
  | _=>exact absurd (show false=true from hs) Bool.false_ne_true
 | bl i =>
  cases rx
  cases y with
  | non=>cases ry; exact PySem.EqNone.eq_bool_none (fin_bl I q (by simp))
  | bl j=>cases ry; exact eq_bool (fin_bl I q dec_bl)
  | str j=>obtain ⟨t',rfl⟩:=ry; exact PySem.EqMixed.eq_bool_str (fin_bl I q (by simp))
  | _=>exact absurd (show false=true from hs) Bool.false_ne_true
 | int i =>
  obtain ⟨t,rfl⟩:=rx
  cases y with
  | non=>cases ry; exact PySem.EqNone.eq_int_none (fin_bl I q (by simp))
  | int j=>obtain ⟨t',rfl⟩:=ry; exact eq_int (fin_bl I q dec_int)
  | str j=>obtain ⟨t',rfl⟩:=ry; exact PySem.EqMixed.eq_int_str (fin_bl I q (by simp))
  | _=>exact absurd (show false=true from hs) Bool.false_ne_true
 | str i =>
  obtain ⟨t,rfl⟩:=rx
  cases y with
  | non=>cases ry; exact PySem.EqNone.eq_str_none (fin_bl I q (by simp))
  | bl j=>cases ry; exact PySem.EqMixed.eq_str_bool (fin_bl I q (by simp))
  | int j=>obtain ⟨t',rfl⟩:=ry; exact PySem.EqMixed.eq_str_int (fin_bl I q (by simp))
  | str j=>obtain ⟨t',rfl⟩:=ry; exact eq_str (fin_bl I q dec_str)
  | _=>exact absurd (show false=true from hs) Bool.false_ne_true
 | byt i =>
  obtain ⟨t,rfl⟩:=rx
  cases y with
  | byt j=>obtain ⟨t',rfl⟩:=ry; exact PySem.W.eq_bytes (fin_bl I q dec_byt)
  | _=>exact absurd (show false=true from hs) Bool.false_ne_true
 | _=>cases y <;> exact absurd (show false=true from hs) Bool.false_ne_true
theorem op_ne:OpR X (compareOp .NotEq) rNe:=by
 intro pins s σ H x y v u Q I rx ry h
 obtain ⟨hs,q⟩:=h
 cases x with
 | non =>
  cases rx
  cases y with
  | non=>cases ry; exact PySem.EqNone.ne_none_none (fin_bl I q (by simp))
  | bl j=>cases ry; exact PySem.EqNone.ne_none_bool (fin_bl I q (by simp))
  | int j=>obtain ⟨t',rfl⟩:=ry; exact PySem.EqNone.ne_none_int (fin_bl I q (by simp))
  | str j=>obtain ⟨t',rfl⟩:=ry; exact PySem.EqNone.ne_none_str (fin_bl I q (by simp))
  | _=>exact absurd (show false=true from hs) Bool.false_ne_true
 | bl i =>
  cases rx
  cases y with
  | non=>cases ry; exact PySem.EqNone.ne_bool_none (fin_bl I q (by simp))
  | bl j=>cases ry; exact ne_bool (fin_bl I q (congrArg not dec_bl))
  | str j=>obtain ⟨t',rfl⟩:=ry; exact PySem.EqMixed.ne_bool_str (fin_bl I q (by simp))
  | _=>exact absurd (show false=true from hs) Bool.false_ne_true
 | int i =>
  obtain ⟨t,rfl⟩:=rx
  cases y with
  | non=>cases ry; exact PySem.EqNone.ne_int_none (fin_bl I q (by simp))
  | int j=>obtain ⟨t',rfl⟩:=ry; exact ne_int (fin_bl I q (congrArg not dec_int))
  | str j=>obtain ⟨t',rfl⟩:=ry; exact PySem.EqMixed.ne_int_str (fin_bl I q (by simp))
  | _=>exact absurd (show false=true from hs) Bool.false_ne_true
 | str i =>
  obtain ⟨t,rfl⟩:=rx
  cases y with
  | non=>cases ry; exact PySem.EqNone.ne_str_none (fin_bl I q (by simp))
  | bl j=>cases ry; exact PySem.EqMixed.ne_str_bool (fin_bl I q (by simp))
  | int j=>obtain ⟨t',rfl⟩:=ry; exact PySem.EqMixed.ne_str_int (fin_bl I q (by simp))
  | str j=>obtain ⟨t',rfl⟩:=ry; exact ne_str (fin_bl I q (congrArg not dec_str))
  | _=>exact absurd (show false=true from hs) Bool.false_ne_true
 | byt i =>
  obtain ⟨t,rfl⟩:=rx
  cases y with
  | byt j=>obtain ⟨t',rfl⟩:=ry; exact PySem.W.ne_bytes (fin_bl I q (congrArg not dec_byt))
  | _=>exact absurd (show false=true from hs) Bool.false_ne_true
 | _=>cases y <;> exact absurd (show false=true from hs) Bool.false_ne_true
theorem op_lt:OpR X (compareOp .Lt) (rI0 fun i j=>.bl (decide (i < j))):=opB0 fun _ _ _ _ _ _ _ q=>lt_int q
theorem op_le:OpR X (compareOp .LtE) (rI0 fun i j=>.bl (decide (i≤j))):=opB0 fun _ _ _ _ _ _ _ q=>le_int q
theorem op_gt:OpR X (compareOp .Gt) (rI0 fun i j=>.bl (decide (j < i))):=opB0 fun _ _ _ _ _ _ _ q=>gt_int q
theorem op_in_str:OpR X (compareOp .In) (fun x y H Q=>∃ i j,x=.str i∧y=.str j∧Q (.bl (!(Builtin.Str.occurrences j i 0 j.length 1).isEmpty)) H):=by
 intro pins s σ H x y v u Q I rx ry h
 obtain ⟨i,j,rfl,rfl,q⟩:=h
 obtain ⟨t,rfl⟩:=rx
 obtain ⟨t',rfl⟩:=ry
 exact in_str (fin_bl I q rfl)
theorem op_isN:OpR X (compareOp .Is) (fun x y H Q=>y=.non∧Q (.bl (decide (x=.non))) H):=by
 intro pins s σ H x y v u Q I rx ry h
 obtain ⟨rfl,q⟩:=h
 cases ry
 refine is_none_gen (fin_bl I q ?_)
 cases x <;> first
  | (cases rx; rfl)
  | (obtain ⟨t,rfl⟩:=rx; rfl)
theorem op_notN:OpR X (compareOp .IsNot) (fun x y H Q=>y=.non∧Q (.bl (!decide (x=.non))) H):=by
 intro pins s σ H x y v u Q I rx ry h
 obtain ⟨rfl,q⟩:=h
 cases ry
 refine isnot_none_gen (fin_bl I q ?_)
 cases x <;> first
  | (cases rx; rfl)
  | (obtain ⟨t,rfl⟩:=rx; rfl)
theorem OpR.or {f:Value→Value→Sem Value} {r r':R2} (h:OpR X f r) (h':OpR X f r'):OpR X f (fun x y H Q=>r x y H Q∨r' x y H Q):=by
 intro pins s σ H x y v u Q I rx ry q
 rcases q with q | q
 ·exact h pins s σ H x y v u Q I rx ry q
 ·exact h' pins s σ H x y v u Q I rx ry q
theorem pe_cmpR {op:CmpOp} {r:R2} (ho:OpR X (compareOp op) r) (ha:PE X a ta) (hb:PE X b tb) (hm:behindInMarks op b=false):PE X (.Compare a [op] [b] pos) (tOp r ta tb):=by
 intro pins s σ H Q I h
 exact wpAny_Compare1 (binT ha hb I h fun v u s2 x y H2 I2 rx ry q=>ho pins s2 σ H2 x y v u Q I2 rx ry q) hm
def tTest (t:TE):TT:=fun σ H Q=>t σ H fun x H'=>∃ k,x=.bl k∧Q k H'
theorem pt_cmpR {op:CmpOp} {r:R2} (ho:OpR X (compareOp op) r) (ha:PE X a ta) (hb:PE X b tb) (hm:behindInMarks op b=false):PT X (.Compare a [op] [b] pos) (tTest (tOp r ta tb)):=by
 intro pins s σ H Q I h
 refine wpAny_isTrue_Compare1 (thn (ha pins s σ H _ I h) fun v s1 ⟨x,H1,I1,r1,q1⟩=>thn (hb pins s1 σ H1 _ I1 q1) fun u s2 ⟨y,H2,I2,r2,q2⟩ =>
  thn (ho pins s2 σ H2 x y v u _ I2 r1 r2 q2) fun c s3 ⟨z,H3,I3,r3,k,e,q3⟩=>?_) hm
 subst e
 cases r3
 exact wpAny_truthy_bool ⟨H3,I3,q3⟩
theorem line63:(sizeLine:Nat) < 2 ^ 63:=by rw [sizeLine_eq]; decide
theorem op_add_str:OpR X (binaryOp .Add) (fun x y H Q=>∃ i j,x=.str i∧y=.str j∧i.length+j.length≤sizeLine∧Q (.str (i++j)) H):=by
 intro pins s σ H x y v u Q I rx ry h
 obtain ⟨i,j,rfl,rfl,hz,q⟩:=h
 obtain ⟨t,rfl⟩:=rx
 obtain ⟨t',rfl⟩:=ry
 exact add_str (fun t' tk=>⟨.str (i++j),H,I.tok _,⟨_,rfl⟩,q⟩) hz
theorem vals1 {x:V} {us:List Value} (r:Vals [x] us):∃ u,us=[u]∧RelV x u:=by
 cases r with
 | cons r1 r2=>cases r2; exact ⟨_,rfl,r1⟩
theorem vals2 {x y:V} {us:List Value} (r:Vals [x,y] us):∃ u w',us=[u,w']∧RelV x u∧RelV y w':=by
 cases r with
 | cons r1 r2 =>
  cases r2 with
  | cons r3 r4=>cases r4; exact ⟨_,_,rfl,r1,r3⟩
end
end L2
namespace L2
open PySem PySem.Spec PyProof.Rows
structure ObjM (h:Heap) (x dx C:Addr) (mA:Str→Option Value):Prop where
 obj:h.get? x=some (PySem.W.instObj C dx)
 ns:h.Ns1 dx mA
 ne:dx≠x
theorem lookIn_ns {h:Heap} {dx:Addr} {mA:Str→Option Value} (n:h.Ns1 dx mA):∃ od,h.get? dx=some od∧∀ name,PySem.W.lookIn name od=some (mA name):=by
 obtain ⟨o,es,ep,ho,hd,hk,_,hm⟩:=n
 refine ⟨o,ho,fun name=>?_⟩
 have e:=hm name
 unfold nsFind findBy at e
 rw [← Array.find?_toList] at e
 unfold PySem.W.lookIn
 rw [hd]
 dsimp only
 split
 ·rename_i y q
  rw [q] at e
  exact congrArg some e
 ·rename_i q
  rw [q] at e
  have a:es.toList.any (·.refKey)=false:=by
   rw [List.any_eq_false]
   intro y hy
   obtain ⟨z,t,hkey⟩:=hk y (Array.mem_toList_iff.mp hy)
   simp [DictEntry.refKey,hkey]
  have a':¬ es.toList.any (·.refKey)=true:=by rw [a]; exact Bool.false_ne_true
  rw [if_neg a']
  exact congrArg some e
theorem ObjM.look {h:Heap} {x dx C:Addr} {mA:Str→Option Value} (I:ObjM h x dx C mA):∃ od,PySem.W.InstAt h x (PySem.W.instObj C dx) C (some od)∧∀ name,PySem.W.lookIn name od=some (mA name) :=
 let ⟨od,ho,hl⟩:=lookIn_ns I.ns
 ⟨od,⟨I.obj,rfl,rfl,ho⟩,hl⟩
section
variable {prog:Program} {w:World} {A:Around} {E:Value→Shared→Prop} {s:Shared} {K:PySem.W.Frag} {x dx C f:Addr} {mA:Str→Option Value} {name:Str} {v:Value}
end
theorem RelO.some_of {v:V} {o:Option Value} (r:RelO (some v) o):∃ u,o=some u∧RelV v u:=by
 cases o with
 | none=>exact (show False from r).elim
 | some u=>exact ⟨u,rfl,r⟩
section
variable {P:Program} {w:World} {H H':Hp} {h h':Heap} {a C dx:Addr} {fs fs':List (Str × V)}
theorem ins_get (hok:HOk P w H h) (e:H a=some (.ins C dx fs)):∃ mA,ObjM h a dx C mA∧(∀ f,RelO (fs.lookup f) (mA f))∧PySem.Within mA (fs.map (·.1))∧fs.length≤1000∧H dx=some (.own a):=by
 obtain ⟨d,z,ne,ob,mA,n,r,q⟩:=(show ObjOk P w H h a (.ins C dx fs) from hok a _ e)
 exact ⟨mA,⟨ob,n,ne⟩,r,q,z,d⟩
end
structure Cls (K:PySem.W.Frag) (C:Addr):Prop where
 pg:PySem.W.plainGet K C Str.empty=true
 hd:PySem.W.hasDictIn K C=true
 po:PySem.W.plainOver K C=true
 sa:PySem.W.findIn K (.ref C) "__setattr__" = some (some (.builtin "object.__setattr__"))
theorem Cls.get {K:PySem.W.Frag} {C:Addr} (c:Cls K C) (f:Str):PySem.W.plainGet K C f=true:=c.pg
structure Con (K:PySem.W.Frag) (C:Addr) (f:Str) (v:V) (u:Value):Prop where
 at_:PySem.W.findIn K (.ref C) f=some (some u)
 rel:RelV v u
 get:PySem.W.specialIn K u "__get__" = some none
 cp:PySem.W.copiedNames.contains f=false
structure Meth (K:PySem.W.Frag) (C:Addr) (m:Str) (f:Addr):Prop where
 at_:PySem.W.findIn K (.ref C) m=some (some (.ref f))
 fn:PySem.W.isFn K (.ref f)=true
 kp:PySem.W.keepIn K (.ref f)=true
section
variable {X:Cx} {pins:List (Addr × Obj)} {σ:St} {H:Hp} {s:Shared} {a C dx:Addr} {fs:List (Str × V)} {f:Str} {v:V} {A:Around} {E:Value→Shared→Prop}
end
section
variable {X:Cx} {o e value:Expr} {f:Str} {pos pos' tpos:Pos} {ta tv:TE}
end
section
variable {X:Cx} {pins:List (Addr × Obj)} {σ:St} {H:Hp} {s:Shared} {A:Around} {E:Value→Shared→Prop} {Q:Value→Shared→Prop} {c:Value} {b:Bool}
inductive TyOf (K:PySem.W.Frag) (H:Hp):V→Value→Prop where
 | non:TyOf K H .non (.type "NoneType")
 | bl (x:Bool):TyOf K H (.bl x) (.type "bool")
 | int (i:Int):TyOf K H (.int i) (.type "int")
 | str (x:Str):TyOf K H (.str x) (.type "str")
 | flt (x:UInt64):TyOf K H (.flt x) (.type "float")
 | lst {a:Addr} {xs:List V} (e:H a=some (.lst xs)):TyOf K H (.ref a) (.type "list")
 | frz {a:Addr} {o:Obj} {xs:List V} (e:H a=some (.frz o (.lst xs))):TyOf K H (.ref a) (.type "list")
 | tup {a:Addr} {xs:List V} (e:H a=some (.tup xs)):TyOf K H (.ref a) (.type "tuple")
 | dK {a:Addr} {kvs:List (Key × V)} (e:H a=some (.dK kvs)):TyOf K H (.ref a) (.type "dict")
 | dT {a:Addr} {kvs:List (List Key × V)} (e:H a=some (.dT kvs)):TyOf K H (.ref a) (.type "dict")
 | ins {a C dx:Addr} {fs:List (Str × V)} (e:H a=some (.ins C dx fs)) (cl:Cls K C) (ha:PySem.W.findIn K (.ref C) "__class__" = some (some (.builtin "object.__class__")))
   (hn:PySem.W.specialIn K (.builtin "object.__class__") "__get__" = some (some (.builtin "getset_descriptor.__get__"))) (htk:PySem.W.takesIn K (.builtin "object.__class__")=some true)
   (hm:PySem.W.mroIn K C (.type "object")=some true):TyOf K H (.ref a) (.ref C)
theorem isinst_ok {x:V} {u t:Value} (I:Inv X pins σ H s) (rx:RelV x u) (ty:TyOf X.K H x t) (e:PySem.W.kitOne X.K t c=some b) (h:∀ tk,Q (.bool b) { s with toks:=tk }) :
  wpAny (model X.prog X.w) A (call (.builtin "isinstance") [u,c]) Q E s:=by
 cases ty with
 | non=>cases (show u=Value.none from rx); exact PySem.W.kia_one PySem.W.kitx_none I.kIn True.intro e (fun z=>nomatch z) h
 | bl y=>cases (show u=Value.bool y from rx); exact PySem.W.kia_one PySem.W.kitx_bool I.kIn True.intro e (fun z=>nomatch z) h
 | int i=>obtain ⟨t,q⟩:=(show ∃ t,u=Value.int i t from rx); cases q; exact PySem.W.kia_one PySem.W.kitx_int I.kIn True.intro e (fun z=>nomatch z) h
 | str y=>obtain ⟨t,q⟩:=(show ∃ t,u=Value.str y t from rx); cases q; exact PySem.W.kia_one PySem.W.kitx_str I.kIn True.intro e (fun z=>nomatch z) h
 | flt y=>obtain ⟨t,q⟩:=(show ∃ t,u=Value.float y t from rx); cases q; exact PySem.W.kia_one PySem.W.kitx_float I.kIn True.intro e (fun z=>nomatch z) h
 | @lst a xs ea =>
  cases (show u=Value.ref a from rx)
  obtain ⟨_,_,n,_,h1⟩:=(show ObjOk X.prog X.w H s.heap a (.lst xs) from I.hok a _ ea)
  exact PySem.W.kia_one PySem.W.kitx_list I.kIn ⟨_,h1,rfl⟩ e (fun z=>nomatch z) h
 | @frz a ob xs ea =>
  cases (show u=Value.ref a from rx)
  obtain ⟨_,_,_,n,_,h1⟩:=(show ObjOk X.prog X.w H s.heap a (.frz ob (.lst xs)) from I.hok a _ ea)
  exact PySem.W.kia_one PySem.W.kitx_list I.kIn ⟨_,h1,rfl⟩ e (fun z=>nomatch z) h
 | @tup a xs ea =>
  cases (show u=Value.ref a from rx)
  obtain ⟨_,_,_,p⟩:=(show ObjOk X.prog X.w H s.heap a (.tup xs) from I.hok a _ ea)
  obtain ⟨o,h1,h2,_⟩:=p
  exact PySem.W.kia_one PySem.W.kitx_tuple I.kIn ⟨o,h1,h2⟩ e (fun z=>nomatch z) h
 | @dK a kvs ea =>
  cases (show u=Value.ref a from rx)
  obtain ⟨_,_,vs,_,p⟩:=(show ObjOk X.prog X.w H s.heap a (.dK kvs) from I.hok a _ ea)
  obtain ⟨o,es,ep,h1,h2,_⟩:=p
  exact PySem.W.kia_one PySem.W.kitx_dict I.kIn ⟨o,h1,h2.1⟩ e (fun z=>nomatch z) h
 | @dT a kvs ea =>
  cases (show u=Value.ref a from rx)
  obtain ⟨_,_,xs,_,o,es,ep,h1,h2,_⟩:=(show ObjOk X.prog X.w H s.heap a (.dT kvs) from I.hok a _ ea)
  exact PySem.W.kia_one PySem.W.kitx_dict I.kIn ⟨o,h1,h2.1⟩ e (fun z=>nomatch z) h
 | @ins a C dx fs ea cl ha hn htk hm =>
  cases (show u=Value.ref a from rx)
  obtain ⟨mA,O,_⟩:=ins_get I.hok ea
  obtain ⟨od,J,_⟩:=O.look
  exact PySem.W.kia_one (PySem.W.kitx_own (cl.get _) cl.hd ha hn htk hm) I.kIn J e (fun z=>nomatch z) h
end
end L2
namespace L2
open PySem PySem.Spec PyProof.Rows
structure Room (k:Nat) (A:Around):Prop where
 hd:A.handled=none
 dp:A.depth+3 * k+5 < recursionLimit
 un:A.units+16 * k+200 < cLine
theorem Room.mono {j k:Nat} {A:Around} (r:Room k A) (h:j≤k):Room j A:=⟨r.hd,by have:=r.dp; lia,by have:=r.un; lia⟩
theorem Room.deeper {k:Nat} {A:Around} (r:Room (k+1) A) (env:Env):Room k (A.deeper env) :=
 ⟨r.hd,by have:=r.dp; show A.depth+1+3 * k+5 < _; lia,by have:=r.un; show A.units+3+16 * k+200 < _; lia⟩
theorem Room.depth {k:Nat} {A:Around} (r:Room k A):A.depth < recursionLimit:=by have:=r.dp; lia
theorem Room.units {k:Nat} {A:Around} (r:Room k A):A.units+64 < cLine:=by have:=r.un; lia
def tNil:TA:=fun _ H Q=>Q [] H
def tCons (ta:TE) (tr:TA):TA:=fun σ H Q=>ta σ H fun x H1=>tr σ H1 fun xs H2=>Q (x :: xs) H2
section
variable {X:Cx} {e:Expr} {es:List Expr} {te:TE} {t:TA} {pos:Pos}
theorem pa_nil:PA X [] tNil:=fun _ _ _ _ H Q I h=>Calls.spliced_nil ⟨[],H,I,.nil,h⟩
theorem pa_cons (ha:PE X e te) (hr:PA X es t) (hs:starEach (e :: es) X.env=(false,eval e X.env) :: starEach es X.env:=by rfl):PA X (e :: es) (tCons te t):=by
 intro pos pins s σ H Q I h
 rw [hs]
 show wpAny _ _ (spliced ((false,eval e X.env) :: backTo pos (starEach es X.env))) _ _ s
 refine Calls.spliced_cons (thn (ha pins s σ H _ I h) fun u s1 ⟨x,H1,I1,r1,q1⟩=>?_)
 exact thn (hr pos pins s1 σ H1 _ I1 q1) fun us s2 ⟨xs,H2,I2,r2,q2⟩=>⟨x :: xs,H2,I2,.cons r1 r2,q2⟩
def tTup (t:TA):TE:=fun σ H Q=>t σ H fun xs H1=>xs.length≤sizeLine∧∀ p,H1 p=none→Q (.ref p) (upd H1 p (.tup xs))
def tLst (t:TA):TE:=fun σ H Q=>t σ H fun xs H1=>xs.length≤sizeLine∧∀ p,H1 p=none→Q (.ref p) (upd H1 p (.lst xs))
theorem pe_tup {x1} (h:PA X es t):PE X (.Tuple es x1 pos) (tTup t):=by
 intro pins s σ H Q I hq
 refine wpAny_Tuple_spliced (thn (h pos pins s σ H _ I hq) fun us s1 ⟨xs,H1,I1,r,z,q⟩=>⟨by rw [← r.length]; exact z,?_⟩)
 have hf:H1 s1.heap.objs.size=none:=I1.hok.fresh (Nat.le_refl _)
 refine ⟨.ref s1.heap.objs.size,upd H1 s1.heap.objs.size (.tup xs),I1.laid (t':=s1.toks) (fun b u e=>Heap.get?_push_of_some _ e) (Nat.le_refl _) ?_,rfl,q _ hf⟩
 exact ⟨z,us,r,⟨_,Heap.get?_push_size _ rfl,rfl,_,rfl⟩⟩
theorem pe_lst (h:PA X es t):PE X (.List es pos) (tLst t):=by
 intro pins s σ H Q I hq
 refine wpAny_List_spliced (thn (h pos pins s σ H _ I hq) fun us s1 ⟨xs,H1,I1,r,z,q⟩=>⟨by rw [← r.length]; exact z,?_⟩)
 have hf:H1 s1.heap.objs.size=none:=I1.hok.fresh (Nat.le_refl _)
 refine ⟨.ref s1.heap.objs.size,upd H1 s1.heap.objs.size (.lst xs),I1.laid (t':=s1.toks) (fun b u e=>Heap.get?_push_of_some _ e) (Nat.le_refl _) ?_,rfl,q _ hf⟩
 exact ⟨z,us,0,r,Heap.get?_push_size _ rfl⟩
end
abbrev Sp:=List V→Hp→VK→XK→Prop
abbrev CXT:=List Env→Hp→Shared→XK→Value→Shared→Prop
structure Env0 (P:Program) (w:World) (K:PySem.W.Frag) (mg:Str→Option Value) (base:Heap) (A:Around) (outer:List Env) (s:Shared) (H:Hp):Prop where
 frames:A.frames=some outer
 mod:Mod K mg base
 bs:∀ b o,base.get? b=some o→s.heap.get? b=some o∧H b=none
 bsz:base.objs.size≤s.heap.objs.size
 funs:s.heap.FunFrames base outer
 frf:∀ b∈frs outer,H b=none
 hok:HOk P w H s.heap
 bare:AllBare s.gens
def CE (outer:List Env) (P:Program) (w:World) (H:Hp) (s:Shared) (Q:VK) (u:Value) (s':Shared):Prop :=
 ∃ v H',s'.os=s.os∧AllBare s'.gens∧Un (frs outer) [] H H' s.heap s'.heap∧HOk P w H' s'.heap∧RelV v u∧Q v H'
def CR (CX:CXT) (outer:List Env) (P:Program) (w:World) (H:Hp) (s:Shared) (Q:VK) (E:XK) (r:Result) (s':Shared):Prop :=
 match r with
 | .ok (.ret u)=>CE outer P w H s Q u s'
 | .ok _=>False
 | .error e=>CX outer H s E e s'
structure FnOk (P:Program) (w:World) (K:PySem.W.Frag) (mg:Str→Option Value) (base:Heap) (CX:CXT) (k:Nat) (f:Addr) (fd:FuncData) (ps:List Str) (sp:Sp):Prop where
 len:∀ vs H Q E,sp vs H Q E→vs.length=ps.length
 run:∀ (A:Around) (outer:List Env) (s:Shared) (H:Hp) (args:Args) (us:List Value) (vs:List V) (Q:VK) (E:XK),Room k A→Env0 P w K mg base A outer s H→BindsTo s fd args (ps.zip us)→Vals vs us→sp vs H Q E →
  codeAny (model P w) A (.call (.ref f) args) (CR CX outer P w H s Q E) s
section
variable {X:Cx} {pins:List (Addr × Obj)} {σ:St} {H:Hp} {s s':Shared}
theorem Inv.env0 (I:Inv X pins σ H s):Env0 X.prog X.w X.K X.mg X.base X.A X.stack s H :=
 ⟨I.ok.frames,I.ok.mod,I.bs,Nat.le_trans I.ok.bsz I.sz,I.stack,I.stkFree,I.hok,I.bare⟩
theorem Inv.after {Q:VK} {u:Value} (I:Inv X pins σ H s) (h:CE X.stack X.prog X.w H s Q u s'):EP X pins σ Q u s':=by
 obtain ⟨v,H',os,bare,un,hok,r,q⟩:=h
 obtain ⟨hh,g,d,t,os'⟩:=s'
 obtain rfl:os'=s.os:=os
 exact ⟨v,H',I.call (h':=hh) (g':=g) (d':=d) (t':=t) (ch:=[]) un hok bare (fun b z=>absurd z (by simp)),r,q⟩
end
def tCall (sp:Sp) (dvs:List V) (E:XK) (t:TA):TE:=fun σ H Q=>t σ H fun vs H1=>sp (vs++dvs) H1 Q E
def Binds (K:PySem.W.Frag) (fd:FuncData) (ps:List Str) (ds:List Value):Prop :=
 ∀ (s:Shared) (us:List Value),K.In s.heap→(us++ds).length=ps.length→BindsTo s fd ⟨us,[]⟩ (ps.zip (us++ds))
theorem Binds.all {K:PySem.W.Frag} {fd:FuncData} {ps:List Str} (h:∀ us:List Value,us.length=ps.length→bindArgs fd ⟨us,[]⟩=pure (ps.zip us)):Binds K fd ps []:=fun s us _ hl=>by
 rw [List.append_nil] at hl ⊢
 exact .of_eq (h us hl)
def Passes (CX:CXT) (X:Cx) (E:XK):Prop:=∀ (pins:List (Addr × Obj)) (σ:St) (H:Hp) (s:Shared) (e:Value) (s':Shared),Inv X pins σ H s→CX X.stack H s E e s'→X.xe e s'
section
variable {X:Cx} {CX:CXT} {k:Nat} {f C:Addr} {fd:FuncData} {ps:List Str} {sp:Sp} {dvs:List V} {ds:List Value} {E:XK} {x m:Str} {p pos apos:Pos} {e o:Expr} {es:List Expr} {ta:TE} {t:TA}
theorem run_fn {pins:List (Addr × Obj)} {σ:St} {H:Hp} {s:Shared} {Q:VK} {us:List Value} {vs:List V} (F:FnOk X.prog X.w X.K X.mg X.base CX k f fd ps sp) (hr:Room k X.A) (hb:Binds X.K fd ps ds) (hd:Vals dvs ds) (hx:Passes CX X E)
  (I:Inv X pins σ H s) (r:Vals vs us) (h:sp (vs++dvs) H Q E):wpAny (model X.prog X.w) X.A (call (.ref f) us) (EP X pins σ Q) X.xe s:=by
 have r2:Vals (vs++dvs) (us++ds):=r.append hd
 have hl:(us++ds).length=ps.length:=by rw [← r2.length]; exact F.len _ _ _ _ h
 refine wpAny_call (codeAny_mono (F.run X.A X.stack s H ⟨us,[]⟩ (us++ds) (vs++dvs) Q E hr I.env0 (hb s us I.kIn hl) r2 h) fun r s' hq=>?_)
 cases r with
 | error e=>exact hx pins σ H s e s' I hq
 | ok fl =>
  cases fl with
  | ret u=>exact I.after hq
  | next=>exact False.elim hq
  | brk=>exact False.elim hq
  | cont=>exact False.elim hq
theorem pe_call (F:FnOk X.prog X.w X.K X.mg X.base CX k f fd ps sp) (hr:Room k X.A) (hg:Gl X x) (hm:X.mg x=some (.ref f)) (hk:PySem.W.keepIn X.K (.ref f)=true) (hb:Binds X.K fd ps ds) (hd:Vals dvs ds) (hx:Passes CX X E)
  (ha:PA X (e :: es) t) (hdb:(x == ("__debug__" : Str))=false:=by decide) (he:starEach (e :: es) X.env=(false,eval e X.env) :: starEach es X.env:=by rfl) (hpl:(backTo pos (starEach es X.env)).any (·.1)=false:=by rfl) :
  PE X (.Call (.Name x p) (e :: es) [] pos) (tCall sp dvs E t):=by
 intro pins s σ H Q I h
 refine wpAny_Call_Name_kw (ld_glob I hg hm ?_ hdb)
 refine PySem.W.callWith_K (h₀:=X.base) I.ok.mod.kin hk (thn (ha pos pins s σ H _ I h) fun us s1 ⟨vs,H1,I1,r,q⟩=>⟨I1.kIn,?_⟩) he hpl
 exact run_fn F hr hb hd hx I1 r q
structure Mk (K:PySem.W.Frag) (C f:Addr):Prop where
 makes:PySem.W.makesIn K C=true
 init:PySem.W.findIn K (.ref C) "__init__" = some (some (.ref f))
 fn:PySem.W.isFn K (.ref f)=true
 kp:PySem.W.keepIn K (.ref C)=true
end
section
variable {X:Cx} {CX:CXT} {k:Nat} {f C:Addr} {fd:FuncData} {ps ks:List Str} {sp:Sp} {E:XK} {x m:Str} {p pos apos kpos:Pos} {e o:Expr} {es:List Expr} {kws:List Keyword} {te ta:TE} {t tk:TA} {nm:Option Str}
structure KBinds (K:PySem.W.Frag) (fd:FuncData) (ps ks:List Str) (g:List Value→List Value→List Value) (gV:List V→List V→List V):Prop where
 to:∀ (s:Shared) (us ws:List Value),K.In s.heap→(g us ws).length=ps.length→BindsTo s fd ⟨us,ks.zip ws⟩ (ps.zip (g us ws))
 rel:∀ {vs:List V} {us:List Value} {zs:List V} {ws:List Value},Vals vs us→Vals zs ws→Vals (gV vs zs) (g us ws)
variable {g:List Value→List Value→List Value} {gV:List V→List V→List V}
end
structure FnScope (N P:List Str) (sc:Scope):Prop where
 kind:sc.kind=.function
 co:sc.isCoroutine=false
 gen:sc.isGenerator=false
 nd:N.Nodup
 pre:N.take P.length=P
 par:∀ x∈P,sc.names.lookup x=some .local∨sc.names.lookup x=some .cell
 nofree:∀ y∈sc.names,y.2≠.free
theorem bindL_out {kindOf:Str→Option NameKind} {x:Str}:∀ {binds:List (Str × Value)} {m:Str→Option Value},(∀ v,(x,v)∉binds)→bindL kindOf binds m x=m x
 | [],_,_=>rfl
 | (n,v) :: r,m,h=>by
  unfold bindL
  rw [bindL_out fun w hw=>h w (List.mem_cons_of_mem _ hw)]
  split
  ·have:x≠n:=by rintro rfl; exact h v List.mem_cons_self
   simp [this]
  ·rfl
theorem bindC_out {kindOf:Str→Option NameKind} {x:Str}:∀ {binds:List (Str × Value)} {m:Str→Option Value},(∀ v,(x,v)∉binds)→bindC kindOf binds m x=m x
 | [],_,_=>rfl
 | (n,v) :: r,m,h=>by
  unfold bindC
  rw [bindC_out fun w hw=>h w (List.mem_cons_of_mem _ hw)]
  split
  ·rfl
  ·have:x≠n:=by rintro rfl; exact h v List.mem_cons_self
   simp [this]
theorem bindL_get {kindOf:Str→Option NameKind} {x:Str} {v:Value}:∀ {P:List Str} {vs:List Value} {i:Nat} {m:Str→Option Value},P.Nodup→P[i]?=some x→vs[i]?=some v→kindOf x=some .local →
  bindL kindOf (P.zip vs) m x=some v
 | [],_,_,_,_,h,_,_=>by simp at h
 | _ :: _,[],_,_,_,_,h,_=>by simp at h
 | p :: P,w :: vs,0,m,nd,h1,h2,hk=>by
  simp at h1 h2; subst h1; subst h2
  show bindL kindOf ((p,w) :: P.zip vs) m p=_
  unfold bindL
  rw [bindL_out fun v hv=>(List.nodup_cons.mp nd).1 (List.of_mem_zip hv).1,if_pos hk]
  simp
 | p :: P,w :: vs,i+1,m,nd,h1,h2,hk=>by
  show bindL kindOf ((p,w) :: P.zip vs) m x=_
  unfold bindL
  exact bindL_get (i:=i) (List.nodup_cons.mp nd).2 (by simpa using h1) (by simpa using h2) hk
theorem bindC_get {kindOf:Str→Option NameKind} {x:Str} {v:Value}:∀ {P:List Str} {vs:List Value} {i:Nat} {m:Str→Option Value},P.Nodup→P[i]?=some x→vs[i]?=some v→kindOf x≠some .local →
  bindC kindOf (P.zip vs) m x=some v
 | [],_,_,_,_,h,_,_=>by simp at h
 | _ :: _,[],_,_,_,_,h,_=>by simp at h
 | p :: P,w :: vs,0,m,nd,h1,h2,hk=>by
  simp at h1 h2; subst h1; subst h2
  show bindC kindOf ((p,w) :: P.zip vs) m p=_
  unfold bindC
  rw [bindC_out fun v hv=>(List.nodup_cons.mp nd).1 (List.of_mem_zip hv).1,if_neg hk]
  simp
 | p :: P,w :: vs,i+1,m,nd,h1,h2,hk=>by
  show bindC kindOf ((p,w) :: P.zip vs) m x=_
  unfold bindC
  exact bindC_get (i:=i) (List.nodup_cons.mp nd).2 (by simpa using h1) (by simpa using h2) hk
def start (N:List Str) (vs:List V):St:=vs.map some++List.replicate (N.length - vs.length) none
def cxOf (CX:CXT) (P:Program) (w:World) (K:PySem.W.Frag) (mg:Str→Option Value) (base:Heap) (N:List Str) (qual:Str) (scope:Scope) (f:Addr) (cd:Value) (A:Around) (outer:List Env) (s:Shared) (H:Hp) (E:XK):Cx where
 prog:=P
 w:=w
 K:=K
 mg:=mg
 base:=base
 A:=A.deeper (envOfC qual scope s.heap.objs.size f cd)
 N:=N
 s₀:=s
 H₀:=H
 env:=envOfC qual scope s.heap.objs.size f cd
 outer:=outer
 stack:=envOfC qual scope s.heap.objs.size f cd :: outer
 ex:=[]
 calm:=true
 fn:=fun _=>true
 pn:=[]
 xe:=fun e s'=>wpAny (model P w) (A.deeper (envOfC qual scope s.heap.objs.size f cd)) (leaving (envOfC qual scope s.heap.objs.size f cd) e) (fun _ s''=>CX outer H s E e s'') (fun e' s''=>CX outer H s E e' s'') s'
theorem cell_has {sc:Scope} {n:Nat} {x:Str} (h:sc.names.lookup x=some .cell):∃ c,(cellsFrom n sc.names []).lookup x=some c:=by
 have q:=PySem.W.cellsFrom_some sc.names n [] (.inl h)
 exact Option.isSome_iff_exists.mp q
theorem inv_start {CX:CXT} {P:Program} {w:World} {K:PySem.W.Frag} {mg:Str→Option Value} {base:Heap} {N ps:List Str} {qual:Str} {scope:Scope} {f:Addr} {cd:Value} {A:Around} {outer:List Env} {s s1:Shared} {H:Hp} {E:XK} {us:List Value} {vs:List V}
  (S:FnScope N ps scope) (hd:A.handled=none) (e0:Env0 P w K mg base A outer s H) (hl:vs.length=ps.length) (r:Vals vs us)
  (x:InCallC s s.heap.objs.size (bindL (envOfC qual scope s.heap.objs.size f cd).kindOf (ps.zip us) fun _=>none) (cellsFrom (s.heap.objs.size+1) scope.names []) (bindC (envOfC qual scope s.heap.objs.size f cd).kindOf (ps.zip us) fun _=>none) s1) :
  Inv (cxOf CX P w K mg base N qual scope f cd A outer s H E) [] (start N vs) H s1:=by
 have hpl:ps.length≤N.length:=by have:=congrArg List.length S.pre; rw [List.length_take] at this; lia
 obtain ⟨h1,tk,rfl,hk⟩:=x.done
 have noA:∀ b:Addr,b∉(cxOf CX P w K mg base N qual scope f cd A outer s H E).ex:=fun b z=>absurd (show b∈([]:List Addr) from z) (by simp)
 refine ⟨⟨e0.mod,S.kind,rfl,rfl,Nat.le_refl _,fun y z c h1 h2=>?_,fun y hy=>?_,fun y c _ h=>?_,fun _=>hd,Around.frames_deeper e0.frames,.inr ⟨rfl,rfl⟩,fun b z=>absurd z (noA b),e0.bs,e0.bsz,fun b _ _=>noA b,fun b z=>absurd z (noA b),e0.funs,e0.frf⟩,
  rfl,e0.bare,Un.kept hk,⟨_,x.toInCall.ns,fun i y v h1 h2 h3=>?_⟩,fun y c h=>⟨_,x.cell y c h⟩,e0.hok.fresh (Nat.le_refl _),fun y c h=>?_,fun p hp=>absurd (show p∈([]:List (Addr × Obj)) from hp) (by simp),e0.hok.kept hk,?_⟩
 ·exact name_of_addr x.apart (PySem.mem_of_lookup h1) (PySem.mem_of_lookup h2)
 ·have hy:scope.names.lookup y=some .cell∨scope.names.lookup y=some .free:=hy
  rcases hy with hy | hy
  ·exact cell_has hy
  ·exact absurd rfl (S.nofree _ (PySem.mem_of_lookup hy))
 ·exact Nat.le_of_lt (x.above y c (PySem.mem_of_lookup h))
 ·have hi:i < vs.length:=by
   unfold start at h2
   by_cases hi:i < vs.length
   ·exact hi
   ·rw [List.getElem?_append_right (by simpa using hi)] at h2
    rw [List.getElem?_replicate] at h2
    split at h2 <;> cases h2
  have ha:vs[i]?=some v:=by
   unfold start at h2
   rw [List.getElem?_append_left (by simpa using hi),List.getElem?_map] at h2
   cases e:vs[i]? with
   | none=>rw [e] at h2; cases h2
   | some a=>rw [e] at h2; cases h2; rfl
  obtain ⟨u,hu,rv⟩:=r.get ha
  have hp:ps[i]?=some y:=by
   rw [← S.pre,List.getElem?_take_of_lt (by lia)]; exact h1
  have ndP:ps.Nodup:=by rw [← S.pre]; exact S.nd.sublist (List.take_sublist _ _)
  refine ⟨u,rv,?_⟩
  rcases S.par y (List.mem_of_getElem? hp) with k | k
  ·exact .inl ⟨k,bindL_get ndP hp hu k⟩
  ·obtain ⟨c,e⟩:=cell_has (n:=s.heap.objs.size+1) k
   refine .inr ⟨.inl k,c,e,?_⟩
   have q:=x.cell y c e
   rw [bindC_get ndP hp hu (by show scope.names.lookup y≠_; rw [k]; decide)] at q
   exact q
 ·exact e0.hok.fresh (Nat.le_of_lt (x.above y c (PySem.mem_of_lookup h)))
 ·unfold start
  show _=N.length
  rw [List.length_append,List.length_map,List.length_replicate]
  lia
theorem fn_of {CX:CXT} {P:Program} {w:World} {K:PySem.W.Frag} {mg:Str→Option Value} {base:Heap} {k:Nat} {f:Addr} {name qual:Str} {params:Arguments} {body:List Stmt} {scope:Scope} {dV kV doc pm cdv ct oc:Value} {an od:Option Addr}
  {osl:Array (Option Value)} {N ps:List Str} {sp:Sp} (lk:K.lookup f=some ⟨oc,od,.func (PySem.W.fnOf name qual params body scope dV kV doc pm an cdv ct),osl⟩) (hcd:PySem.W.codeIn K cdv qual=true) (S:FnScope N ps scope)
  (len:∀ vs H Q E,sp vs H Q E→vs.length=ps.length)
  (hbody:∀ (A:Around) (outer:List Env) (s:Shared) (H:Hp) (vs:List V) (Q:VK) (E:XK),Room k (A.deeper (envOfC qual scope s.heap.objs.size f cdv))→sp vs H Q E →
   ∃ t,PSs (cxOf CX P w K mg base N qual scope f cdv A outer s H E) body t∧t { nx:=fun _ H'=>Q .non H',rt:=Q } (start N vs) H) :
  FnOk P w K mg base CX (k+1) f (PySem.W.fnOf name qual params body scope dV kV doc pm an cdv ct) ps sp:=by
 refine ⟨len,fun A outer s H args us vs Q E hr e0 hb r hsp=>?_⟩
 have hl:=len _ _ _ _ hsp
 have KX:K.In s.heap:=e0.mod.kin.keeps fun b o e=>(e0.bs b o e).1
 have lim:s.heap.NoLimit:=e0.mod.nolimit.keeps fun b o e=>(e0.bs b o e).1
 have hkind:∀ y∈ps.zip us,scope.names.lookup y.1=some .local∨(scope.names.lookup y.1=some .cell∧((cellsFrom (s.heap.objs.size+1) scope.names []).lookup y.1).isSome=true):=fun ⟨n,v⟩ hy=>by
  rcases S.par n (List.of_mem_zip hy).1 with q | q
  ·exact .inl q
  ·exact .inr ⟨q,PySem.W.cellsFrom_some _ _ _ (.inl q)⟩
 refine codeAny_call_function hr.depth (KX _ _ lk) rfl S.co S.gen rfl (PySem.W.codeRec_of KX hcd) (hb _ _ _ _ ?_)
 refine wpAny_newFunctionEnv_cells S.kind hkind fun env he s1 x=>?_
 subst he
 refine ⟨lim.keeps x.toInCall.keep,codeAny_func ?_⟩
 obtain ⟨t,ht,hq⟩:=hbody A outer s H vs Q E (hr.deeper _) hsp
 have I:Inv (cxOf CX P w K mg base N qual scope f cdv A outer s H E) [] (start N vs) H s1:=inv_start S hr.hd e0 hl r x
 refine wpAny_mono (ht [] s1 (start N vs) H _ I hq) (fun fl s' hs=>?_) fun e s' hs=>hs
 have fin:∀ {σ':St} {H':Hp} {v:V} {u:Value},Inv (cxOf CX P w K mg base N qual scope f cdv A outer s H E) [] σ' H' s'→RelV v u→Q v H'→CE outer P w H s Q u s' :=
  fun {σ' H' v u} J rv q=>⟨v,H',J.os,J.bare,J.base,J.hok,rv,q⟩
 cases fl with
 | ret u =>
  obtain ⟨v,σ',H',J,rv,q⟩:=hs
  exact fin J rv q
 | next =>
  obtain ⟨σ',H',J,q⟩:=hs
  exact fin (v:=V.non) (u:=Value.none) J rfl q
 | brk =>
  obtain ⟨_,_,_,q⟩:=hs
  exact False.elim q
 | cont =>
  obtain ⟨_,_,_,q⟩:=hs
  exact False.elim q
end L2
namespace L2
open PySem PySem.Spec PyProof.Rows
section
variable {X:Cx} {x:Str} {p pos:Pos} {e:Expr} {es:List Expr} {t:TA} {id T:String} {r:List V→Hp→VK→Prop}
def tCB (r:List V→Hp→VK→Prop) (t:TA):TE:=fun σ H Q=>t σ H fun vs H1=>r vs H1 Q
theorem pe_callB (hc:CallR X (.builtin id) r) (hg:Gl X x) (hm:X.mg x=none) (hv:bootBuiltins x=some (.builtin id)) (ha:PA X (e :: es) t) (hn:x≠"__name__" := by decide) (hdb:(x == ("__debug__" : Str))=false:=by decide)
  (he:starEach (e :: es) X.env=(false,eval e X.env) :: starEach es X.env:=by rfl) (hpl:(backTo pos (starEach es X.env)).any (·.1)=false:=by rfl):PE X (.Call (.Name x p) (e :: es) [] pos) (tCB r t):=by
 intro pins s σ H Q I h
 refine wpAny_Call_Name_kw (ld_blt I hg hm hv ?_ hn hdb)
 exact PyProof.Rows.callWith_builtin1 (thn (ha pos pins s σ H _ I h) fun us s1 ⟨vs,H1,I1,r1,q1⟩=>hc pins s1 σ H1 vs us Q I1 r1 q1) he hpl
theorem pe_callTy (hc:CallR X (.type T) r) (hg:Gl X x) (hm:X.mg x=none) (hv:bootBuiltins x=some (.type T)) (ha:PA X (e :: es) t) (hn:x≠"__name__" := by decide) (hdb:(x == ("__debug__" : Str))=false:=by decide)
  (he:starEach (e :: es) X.env=(false,eval e X.env) :: starEach es X.env:=by rfl) (hpl:(backTo pos (starEach es X.env)).any (·.1)=false:=by rfl):PE X (.Call (.Name x p) (e :: es) [] pos) (tCB r t):=by
 intro pins s σ H Q I h
 refine wpAny_Call_Name_kw (ld_blt I hg hm hv ?_ hn hdb)
 exact PyProof.Rows.callWith_type1 (thn (ha pos pins s σ H _ I h) fun us s1 ⟨vs,H1,I1,r1,q1⟩=>hc pins s1 σ H1 vs us Q I1 r1 q1) he hpl
end
end L2
namespace HT
open PySem PyProof.Rows
section
open PySem.SeqAt
open PySem.AutoSeq1 (wpAny_loadPart')
open PySem.MeetsSeq PySem.MeetsSeq2 PySem.MeetsSeq3
end
section
variable {prog:Program} {w:World} {A:Around} {E:Value→Shared→Prop} {s:Shared}
theorem cat_tup {t b:Addr} {vs ws:List Value} {Q:Value→Shared→Prop} (ht:IsTup s.heap t vs.toArray) (hb:IsTup s.heap b ws.toArray) (hv:vs≠[])
  (h1:ws=[]→Q (.ref t) s) (h2:ws≠[]→Q (.ref s.heap.objs.size) { s with heap:=s.heap.push { cls:=.type "tuple",data:=.seq (vs++ws).toArray } })
  (hsz:vs.length+ws.length≤sizeLine):wpAny (model prog w) A (binaryOp .Add (.ref t) (.ref b)) Q E s:=by
 obtain ⟨⟨cls,dd,data,sl⟩,ho,hc,n,hd⟩:=id ht
 obtain ⟨⟨cls2,dd2,data2,sl2⟩,ho2,hc2,n2,hd2⟩:=id hb
 simp only at hc hd hc2 hd2
 subst hc hd hc2 hd2
 have e:vs.toArray++ws.toArray=(vs++ws).toArray:=by simp
 by_cases hw:ws=[]
 ·exact concat_meets ⟨_,ho,rfl⟩ ⟨_,ho2,rfl⟩ noFill_tuple_add seq_tuple_add PySem.F.slot_tuple_add PySem.F.entry_tuple_add (PySem.F.args_tuple_add_2 _ _)
   (tuple_addW1 t b vs.toArray ws.toArray n n2 dd dd2 sl sl2 (by simpa using hv) (by simp [hw])) ⟨ho,ho2,h1 hw⟩
 ·refine concat_meets ⟨_,ho,rfl⟩ ⟨_,ho2,rfl⟩ noFill_tuple_add seq_tuple_add PySem.F.slot_tuple_add PySem.F.entry_tuple_add (PySem.F.args_tuple_add_2 _ _)
   (tuple_addW2 t b vs.toArray ws.toArray n n2 dd dd2 sl sl2 (by simpa using hv) (by simpa using hw) (by rw [List.size_toArray,List.size_toArray]; exact hsz)) ⟨ho,ho2,?_⟩
  rw [e]
  exact h2 hw
def sIx (n d:Nat):Option Int→Nat
 | none=>d
 | some v=>if v < 0 then (v+(n:Int)).toNat else min v.toNat n
theorem sIx_none (n d:Nat):sIx n d none=d:=rfl
theorem sIx_nat (n d k:Nat):sIx n d (some (k:Int))=min k n:=by
 show (if (k:Int) < 0 then ((k:Int)+(n:Int)).toNat else min (k:Int).toNat n)=min k n
 rw [if_neg (by lia),Int.toNat_natCast]
theorem sIx_le (n d:Nat) (hd:d≤n) (o:Option Int):sIx n d o≤n:=by
 cases o with
 | none=>exact hd
 | some v =>
  show (if v < 0 then (v+(n:Int)).toNat else min v.toNat n)≤n
  by_cases hv:v < 0
  ·rw [if_pos hv]; lia
  ·rw [if_neg hv]; exact Nat.min_le_right _ _
theorem clip_eq (v:Int) (n d:Nat):(if v < 0 then max (v+(n:Int)) 0 else min v (n:Int))=((sIx n d (some v):Nat):Int):=by
 show (if v < 0 then max (v+(n:Int)) 0 else min v (n:Int))=(((if v < 0 then (v+(n:Int)).toNat else min v.toNat n):Nat):Int)
 by_cases hv:v < 0
 ·simp only [if_pos hv]; lia
 ·simp only [if_neg hv]; lia
theorem adjust_gen (lo hi:Option Int) (n:Nat):Builtin.Slice.sliceAdjust lo hi 1 (n:Int)=(((sIx n 0 lo:Nat):Int),((sIx n n hi:Nat):Int)):=by
 have h1:¬ ((1:Int) < 0):=by lia
 unfold Builtin.Slice.sliceAdjust
 simp only [h1,if_false]
 refine Prod.ext ?_ ?_
 ·cases lo with
  | none=>rfl
  | some v=>exact clip_eq v n 0
 ·cases hi with
  | none=>rfl
  | some v=>exact clip_eq v n n
theorem places_gen (i j:Nat):Builtin.Slice.slicePlaces (i:Int) (j:Int) 1=j - i:=by
 unfold Builtin.Slice.slicePlaces
 have h1:(1:Int) > 0:=by lia
 simp only [h1,if_true,Int.ediv_one]
 split <;> lia
theorem slicePart_ {v:Value} {o:Option Int} {Q:Option Int→Shared→Prop} (p:IsPart v o) (h:Q o s):wpAny (model prog w) A (Builtin.Slice.slicePartIndex v) Q E s:=by
 cases p with
 | none=>exact slicePart_none h
 | int i t=>exact slicePart_int h
theorem sliceApplied_gen {sl:Addr} {vl vu:Value} {lo hi:Option Int} {n:Nat} {Q:Int × Int × Nat→Shared→Prop} (hs:s.heap.IsSliceOf sl vl vu .none) (pl:IsPart vl lo) (pu:IsPart vu hi)
  (h:Q (((sIx n 0 lo:Nat):Int),1,sIx n n hi - sIx n 0 lo) s):wpAny (model prog w) A (Builtin.Slice.sliceApplied (.ref sl) (pure (n:Int))) Q E s:=by
 obtain ⟨os,hos,hcs,hds⟩:=id hs
 unfold Builtin.Slice.sliceApplied Builtin.Slice.sliceFields
 refine wpAny_bind (wpAny_bind (wpAny_field hos hds (x:=vl) rfl (wpAny_bind (wpAny_field hos hds (x:=vu) rfl (wpAny_bind (wpAny_field hos hds (x:=.none) rfl (wpAny_pure ?_)))))))
 refine wpAny_bind (slicePart_none ?_)
 show wpAny _ _ (if ((1:Int) == 0)=true then _ else _) _ _ s
 rw [if_neg (by decide)]
 refine wpAny_bind (slicePart_ pl (wpAny_bind (slicePart_ pu (wpAny_bind (wpAny_pure ?_)))))
 show wpAny _ _ (match Builtin.Slice.sliceAdjust lo hi 1 (n:Int) with | (lo,hi)=>pure (lo,(1:Int),Builtin.Slice.slicePlaces lo hi 1)) _ _ s
 rw [adjust_gen lo hi n]
 show wpAny _ _ (pure (((sIx n 0 lo:Nat):Int),(1:Int),Builtin.Slice.slicePlaces ((sIx n 0 lo:Nat):Int) ((sIx n n hi:Nat):Int) 1)) _ _ s
 rw [places_gen]
 exact wpAny_pure h
theorem pick_gen (xs:Array Value) (i k:Nat):((List.range k).filterMap fun (m:Nat)=>xs[((i:Int)+(m:Int) * 1).toNat]?).toArray=((xs.toList.drop i).take k).toArray:=by
 have e:(fun (m:Nat)=>xs[((i:Int)+(m:Int) * 1).toNat]?)=fun m=>xs[i+m]?:=by
  funext m
  have:((i:Int)+(m:Int) * 1).toNat=i+m:=by lia
  rw [this]
 rw [e]
 have:=pick_run xs i k
 rw [List.filterMap_map] at this
 have e2:((fun x=>xs[x]?) ∘ fun x=>i+x)=fun m=>xs[i+m]?:=rfl
 rw [e2] at this
 rw [this]
theorem getItem_tuple_cut {t sl:Addr} {items:Array Value} {vl vu:Value} {lo hi:Option Int} {Q:Value→Shared→Prop} (ht:IsTup s.heap t items) (hs:s.heap.IsSliceOf sl vl vu .none) (pl:IsPart vl lo) (pu:IsPart vu hi)
  (hw:¬ (sIx items.size 0 lo=0∧sIx items.size items.size hi=items.size))
  (h:Q (.ref s.heap.objs.size) { s with heap:=s.heap.push { cls:=.type "tuple",data:=.seq ((items.toList.drop (sIx items.size 0 lo)).take (sIx items.size items.size hi - sIx items.size 0 lo)).toArray } })
  (hsz:items.size≤sizeLine):wpAny (model prog w) A (getItem (.ref t) (.ref sl)) Q E s:=by
 have htake:sizeOk (.seq ((items.toList.drop (sIx items.size 0 lo)).take (sIx items.size items.size hi - sIx items.size 0 lo)).toArray):=by
  show ((items.toList.drop (sIx items.size 0 lo)).take (sIx items.size items.size hi - sIx items.size 0 lo)).toArray.size≤sizeLine
  rw [List.size_toArray,List.length_take,List.length_drop,Array.length_toList]
  lia
 have hj:sIx items.size items.size hi≤items.size:=sIx_le _ _ (Nat.le_refl _) hi
 obtain ⟨os,hos,hcs,hds⟩:=id hs
 have hTs:s.TypeIs (.ref sl) "slice" := ⟨os,hos,hcs⟩
 unfold getItem
 try with_reducible refine wpAny_holding ?_
 first | refine wpAny_bind (wpAny_pure ?_) | skip
 refine wpAny_bind (wpAny_sequenceKey ht.typeIs (by decide) ?_)
 refine wpAny_bind (wpAny_callSpecial?_slot (name:=Str.ofString "__getitem__") ht.typeIs PyProof.Rows.slot_tuple_getitem
  (wpAny_call_entry PyProof.Rows.slot_tuple_getitem ht.typeIs entry_tuple_getitem ?_ (args_tuple_getitem _ _)))
 show wpAny _ _ (Builtin.Tuple.tupleItemsOf (.ref t) >>= _) _ _ s
 refine wpAny_bind (tupleItemsOf_ ht ?_)
 refine wpAny_bind (wpAny_typeOf hTs ?_)
 rw [if_pos (by decide)]
 refine wpAny_bind (sliceApplied_gen hs pl pu ?_)
 have hno:¬ ((((sIx items.size 0 lo:Nat):Int) == 0 && (1:Int) == 1 && (sIx items.size items.size hi - sIx items.size 0 lo) == items.size)=true):=by
  intro q
  rw [Bool.and_eq_true,Bool.and_eq_true] at q
  have q1:((sIx items.size 0 lo:Nat):Int)=0:=eq_of_beq q.1.1
  have q2:sIx items.size items.size hi - sIx items.size 0 lo=items.size:=eq_of_beq q.2
  exact hw ⟨by lia,by lia⟩
 show wpAny _ _ (if (((sIx items.size 0 lo:Nat):Int) == 0 && (1:Int) == 1 && (sIx items.size items.size hi - sIx items.size 0 lo) == items.size)=true then _ else _) _ _ s
 rw [if_neg hno,pick_gen]
 first
  | exact wpAny_bind (m:=Builtin.Tuple.tupleExact _) (wpAny_newObj_type (wpAny_pure ⟨_,rfl,wpAny_pure h⟩) htake)
  | exact wpAny_bind (m:=Builtin.Tuple.tupleExact _) (wpAny_newObj_type (wpAny_bind (wpAny_pure (wpAny_pure ⟨_,rfl,wpAny_pure h⟩))) htake)
  | exact wpAny_bind (wpAny_bind (m:=Builtin.Tuple.tupleExact _) (wpAny_newObj_type (wpAny_pure (wpAny_pure ⟨_,rfl,wpAny_pure h⟩)) htake))
  | exact wpAny_bind (wpAny_bind (m:=Builtin.Tuple.tupleExact _) (wpAny_newObj_type (wpAny_pure ⟨_,rfl,wpAny_pure h⟩) htake))
end
end HT
namespace L2
open PySem PySem.Spec PyProof.Rows
abbrev TO:=St→Hp→(Option Int→Hp→Prop)→Prop
def PO (X:Cx) (e:Option Expr) (t:TO):Prop :=
 ∀ (pins:List (Addr × Obj)) (s:Shared) (σ:St) (H:Hp) (Q:Option Int→Hp→Prop),Inv X pins σ H s→t σ H Q →
  wpAny (model X.prog X.w) X.A (evalPart e X.env) (fun u s'=>∃ o H',Inv X pins σ H' s'∧IsPart u o∧Q o H') X.xe s
def tNoPart:TO:=fun _ H Q=>Q none H
def tPart (t:TE):TO:=fun σ H Q=>t σ H fun x H1=>∃ i,x=.int i∧Q (some i) H1
section
variable {X:Cx} {e:Expr} {te:TE} {lo hi:Option Expr} {tl th:TO} {pos p2:Pos}
theorem po_none:PO X none tNoPart:=by
 intro pins s σ H Q I h
 rw [evalPart_none]
 exact wpAny_pure ⟨none,H,I,.none,h⟩
theorem po_some (h:PE X e te):PO X (some e) (tPart te):=by
 intro pins s σ H Q I hw
 rw [evalPart_some]
 refine thn (h pins s σ H _ I hw) fun u s1 ⟨x,H1,I1,r1,q1⟩=>?_
 obtain ⟨i,rfl,q⟩:=q1
 obtain ⟨t,rfl⟩:=r1
 exact ⟨some i,H1,I1,.int i t,q⟩
def SlR (X:Cx) (r:V→Option Int→Option Int→Hp→VK→Prop):Prop :=
 ∀ (pins:List (Addr × Obj)) (s:Shared) (σ:St) (H:Hp) (x:V) (v vl vu:Value) (lo hi:Option Int) (sl:Addr) (Q:VK),Inv X pins σ H s→RelV x v→s.heap.IsSliceOf sl vl vu .none→IsPart vl lo→IsPart vu hi→r x lo hi H Q →
  ∃ T id,typeLookup (.type T) "__getitem__" = pure (some (.builtin id))∧s.TypeIs v T∧wpAny (model X.prog X.w) X.A (getItem v (.ref sl)) (EP X pins σ Q) X.xe s
theorem SlR.or {r r':V→Option Int→Option Int→Hp→VK→Prop} (h:SlR X r) (h':SlR X r'):SlR X (fun x lo hi H Q=>r x lo hi H Q∨r' x lo hi H Q):=by
 intro pins s σ H x v vl vu lo hi sl Q I rx hs pl pu q
 rcases q with q | q
 ·exact h pins s σ H x v vl vu lo hi sl Q I rx hs pl pu q
 ·exact h' pins s σ H x v vl vu lo hi sl Q I rx hs pl pu q
def tSl (r:V→Option Int→Option Int→Hp→VK→Prop) (te:TE) (tl th:TO):TE:=fun σ H Q=>te σ H fun x H1=>tl σ H1 fun l H2=>th σ H2 fun u H3=>r x l u H3 Q
theorem pe_slice {r:V→Option Int→Option Int→Hp→VK→Prop} (hr:SlR X r) (he:PE X e te) (hl:PO X lo tl) (hu:PO X hi th):PE X (.Subscript e (.Slice lo hi none p2) pos) (tSl r te tl th):=by
 intro pins s σ H Q I h
 refine Subscript_ (thn (he pins s σ H _ I h) fun v s1 ⟨x,H1,I1,r1,q1⟩=>?_)
 refine wpAny_Slice (thn (hl pins s1 σ H1 _ I1 q1) fun vl s2 ⟨l,H2,I2,pl,q2⟩=>thn (hu pins s2 σ H2 _ I2 q2) fun vu s3 ⟨u,H3,I3,pu,q3⟩=>?_)
 rw [evalPart_none]
 refine wpAny_pure ?_
 have I4:Inv X pins σ H3 { s3 with heap:=s3.heap.push { cls:=.type "slice",data:=.fields #[vl,vu,.none] } }:=I3.kept (t':=s3.toks) fun b ob q=>Heap.get?_push_of_some _ q
 obtain ⟨T,id,hT,ht,hg⟩:=hr pins { s3 with heap:=s3.heap.push { cls:=.type "slice",data:=.fields #[vl,vu,.none] } } σ H3 x v vl vu l u s3.heap.objs.size Q I4 r1 (Heap.IsSliceOf.new ..) pl pu q3
 show wpAny (model X.prog X.w) X.A (subscriptTail e (.Slice lo hi none p2) v (.ref s3.heap.objs.size)) (EP X pins σ Q) X.xe { s3 with heap:=s3.heap.push { cls:=.type "slice",data:=.fields #[vl,vu,.none] } }
 exact tail_any (ops:=[.ref s3.heap.objs.size,v]) ht hT hg (by with_unfolding_all rfl)
def cutV (xs:List V) (lo hi:Option Int):List V:=(xs.drop (HT.sIx xs.length 0 lo)).take (HT.sIx xs.length xs.length hi - HT.sIx xs.length 0 lo)
theorem cutV_length (xs:List V) (lo hi:Option Int):(cutV xs lo hi).length≤xs.length:=by
 unfold cutV
 rw [List.length_take,List.length_drop]
 lia
def rSlT (K:PySem.W.Frag):V→Option Int→Option Int→Hp→VK→Prop:=fun x lo hi H Q=>∃ a xs,x=.ref a∧SqT K H a xs ∧
 ¬ (HT.sIx xs.length 0 lo=0∧HT.sIx xs.length xs.length hi=xs.length)∧∀ p,H p=none→Q (.ref p) (upd H p (.tup (cutV xs lo hi)))
theorem sl_tup:SlR X (rSlT X.K):=by
 intro pins s σ H x v vl vu lo hi sl Q I rx hs pl pu h
 obtain ⟨a,xs,rfl,hx,hw,q⟩:=h
 cases rx
 obtain ⟨its,r,ht,hz⟩:=I.tuple hx
 have hlen:its.toArray.size=xs.length:=by rw [List.size_toArray]; exact r.length.symm
 refine ⟨"tuple",_,PyProof.Rows.slot_tuple_getitem.lookup,ht.typeIs,?_⟩
 refine HT.getItem_tuple_cut ht hs pl pu (by rw [hlen]; exact hw) ?_ (by rw [hlen]; exact hz)
 rw [hlen]
 refine ⟨.ref s.heap.objs.size,_,I.laid (t':=s.toks) (o:=.tup (cutV xs lo hi)) (fun b ob q=>Heap.get?_push_of_some _ q) (Nat.le_refl _) ?_,rfl,q _ (I.hok.fresh (Nat.le_refl _))⟩
 exact ⟨Nat.le_trans (cutV_length xs lo hi) hz,_,(r.drop (HT.sIx xs.length 0 lo)).take (HT.sIx xs.length xs.length hi - HT.sIx xs.length 0 lo),IsTup.new _ _⟩
def rCatT (K:PySem.W.Frag):R2:=fun x y H Q=>∃ a b xs ys,x=.ref a∧y=.ref b∧SqT K H a xs∧SqT K H b ys∧xs≠[]∧xs.length+ys.length≤sizeLine ∧
 (ys=[]→Q (.ref a) H)∧(ys≠[]→∀ p,H p=none→Q (.ref p) (upd H p (.tup (xs++ys))))
theorem Vals.nil_iff {xs:List V} {us:List Value} (r:Vals xs us):us=[]↔xs=[]:=by
 cases r with
 | nil=>simp
 | cons _ _=>simp
theorem op_catT:OpR X (binaryOp .Add) (rCatT X.K):=by
 intro pins s σ H x y v u Q I rx ry h
 obtain ⟨a,b,xs,ys,rfl,rfl,ha,hb,hx,hz,q1,q2⟩:=h
 cases rx
 cases ry
 obtain ⟨its,r1,p1,_⟩:=I.tuple ha
 obtain ⟨its2,r2,p2,_⟩:=I.tuple hb
 refine HT.cat_tup p1 p2 (fun z=>hx (r1.nil_iff.mp z)) (fun z=>⟨.ref a,H,I,rfl,q1 (r2.nil_iff.mp z)⟩) (fun z=>?_) (by rw [← r1.length,← r2.length]; exact hz)
 refine ⟨.ref s.heap.objs.size,_,I.laid (t':=s.toks) (o:=.tup (xs++ys)) (fun b ob q=>Heap.get?_push_of_some _ q) (Nat.le_refl _) ?_,rfl,q2 (fun w=>z (r2.nil_iff.mpr w)) _ (I.hok.fresh (Nat.le_refl _))⟩
 exact ⟨by rw [List.length_append]; exact hz,_,r1.append r2,IsTup.new _ _⟩
end
end L2
namespace L2
open PySem PySem.Spec PyProof.Rows
def ixN (n:Nat) (i:Int):Option Nat:=if 0≤i then (if i < n then some i.toNat else none) else if -(n:Int)≤i then some (i+n).toNat else none
def atI {α:Type} (xs:List α) (i:Int):Option α:=(ixN xs.length i).bind fun j=>xs[j]?
theorem ixN_seq {n:Nat} {i:Int} {j:Nat} (h:ixN n i=some j):seqIndex? i n=some j∧j < n∧-(n:Int)≤i∧i < n:=by
 unfold ixN at h
 by_cases h0:0≤i
 ·rw [if_pos h0] at h
  by_cases h1:i < n
  ·rw [if_pos h1] at h
   have e:i.toNat=j:=Option.some.inj h
   exact ⟨by rw [seqIndex_of h0 h1,e],by lia,by lia,h1⟩
  ·rw [if_neg h1] at h; cases h
 ·rw [if_neg h0] at h
  by_cases h1:-(n:Int)≤i
  ·rw [if_pos h1] at h
   have e:(i+n).toNat=j:=Option.some.inj h
   exact ⟨by rw [seqIndex_neg (by lia) h1,e],by lia,h1,by lia⟩
  ·rw [if_neg h1] at h; cases h
theorem atI_get {α:Type} {xs:List α} {i:Int} {v:α} (h:atI xs i=some v):∃ j,seqIndex? i xs.length=some j∧xs[j]?=some v∧j < xs.length∧-(xs.length:Int)≤i∧i < xs.length:=by
 unfold atI at h
 cases e:ixN xs.length i with
 | none=>rw [e] at h; cases h
 | some j =>
  rw [e] at h
  obtain ⟨h1,h2,h3,h4⟩:=ixN_seq e
  exact ⟨j,h1,h,h2,h3,h4⟩
theorem atI_nat {α:Type} {xs:List α} {j:Nat} {v:α} (h:xs[j]?=some v):atI xs (j:Int)=some v:=by
 have hj:j < xs.length:=(List.getElem?_eq_some_iff.mp h).1
 have e:ixN xs.length (j:Int)=some j:=by
  unfold ixN
  rw [if_pos (by lia),if_pos (by lia)]; simp
 unfold atI; rw [e]; exact h
def PlainIx (b:Expr):Prop:=∀ o i,subscripted b false o i=operate [o,i] (getItem o i)
def IxR (X:Cx) (r:R2):Prop :=
 ∀ (value slice:Expr) (pins:List (Addr × Obj)) (s:Shared) (σ:St) (H:Hp) (x y:V) (v u:Value) (Q:VK),Inv X pins σ H s→RelV x v→RelV y u→r x y H Q →
  subscripted slice false v u=operate [v,u] (getItem v u)→wpAny (model X.prog X.w) X.A (subscriptTail value slice v u) (EP X pins σ Q) X.xe s
def MtR (X:Cx) (id:String) (r:V→List V→Hp→VK→Prop):Prop :=
 ∀ (pins:List (Addr × Obj)) (s:Shared) (σ:St) (H:Hp) (x:V) (xs:List V) (v:Value) (us:List Value) (Q:VK),Inv X pins σ H s→RelV x v→Vals xs us→r x xs H Q →
  wpAny (model X.prog X.w) X.A (call (.builtin id) (v :: us)) (EP X pins σ Q) X.xe s
section
variable {X:Cx} {a b:Expr} {ta tb:TE} {pos:Pos}
theorem IxR.or {r r':R2} (h:IxR X r) (h':IxR X r'):IxR X (fun x y H Q=>r x y H Q∨r' x y H Q):=by
 intro value slice pins s σ H x y v u Q I rx ry q hs
 rcases q with q | q
 ·exact h value slice pins s σ H x y v u Q I rx ry q hs
 ·exact h' value slice pins s σ H x y v u Q I rx ry q hs
theorem MtR.or {id:String} {r r':V→List V→Hp→VK→Prop} (h:MtR X id r) (h':MtR X id r'):MtR X id (fun x xs H Q=>r x xs H Q∨r' x xs H Q):=by
 intro pins s σ H x xs v us Q I rx rs q
 rcases q with q | q
 ·exact h pins s σ H x xs v us Q I rx rs q
 ·exact h' pins s σ H x xs v us Q I rx rs q
theorem pe_ix {r:R2} (hr:IxR X r) (ha:PE X a ta) (hb:PE X b tb) (hs:PlainIx b):PE X (.Subscript a b pos) (tOp r ta tb):=by
 intro pins s σ H Q I h
 exact Subscript_ (binT ha hb I h fun v u s2 x y H2 I2 rx ry q=>hr a b pins s2 σ H2 x y v u Q I2 rx ry q (hs _ _))
def rIxL (K:PySem.W.Frag):R2:=fun x y H Q=>∃ p xs i v,x=.ref p∧y=.int i∧SqL K H p xs∧atI xs i=some v∧Q v H
def rIxT (K:PySem.W.Frag):R2:=fun x y H Q=>∃ p xs i v,x=.ref p∧y=.int i∧SqT K H p xs∧atI xs i=some v∧Q v H
def rIxS:R2:=fun x y H Q=>∃ z i c,x=.str z∧y=.int i∧z.length≤sizeLine∧atI z.cps.toList i=some c∧Q (.str ⟨#[c]⟩) H
theorem ix_list:IxR X (rIxL X.K):=by
 intro value slice pins s σ H x y v u Q I rx ry h hs
 obtain ⟨p,xs,i,z,rfl,rfl,hq,he,q⟩:=h
 cases rx
 obtain ⟨t,rfl⟩:=ry
 obtain ⟨its,r,pl,hz⟩:=I.list hq
 obtain ⟨j,h1,h2,h3,h4,h5⟩:=atI_get he
 obtain ⟨w,ew,rw'⟩:=r.get h2
 have hl:=r.length
 have hn:=line63
 have fin:EP X pins σ Q w s:=⟨z,H,I,rw',q⟩
 by_cases h0:0≤i
 ·have hj:i.toNat=j:=by
   rw [seqIndex_of h0 h5] at h1
   exact Option.some.inj h1
  exact item_listR pl.isList h0 (by lia) (by rw [hj]; simpa using ew) fin hs
 ·have hj:(i+(its.toArray.size:Int)).toNat=j:=by
   rw [seqIndex_neg (by lia) h4] at h1
   rw [List.size_toArray,← hl]
   exact Option.some.inj h1
  exact subscriptTail_builtinR (x:=w) pl.isList.typeIs slot_list_getitem.lookup
   (wpAny_getItem_list_neg (Q:=fun r s'=>r=w∧EP X pins σ Q r s') pl.isList (by lia) (by rw [List.size_toArray] <;> lia) (by lia) (by rw [hj]; simpa using ew) ⟨rfl,fin⟩) hs
theorem ix_tup:IxR X (rIxT X.K):=by
 intro value slice pins s σ H x y v u Q I rx ry h hs
 obtain ⟨p,xs,i,z,rfl,rfl,hq,he,q⟩:=h
 cases rx
 obtain ⟨t,rfl⟩:=ry
 obtain ⟨its,r,pl,hz⟩:=I.tuple hq
 obtain ⟨j,h1,h2,h3,h4,h5⟩:=atI_get he
 obtain ⟨w,ew,rw'⟩:=r.get h2
 have hl:=r.length
 have hn:=line63
 have fin:EP X pins σ Q w s:=⟨z,H,I,rw',q⟩
 exact subscriptTail_builtinR (x:=w) pl.typeIs slot_tuple_getitem.lookup
  (getItem_tuple (j:=j) (Q:=fun r s'=>r=w∧EP X pins σ Q r s') pl (by lia) (by lia) (by rw [List.size_toArray,← hl]; exact h1) (by simpa using ew) ⟨rfl,fin⟩) hs
theorem ix_str:IxR X rIxS:=by
 intro value slice pins s σ H x y v u Q I rx ry h hs
 obtain ⟨z,i,c,rfl,rfl,hz,he,q⟩:=h
 obtain ⟨t,rfl⟩:=rx
 obtain ⟨t',rfl⟩:=ry
 obtain ⟨j,h1,h2,h3,h4,h5⟩:=atI_get he
 have hl:z.cps.toList.length=z.length:=by simp [Str.length]
 rw [hl] at h1 h4 h5
 have hn:=line63
 exact tail_any (typeIs_str s z t) slot_str_getitem.lookup (getItem_str (c:=c) (by
  have e1:decide (i < -(2 ^ 63:Int))=false:=decide_eq_false (by lia)
  have e2:decide (i ≥ 2 ^ 63)=false:=decide_eq_false (by lia)
  rw [e1,e2,Bool.or_false]) (by rw [h1]; simpa using h2) ⟨.str ⟨#[c]⟩,H,I.tok _,⟨_,rfl⟩,q⟩) hs
theorem slice_bounds (lo hi:Option Int) (n:Nat):(sliceBounds lo hi none n).1=((HT.sIx n 0 lo:Nat):Int)∧(sliceBounds lo hi none n).2.1=((HT.sIx n n hi:Nat):Int)∧(sliceBounds lo hi none n).2.2=1:=by
 refine ⟨?_,?_,rfl⟩
 ·cases lo with
  | none=>simp [sliceBounds,HT.sIx]
  | some i =>
   simp only [sliceBounds,HT.sIx,Option.getD_none,show (1:Int) > 0 by decide,if_true]
   by_cases h:i < 0
   ·simp only [h,if_true] <;> lia
   ·simp only [h,if_false] <;> lia
 ·cases hi with
  | none=>simp [sliceBounds,HT.sIx]
  | some i =>
   simp only [sliceBounds,HT.sIx,Option.getD_none,show (1:Int) > 0 by decide,if_true]
   by_cases h:i < 0
   ·simp only [h,if_true] <;> lia
   ·simp only [h,if_false] <;> lia
theorem slicePick_cut (its:List Value) (lo hi:Option Int):slicePick its.toArray lo hi none=((its.drop (HT.sIx its.length 0 lo)).take (HT.sIx its.length its.length hi - HT.sIx its.length 0 lo)).toArray:=by
 obtain ⟨h1,h2,h3⟩:=slice_bounds lo hi its.toArray.size
 unfold slicePick
 rw [h1,h2,h3]
 simp only [sliceRange_one,pick_run,List.size_toArray] <;> rfl
def rSlL (K:PySem.W.Frag):V→Option Int→Option Int→Hp→VK→Prop:=fun x lo hi H Q=>∃ a xs,x=.ref a∧SqL K H a xs∧∀ p,H p=none→Q (.ref p) (upd H p (.lst (cutV xs lo hi)))
theorem sl_list:SlR X (rSlL X.K):=by
 intro pins s σ H x v vl vu lo hi sl Q I rx hs pl pu h
 obtain ⟨a,xs,rfl,hx,q⟩:=h
 cases rx
 obtain ⟨its,r,ht,hz⟩:=I.list hx
 have hlen:=r.length
 refine ⟨"list",_,slot_list_getitem.lookup,ht.isList.typeIs,?_⟩
 refine wpAny_getItem_list_slice ht.isList hs pl pu .none (by simp) ?_ (by rw [List.size_toArray] <;> lia)
 rw [slicePick_cut,← hlen]
 refine ⟨.ref s.heap.objs.size,_,I.laid (t':=s.toks) (o:=.lst (cutV xs lo hi)) (fun b ob q=>Heap.get?_push_of_some _ q) (Nat.le_refl _) ?_,rfl,q _ (I.hok.fresh (Nat.le_refl _))⟩
 exact ⟨Nat.le_trans (cutV_length xs lo hi) hz,_,0,(r.drop (HT.sIx xs.length 0 lo)).take (HT.sIx xs.length xs.length hi - HT.sIx xs.length 0 lo),Heap.get?_push_size _ rfl⟩
def flatV:V→Bool
 | .non=>true
 | .bl _=>true
 | .int _=>true
 | .str _=>true
 | _=>false
def eqV:V→V→Bool
 | .non,.non=>true
 | .bl a,.bl b=>a == b
 | .bl a,.int b=>(if a then 1 else 0) == b
 | .int a,.bl b=>a == (if b then 1 else 0)
 | .int a,.int b=>a == b
 | .str a,.str b=>a == b
 | _,_=>false
theorem eqAt_V {A:Around} {s:Shared} {y x:V} {u v:Value} (ry:RelV y u) (rx:RelV x v) (fy:flatV y=true) (fx:flatV x=true):SeqAt.EqAt A s u v (eqV y x):=by
 cases y with
 | non =>
  cases ry
  cases x with
  | non=>cases rx; exact SeqAt.EqAt.same _
  | bl b=>cases rx; exact SeqAt.EqAt.none_bool b
  | int b=>obtain ⟨t,rfl⟩:=rx; exact SeqAt.EqAt.none_int b t
  | str b=>obtain ⟨t,rfl⟩:=rx; exact SeqAt.EqAt.none_str b t
  | _=>exact absurd (show false=true from fx) Bool.false_ne_true
 | bl a =>
  cases ry
  cases x with
  | non=>cases rx; exact SeqAt.EqAt.bool_none a
  | bl b=>cases rx; exact SeqAt.EqAt.bool_bool a b
  | int b=>obtain ⟨t,rfl⟩:=rx; exact SeqAt.EqAt.bool_int a b t
  | str b=>obtain ⟨t,rfl⟩:=rx; exact SeqAt.EqAt.bool_str a b t
  | _=>exact absurd (show false=true from fx) Bool.false_ne_true
 | int a =>
  obtain ⟨t',rfl⟩:=ry
  cases x with
  | non=>cases rx; exact SeqAt.EqAt.int_none a t'
  | bl b=>cases rx; exact SeqAt.EqAt.int_bool a t' b
  | int b=>obtain ⟨t,rfl⟩:=rx; exact SeqAt.EqAt.int_int a t' b t
  | str b=>obtain ⟨t,rfl⟩:=rx; exact SeqAt.EqAt.int_str a t' b t
  | _=>exact absurd (show false=true from fx) Bool.false_ne_true
 | str a =>
  obtain ⟨t',rfl⟩:=ry
  cases x with
  | non=>cases rx; exact SeqAt.EqAt.str_none a t'
  | bl b=>cases rx; exact SeqAt.EqAt.str_bool a t' b
  | int b=>obtain ⟨t,rfl⟩:=rx; exact SeqAt.EqAt.str_int a t' b t
  | str b=>obtain ⟨t,rfl⟩:=rx; exact SeqAt.EqAt.str_str a t' b t
  | _=>exact absurd (show false=true from fx) Bool.false_ne_true
 | _=>exact absurd (show false=true from fy) Bool.false_ne_true
def eqU (x:V) (u:Value):Bool:=match u with
 | .none=>eqV .non x
 | .bool b=>eqV (.bl b) x
 | .int i _=>eqV (.int i) x
 | .str z _=>eqV (.str z) x
 | _=>false
theorem eqU_of {x y:V} {u:Value} (r:RelV y u) (f:flatV y=true):eqU x u=eqV y x:=by
 cases y with
 | non=>cases r; rfl
 | bl b=>cases r; rfl
 | int i=>obtain ⟨t,rfl⟩:=r; rfl
 | str z=>obtain ⟨t,rfl⟩:=r; rfl
 | _=>exact absurd (show false=true from f) Bool.false_ne_true
theorem any_eqU {x:V}:∀ {xs:List V} {us:List Value},Vals xs us→xs.all flatV=true→us.any (eqU x)=xs.any fun y=>eqV y x
 | _,_,.nil,_=>rfl
 | y :: xs,u :: us,.cons r t,f=>by
  rw [List.all_cons,Bool.and_eq_true] at f
  rw [List.any_cons,List.any_cons,eqU_of r f.1,any_eqU t f.2]
theorem mem_eqAt {A:Around} {s:Shared} {x:V} {v:Value} (rx:RelV x v) (fx:flatV x=true):∀ {xs:List V} {us:List Value},Vals xs us→xs.all flatV=true→∀ u∈us,SeqAt.EqAt A s u v (eqU x u)
 | _,_,.nil,_=>fun u hu=>by cases hu
 | y :: xs,u :: us,.cons r t,f=>fun u' hu=>by
  rw [List.all_cons,Bool.and_eq_true] at f
  rcases List.mem_cons.mp hu with rfl | hu
  ·rw [eqU_of r f.1]; exact eqAt_V r rx f.1 fx
  ·exact mem_eqAt rx fx t f.2 u' hu
def inV (x:V) (xs:List V):Bool:=xs.any fun y=>eqV y x
def rIn (K:PySem.W.Frag) (neg:Bool):R2:=fun x y H Q=>∃ p xs,y=.ref p∧(SqL K H p xs∨SqT K H p xs)∧flatV x=true∧xs.all flatV=true∧Q (.bl (if neg then !inV x xs else inV x xs)) H
theorem op_in_seq:OpR X (compareOp .In) (rIn X.K false):=by
 intro pins s σ H x y v u Q I rx ry h
 obtain ⟨p,xs,rfl,hq,fx,fs,q⟩:=h
 cases ry
 rcases hq with hq | hq
 ·obtain ⟨its,r,pl,hz⟩:=I.list hq
  refine SeqAt.in_listAt (eqU x) pl.isList (fun w hw=>mem_eqAt rx fx r fs w (by simpa using hw)) ⟨.bl _,H,I,rfl,?_⟩
  rw [show its.toArray.any (eqU x)=its.any (eqU x) by simp,any_eqU r fs]
  exact q
 ·obtain ⟨its,r,pl,hz⟩:=I.tuple hq
  refine SeqAt.in_tupleAt (eqU x) pl (fun w hw=>mem_eqAt rx fx r fs w (by simpa using hw)) ⟨.bl _,H,I,rfl,?_⟩
  rw [show its.toArray.any (eqU x)=its.any (eqU x) by simp,any_eqU r fs]
  exact q
theorem call_len_seq:CallR X (.builtin "len") (fun xs H Q=>∃ p ys,xs=[.ref p]∧(SqL X.K H p ys∨SqT X.K H p ys)∧Q (.int ys.length) H):=by
 intro pins s σ H xs us Q I r h
 obtain ⟨p,ys,rfl,hq,q⟩:=h
 obtain ⟨u,rfl,rx⟩:=vals1 r
 cases rx
 have hn:=line63
 rcases hq with hq | hq
 ·obtain ⟨its,r',pl,hz⟩:=I.list hq
  have hlen:=r'.length
  exact Calls.call_len_list pl.isList (by simp only [List.size_toArray] <;> lia) ⟨.int ys.length,H,I.tok _,⟨s.toks+1,by rw [List.size_toArray,hlen]⟩,q⟩
 ·obtain ⟨its,r',pl,hz⟩:=I.tuple hq
  have hlen:=r'.length
  exact len_tuple pl (by simp only [List.size_toArray] <;> lia) ⟨.int ys.length,H,I.tok _,⟨s.toks+1,by rw [List.size_toArray,hlen]⟩,q⟩
theorem call_len_str:CallR X (.builtin "len") (fun xs H Q=>∃ z,xs=[.str z]∧z.length≤sizeLine∧Q (.int z.length) H):=by
 intro pins s σ H xs us Q I r h
 obtain ⟨z,rfl,hz,q⟩:=h
 obtain ⟨u,rfl,t,rfl⟩:=vals1 r
 have hn:=line63
 exact len_str (by lia) ⟨.int z.length,H,I.tok _,⟨_,rfl⟩,q⟩
theorem CallR.or {f:Value} {r r':List V→Hp→VK→Prop} (h:CallR X f r) (h':CallR X f r'):CallR X f (fun xs H Q=>r xs H Q∨r' xs H Q):=by
 intro pins s σ H xs us Q I rs q
 rcases q with q | q
 ·exact h pins s σ H xs us Q I rs q
 ·exact h' pins s σ H xs us Q I rs q
theorem call_list_of:CallR X (.type "list") (fun xs H Q=>∃ p ys,xs=[.ref p]∧(SqL X.K H p ys∨SqT X.K H p ys)∧∀ l,H l=none→Q (.ref l) (upd H l (.lst ys))):=by
 intro pins s σ H xs us Q I r h
 obtain ⟨p,ys,rfl,hq,q⟩:=h
 obtain ⟨u,rfl,rx⟩:=vals1 r
 cases rx
 have fin:∀ (its:List Value),Vals ys its→ys.length≤sizeLine→∀ (h':Heap) (c':Nat),(∀ b o',s.heap.get? b=some o'→h'.get? b=some o') →
   h'.get? s.heap.objs.size=some { cls:=.type "list",dict:=none,data:=.seq its.toArray c',slots:=#[] }→EP X pins σ Q (.ref s.heap.objs.size) { s with heap:=h' }:=fun its r' hz h' c' kp e =>
  ⟨.ref s.heap.objs.size,_,I.laid (t':=s.toks) kp (Nat.le_refl _) (show ObjOk X.prog X.w _ h' _ (.lst ys) from ⟨hz,its,c',r',e⟩),rfl,q _ (I.hok.fresh (Nat.le_refl _))⟩
 rcases hq with hq | hq
 ·obtain ⟨its,r',pl,hz⟩:=I.list hq
  have hlen:=r'.length
  obtain ⟨o,ho,hc,n,hd⟩:=pl.isList
  exact call_list_seq p (.inl rfl) ho hc hd (fun h' c' kp e=>fin its r' hz h' c' kp e) (by simp only [List.size_toArray] <;> lia)
 ·obtain ⟨its,r',pl,hz⟩:=I.tuple hq
  have hlen:=r'.length
  obtain ⟨o,ho,hc,n,hd⟩:=pl
  exact call_list_seq p (.inr rfl) ho hc hd (fun h' c' kp e=>fin its r' hz h' c' kp e) (by simp only [List.size_toArray] <;> lia)
def tyV (K:PySem.W.Frag) (T:String) (x:V) (H:Hp):Prop:=match x with
 | .str _=>T="str"
 | .int _=>T="int"
 | .ref p=>(T="list" ∧ ∃ xs,SqL K H p xs)∨(T="tuple" ∧ ∃ o,K.lookup p=some o∧o.cls=.type "tuple" ∧ o.dict=none) ∨
   (T="dict" ∧ ((∃ kvs,H p=some (.dK kvs))∨∃ kvs,H p=some (.dT kvs)))∨(T="set" ∧ ∃ S n,H p=some (.set S n))
 | _=>False
theorem tyV_is {pins:List (Addr × Obj)} {σ:St} {H:Hp} {s:Shared} {T:String} {x:V} {v:Value} (I:Inv X pins σ H s) (r:RelV x v) (ty:tyV X.K T x H) :
  s.TypeIs v T∧∀ a,v=.ref a→∃ ob,s.heap.get? a=some ob∧ob.dict=none:=by
 cases x with
 | str z =>
  obtain ⟨t,rfl⟩:=r
  cases (show T="str" from ty)
  exact ⟨typeIs_str s z t,fun _ e=>nomatch e⟩
 | int i =>
  obtain ⟨t,rfl⟩:=r
  cases (show T="int" from ty)
  exact ⟨typeIs_int s i t,fun _ e=>nomatch e⟩
 | ref p =>
  cases r
  rcases ty with ⟨rfl,xs,hq⟩ | ⟨rfl,o,hk,hc,hd⟩ | ⟨rfl,hk⟩ | ⟨rfl,S,n,hk⟩
  ·obtain ⟨its,_,pl,_⟩:=I.list hq
   refine ⟨pl.isList.typeIs,fun a e=>?_⟩
   cases e
   obtain ⟨o,n,e,c,hd,_⟩:=pl
   exact ⟨o,e,hd⟩
  ·refine ⟨⟨o,I.kIn p o hk,hc⟩,fun a e=>?_⟩
   cases e
   exact ⟨o,I.kIn _ o hk,hd⟩
  ·have z:∃ o,s.heap.get? p=some o∧o.ExactDict:=by
    rcases hk with ⟨kvs,hk⟩ | ⟨kvs,hk⟩
    ·obtain ⟨_,_,_,_,o,_,_,e,ex,_⟩:=I.hok p _ hk
     exact ⟨o,e,ex⟩
    ·obtain ⟨_,_,_,_,o,_,_,e,ex,_⟩:=I.hok p _ hk
     exact ⟨o,e,ex⟩
   obtain ⟨o,e,ex⟩:=z
   refine ⟨⟨o,e,ex.1⟩,fun a e2=>?_⟩
   cases e2
   exact ⟨o,e,ex.2.1⟩
  ·obtain ⟨o,_,_,_,e,ex,_⟩:=I.hok p _ hk
   refine ⟨⟨o,e,ex.1⟩,fun a e2=>?_⟩
   cases e2
   exact ⟨o,e,ex.2.1⟩
 | _=>exact False.elim ty
def tBM (K:PySem.W.Frag) (T:String) (r:V→List V→Hp→VK→Prop) (to:TE) (t:TA):TE:=fun σ H Q=>to σ H fun x H1=>tyV K T x H1∧t σ H1 fun xs H2=>r x xs H2 Q
variable {o e:Expr} {es:List Expr} {to:TE} {t:TA} {name:Str} {apos cpos:Pos} {T id:String} {r:V→List V→Hp→VK→Prop}
theorem pe_bm (pa:PlainAttrs T) (slot:Slot T name id) (hty:typeOf (.builtin id)=pure (.type "method_descriptor")) (hm:MtR X id r) (ho:PE X o to) (ha:PA X (e :: es) t)
  (hbase:attributeBase o name X.env (eval o X.env)=eval o X.env:=by rfl)
  (hfew:((backTo cpos (starEach (e :: es) X.env)).all (fun x=>!x.1) && (backToKw cpos (keywordEach [] X.env)).all (fun x=>x.1.isSome)
   && decide ((e :: es).length+([]:List Keyword).length+(if ([]:List Keyword).isEmpty then 0 else 1) < 30))=true:=by rfl)
  (hline:(apos.endLine == cpos.line)=true:=by rfl) (hs:starEach (e :: es) X.env=(false,eval e X.env) :: starEach es X.env:=by rfl) (hplain:(backTo cpos (starEach es X.env)).any (·.1)=false:=by rfl) :
  PE X (.Call (.Attribute o name apos) (e :: es) [] cpos) (tBM X.K T r to t):=by
 intro pins s σ H Q I h
 refine wpAny_Call_method_late hbase hfew hline rfl (thn (ho pins s σ H _ I h) fun v s1 ⟨x,H1,I1,r1,ty,q1⟩=>?_)
 obtain ⟨h1,h2⟩:=tyV_is I1 r1 ty
 refine ⟨T,id,pa,slot,hty,h1,h2,?_⟩
 have hA:=ha cpos pins s1 σ H1 _ I1 q1
 rw [hs] at hA ⊢
 refine Calls.callWith_builtin (by show (false || (backTo cpos (starEach es X.env)).any (·.1))=false; rw [hplain] <;> rfl) (Calls.evalArgs_plain ?_)
 exact thn hA fun us s2 ⟨vs,H2,I2,r2,q2⟩=>hm pins s2 σ H2 x vs v us Q I2 r1 r2 q2
end
end L2
namespace L2
open PySem PySem.Spec PyProof.Rows
def MtM (X:Cx) (id:String) (r:V→List V→Hp→VK→Prop):Prop :=
 ∀ (pins:List (Addr × Obj)) (s:Shared) (σ:St) (H:Hp) (x:V) (xs:List V) (v:Value) (us:List Value) (Q:VK),Inv X pins σ H s→RelV x v→Vals xs us→r x xs H Q →
  wpAny (model X.prog X.w) X.A (call (.builtin id) (v :: us)) (EP X pins σ Q) X.xe s
theorem Vals.one:∀ {x:V} {us:List Value},Vals [x] us→∃ u,us=[u]∧RelV x u
 | _,_,.cons r .nil=>⟨_,rfl,r⟩
theorem Vals.rep {xs:List V} {us:List Value} (h:Vals xs us):∀ k:Nat,Vals (List.replicate k xs).flatten (List.replicate k us).flatten
 | 0=>.nil
 | k+1=>by
  rw [List.replicate_succ,List.replicate_succ,List.flatten_cons,List.flatten_cons]
  exact Vals.append h (Vals.rep h k)
section
variable {X:Cx} {pins:List (Addr × Obj)} {σ:St} {H:Hp} {s:Shared} {l b:Addr} {xs ys zs:List V}
theorem Inv.lset {its its':List Value} {n:Nat} {f:Array Value→Array Value} {t':Nat} (I:Inv X pins σ H s) (hH:H l=some (.lst xs))
  (e:s.heap.get? l=some { cls:=.type "list",data:=.seq its.toArray n }) (hf:f its.toArray=its'.toArray) (hv:Vals ys its') (hz:ys.length≤sizeLine) :
  Inv X pins σ (upd H l (.lst ys)) { s with heap:=s.heap.update l (Obj.mapSeq f),toks:=t' }:=by
 have q:=PySem.IsL.update e f
 rw [hf] at q
 refine I.write (x:=l) (e:=l) (by rw [hH]; exact trivial) (.inl rfl) (fun b' u hb hu=>(Heap.get?_update_other s.heap (Obj.mapSeq f) (Ne.symm hb)).trans hu) ⟨_,q⟩ ?_
 exact ⟨hz,its',_,hv,q⟩
theorem Inv.lnew {its:List Value} {t':Nat} (I:Inv X pins σ H s) (hv:Vals ys its) (hz:ys.length≤sizeLine) :
  Inv X pins σ (upd H s.heap.objs.size (.lst ys)) { s with heap:=s.heap.push { cls:=.type "list",data:=.seq its.toArray },toks:=t' } :=
 I.laid (fun _ _ q=>Heap.get?_push_of_some _ q) (Nat.le_refl _) ⟨hz,its,0,hv,Heap.get?_push_size _ rfl⟩
theorem Inv.fresh (I:Inv X pins σ H s):H s.heap.objs.size=none:=I.hok.fresh (Nat.le_refl _)
theorem Inv.lstM (I:Inv X pins σ H s) (hH:H l=some (.lst xs)):xs.length≤sizeLine∧∃ (its:List Value) (n:Nat),Vals xs its∧xs.length=its.length∧s.heap.get? l=some { cls:=.type "list",data:=.seq its.toArray n }:=by
 obtain ⟨z,its,n,r,e⟩:=I.hok l _ hH
 exact ⟨z,its,n,r,r.length,e⟩
end
section
variable {X:Cx}
def rAppend:V→List V→Hp→VK→Prop:=fun x vs H Q=>∃ l xs y,x=.ref l∧vs=[y]∧H l=some (.lst xs)∧xs.length < sizeLine∧Q .non (upd H l (.lst (xs++[y])))
theorem mt_append:MtM X "list.append" rAppend:=by
 intro pins s σ H x vs v us Q I rx rv h
 obtain ⟨l,xs,y,rfl,rfl,hH,hz,q⟩:=h
 cases rx
 obtain ⟨u,rfl,ru⟩:=rv.one
 obtain ⟨z,its,n,r,hl,e⟩:=I.lstM hH
 refine call_meets F.slot_list_append ⟨_,e,rfl⟩ F.entry_list_append (F.args_list_append_2 _ _) (PySem.list_append l its.toArray n u (by rw [List.size_toArray]; lia)) ⟨e,?_⟩
 refine ⟨.non,_,I.lset (its':=its++[u]) hH e (by simp) (r.append (.cons ru .nil)) ?_,rfl,q⟩
 rw [List.length_append,List.length_singleton]
 lia
def rCat:R2:=fun x y H Q=>∃ l b xs zs,x=.ref l∧y=.ref b∧H l=some (.lst xs)∧H b=some (.lst zs)∧xs.length+zs.length≤sizeLine∧∀ p,H p=none→Q (.ref p) (upd H p (.lst (xs++zs)))
theorem op_cat:OpR X (binaryOp .Add) rCat:=by
 intro pins s σ H x y v u Q I rx ry h
 obtain ⟨l,b,xs,zs,rfl,rfl,hH,hB,hz,q⟩:=h
 cases rx
 cases ry
 obtain ⟨z,its,n,r,hl,e⟩:=I.lstM hH
 obtain ⟨z2,its2,n2,r2,hl2,e2⟩:=I.lstM hB
 refine PySem.P.add_list e e2 ?_ (by rw [List.size_toArray,List.size_toArray]; lia)
 have ea:its.toArray++its2.toArray=(its++its2).toArray:=by simp
 rw [ea]
 exact ⟨.ref _,_,I.lnew (t':=s.toks) (r.append r2) (by rw [List.length_append]; lia),rfl,q _ I.fresh⟩
end
section
variable {prog:Program} {w:World} {A:Around} {E:Value→Shared→Prop} {s:Shared}
end
section
variable {X:Cx}
end
end L2
namespace L2
open PySem PySem.Spec PyProof.Rows
section
variable {κ:Type} [DecidableEq κ]
def valV (kvs:List (κ × V)) (k:κ):Option V:=(kvs.find? fun kv=>decide (kv.1=k)).map (·.2)
def putK (kvs:List (κ × V)) (k:κ) (v:V):List (κ × V) :=
 if (kvs.any fun kv=>decide (kv.1=k))=true then kvs.map (fun kv=>if kv.1=k then (kv.1,v) else kv) else kvs++[(k,v)]
theorem valV_pos {p:κ × V} {r:List (κ × V)} {k:κ} (e:p.1=k):valV (p :: r) k=some p.2:=by simp [valV,List.find?_cons,e]
theorem valV_neg {p:κ × V} {r:List (κ × V)} {k:κ} (e:¬ p.1=k):valV (p :: r) k=valV r k:=by simp [valV,List.find?_cons,e]
theorem valV_any (k:κ):∀ kvs:List (κ × V),(kvs.any fun kv=>decide (kv.1=k))=(valV kvs k).isSome
 | []=>rfl
 | p :: r=>by
  rw [List.any_cons]
  by_cases e:p.1=k
  ·simp only [valV_pos e,decide_eq_true e,Bool.true_or,Option.isSome_some]
  ·rw [valV_neg e,decide_eq_false e,Bool.false_or]; exact valV_any k r
theorem length_putK (kvs:List (κ × V)) (k:κ) (v:V):(putK kvs k v).length≤kvs.length+1:=by
 unfold putK
 split
 ·rw [List.length_map]; lia
 ·rw [List.length_append,List.length_cons,List.length_nil]; lia
theorem RelO.isSome_eq {o:Option V} {u:Option Value} (r:RelO o u):o.isSome=u.isSome:=by
 cases o with
 | none=>cases u with
  | none=>rfl
  | some _=>exact (show False from r).elim
 | some _=>cases u with
  | none=>exact (show False from r).elim
  | some _=>rfl
theorem RelO.getD {o:Option V} {u:Option Value} {d:V} {d':Value} (r:RelO o u) (rd:RelV d d'):RelV (o.getD d) (u.getD d'):=by
 cases o with
 | none=>cases u with
  | none=>exact rd
  | some _=>exact (show False from r).elim
 | some _=>cases u with
  | none=>exact (show False from r).elim
  | some _=>exact r
theorem KV.val {kvs:List (κ × V)} {vs:List (κ × Value)} (r:KV kvs vs) (k:κ):RelO (valV kvs k) (valueAt vs k):=by
 unfold KV at r
 induction r with
 | nil=>exact True.intro
 | @cons p q ps qs h t ih =>
  obtain ⟨h1,h2⟩:=h
  by_cases e:p.1=k
  ·have e':q.1=k:=h1.symm.trans e
   have b:valueAt (q :: qs) k=some q.2:=by simp [valueAt,List.find?_cons,e']
   rw [valV_pos e,b]; exact h2
  ·have e':¬ q.1=k:=fun z=>e (h1.trans z)
   have b:valueAt (q :: qs) k=valueAt qs k:=by simp [valueAt,List.find?_cons,e']
   rw [valV_neg e,b]; exact ih
theorem KV.any {kvs:List (κ × V)} {vs:List (κ × Value)} (r:KV kvs vs) (k:κ):(kvs.any fun kv=>decide (kv.1=k))=vs.any fun kv=>decide (kv.1=k):=by
 unfold KV at r
 induction r with
 | nil=>rfl
 | cons h t ih=>rw [List.any_cons,List.any_cons,ih,h.1]
theorem KV.repl {kvs:List (κ × V)} {vs:List (κ × Value)} (r:KV kvs vs) (k:κ) {y:V} {u:Value} (ry:RelV y u) :
  KV (kvs.map fun kv=>if kv.1=k then (kv.1,y) else kv) (vs.map fun kv=>if kv.1=k then (kv.1,u) else kv):=by
 unfold KV at r ⊢
 induction r with
 | nil=>exact .nil
 | @cons p q ps qs h t ih =>
  rw [List.map_cons,List.map_cons]
  refine .cons ?_ ih
  obtain ⟨h1,h2⟩:=h
  by_cases e:p.1=k
  ·rw [if_pos e,if_pos (h1.symm.trans e)]; exact ⟨h1,ry⟩
  ·rw [if_neg e,if_neg (fun z=>e (h1.trans z))]; exact ⟨h1,h2⟩
theorem KV.put {kvs:List (κ × V)} {vs:List (κ × Value)} (r:KV kvs vs) (k:κ) {y:V} {u:Value} (ry:RelV y u):KV (putK kvs k y) (stored vs k u):=by
 unfold putK stored
 rw [r.any k]
 by_cases e:(vs.any fun kv=>decide (kv.1=k))=true
 ·rw [if_pos e,if_pos e]; exact r.repl k ry
 ·rw [if_neg e,if_neg e]; exact Paired.snoc r ⟨rfl,ry⟩
theorem KV.length {kvs:List (κ × V)} {vs:List (κ × Value)} (r:KV kvs vs):kvs.length=vs.length:=Paired.length r
end
theorem kV_is {P:Program} {w:World} {k:Key} {u:Value} (r:RelV (kV k) u):(mixKind P w).is k u=true:=by
 cases k with
 | inl i=>obtain ⟨t,e⟩:=(show ∃ t,u=Value.int i t from r); subst e; exact mixKind_int P w i t
 | inr x=>obtain ⟨t,e⟩:=(show ∃ t,u=Value.str x t from r); subst e; exact mixKind_str P w x t
theorem items_are {P:Program} {w:World}:∀ {ks:List Key} {us:List Value},Vals (ks.map kV) us→ItemsAre (mixKind P w) ks us
 | [],_,r=>by rw [List.map_nil] at r; cases r; exact .nil
 | k :: ks,_,r=>by
  rw [List.map_cons] at r
  cases r with
  | cons h t=>exact .cons (kV_is h) (items_are t)
abbrev KT (H:Hp):List (List Key × V)→List (List Key × Addr × Value)→Prop:=Paired fun p q=>p.1=q.1∧H q.2.1=some (.tup (p.1.map kV))∧RelV p.2 q.2.2
theorem KT.val {H:Hp} {kvs:List (List Key × V)} {xs:List (List Key × Addr × Value)} (r:KT H kvs xs) (k:List Key):RelO (valV kvs k) ((atKey xs k).map (·.2)):=by
 induction r with
 | nil=>exact True.intro
 | @cons p q ps qs h t ih =>
  obtain ⟨h1,_,h2⟩:=h
  by_cases e:p.1=k
  ·have e':q.1=k:=h1.symm.trans e
   have b:atKey (q :: qs) k=some q.2:=by simp [atKey,List.find?_cons,e']
   rw [valV_pos e,b]; exact h2
  ·have e':¬ q.1=k:=fun z=>e (h1.trans z)
   have b:atKey (q :: qs) k=atKey qs k:=by simp [atKey,List.find?_cons,e']
   rw [valV_neg e,b]; exact ih
theorem KT.repl {H:Hp} {kvs:List (List Key × V)} {xs:List (List Key × Addr × Value)} (r:KT H kvs xs) (k:List Key) {y:V} {u:Value} (ry:RelV y u) :
  KT H (kvs.map fun kv=>if kv.1=k then (kv.1,y) else kv) (xs.map (putAt k u)):=by
 induction r with
 | nil=>exact .nil
 | @cons p q ps qs h t ih =>
  rw [List.map_cons,List.map_cons]
  refine .cons ?_ ih
  obtain ⟨h1,h2,h3⟩:=h
  unfold putAt
  by_cases e:p.1=k
  ·rw [if_pos e,if_pos (h1.symm.trans e)]; exact ⟨h1,h2,ry⟩
  ·rw [if_neg e,if_neg (fun z=>e (h1.trans z))]; exact ⟨h1,h2,h3⟩
theorem KT.put {H:Hp} {kvs:List (List Key × V)} {xs:List (List Key × Addr × Value)} (r:KT H kvs xs) (k:List Key) {b:Addr} {y:V} {u:Value} (hb:H b=some (.tup (k.map kV))) (ry:RelV y u) :
  KT H (putK kvs k y) (storedH xs k b u):=by
 have e:(kvs.any fun kv=>decide (kv.1=k))=(atKey xs k).isSome:=by
  rw [valV_any,(r.val k).isSome_eq,Option.isSome_map]
 unfold putK storedH
 rw [e]
 by_cases q:(atKey xs k).isSome=true
 ·rw [if_pos q,if_pos q]; exact r.repl k ry
 ·rw [if_neg q,if_neg q]; exact Paired.snoc r ⟨rfl,hb,ry⟩
theorem KT.keeps {H H':Hp} {kvs:List (List Key × V)} {xs:List (List Key × Addr × Value)} (r:KT H kvs xs) (ht:∀ b ys,H b=some (.tup ys)→H' b=some (.tup ys)):KT H' kvs xs :=
 Paired.mapP r fun _ _ z=>⟨z.1,ht _ _ z.2.1,z.2.2⟩
section
variable {P:Program} {w:World} {H:Hp} {h:Heap} {a:Addr}
theorem rd_of {u:HO} (ok:HOk P w H h) (e:Rd H a u):ObjOk P w H h a u:=e.ok ok
theorem dk_rd {kvs:List (Key × V)} (ok:HOk P w H h) (e:Rd H a (.dK kvs)):kvs.length≤sizeLine∧(a == sysModules)=false∧∃ vs,KV kvs vs∧h.DictOf (mixKind P w) a vs :=
 show ObjOk P w H h a (.dK kvs) from rd_of ok e
theorem dk_of {kvs:List (Key × V)} (ok:HOk P w H h) (e:H a=some (.dK kvs)):kvs.length≤sizeLine∧(a == sysModules)=false∧∃ vs,KV kvs vs∧h.DictOf (mixKind P w) a vs:=dk_rd ok (.inl e)
theorem key_of {ks:List Key} (ok:HOk P w H h) (e:H a=some (.tup (ks.map kV))):(tupleKind (mixKind P w)).is h ks a:=by
 obtain ⟨_,its,r,o,h1,h2,n,h3⟩:=(show ObjOk P w H h a (.tup (ks.map kV)) from ok a _ e)
 exact ⟨o,its.toArray,n,h1,h2,h3,by simpa using items_are r⟩
theorem dt_rd {kvs:List (List Key × V)} (ok:HOk P w H h) (e:Rd H a (.dT kvs)):kvs.length≤sizeLine∧(a == sysModules)=false ∧
  ∃ xs,KT H kvs xs∧h.DictOfH (tupleKind (mixKind P w)) a xs:=by
 obtain ⟨z,y,xs,r,o,es,ep,h1,h2,h3,h4,h5⟩:=(show ObjOk P w H h a (.dT kvs) from rd_of ok e)
 refine ⟨z,y,xs,r,o,es,ep,h1,h2,h3,h4,fun x hx=>?_,h5⟩
 have all:∀ {l:List (List Key × V)} {m:List (List Key × Addr × Value)},KT H l m→∀ x∈m,(tupleKind (mixKind P w)).is h x.1 x.2.1:=by
  intro l m q
  induction q with
  | nil=>intro x hx; exact nomatch hx
  | @cons p q ps qs hq t ih =>
   intro x hx
   rcases List.mem_cons.mp hx with e | hx
   ·subst e
    exact key_of ok (by rw [← hq.1]; exact hq.2.1)
   ·exact ih x hx
 exact all r x hx
theorem dt_of {kvs:List (List Key × V)} (ok:HOk P w H h) (e:H a=some (.dT kvs)):kvs.length≤sizeLine∧(a == sysModules)=false ∧
  ∃ xs,KT H kvs xs∧h.DictOfH (tupleKind (mixKind P w)) a xs:=dt_rd ok (.inl e)
end
def DGet (H:Hp) (a:Addr) (y:V) (r:Option V):Prop :=
 (∃ kvs k,Rd H a (.dK kvs)∧y=kV k∧r=valV kvs k)∨∃ kvs k b,Rd H a (.dT kvs)∧y=.ref b∧H b=some (.tup (k.map kV))∧r=valV kvs k
def DPut (H:Hp) (a:Addr) (y v:V) (H':Hp):Prop :=
 (∃ kvs k,H a=some (.dK kvs)∧y=kV k∧kvs.length < sizeLine∧H'=upd H a (.dK (putK kvs k v))) ∨
 ∃ kvs k b,H a=some (.dT kvs)∧y=.ref b∧H b=some (.tup (k.map kV))∧kvs.length < sizeLine∧H'=upd H a (.dT (putK kvs k v))
theorem DGet.k {H:Hp} {a:Addr} {kvs:List (Key × V)} {k:Key} (e:H a=some (.dK kvs)):DGet H a (kV k) (valV kvs k):=.inl ⟨kvs,k,.inl e,rfl,rfl⟩
theorem DPut.t {H:Hp} {a b:Addr} {kvs:List (List Key × V)} {k:List Key} {v:V} (e:H a=some (.dT kvs)) (eb:H b=some (.tup (k.map kV))) (hl:kvs.length < sizeLine) :
  DPut H a (.ref b) v (upd H a (.dT (putK kvs k v))):=.inr ⟨kvs,k,b,e,rfl,eb,hl,rfl⟩
section
variable {X:Cx} {pins:List (Addr × Obj)} {σ:St} {H:Hp} {s:Shared} {a:Addr} {y v:V} {u r:Value} {o:Option V} {A:Around} {E:Value→Shared→Prop}
theorem Inv.big (I:Inv X pins σ H s):sysModules < s.heap.objs.size:=by
 have h:mainGlobals < s.heap.objs.size:=(I.mod.glob.keeps I.bk).lt
 exact Nat.lt_trans (by decide) h
theorem d_getItem {Q:Value→Shared→Prop} (hu:A.units+1 < cLine) (I:Inv X pins σ H s) (g:DGet H a y (some v)) (ry:RelV y u) (h:∀ w' s',Inv X pins σ H s'→RelV v w'→Q w' s') :
  wpAny (model X.prog X.w) A (getItem (.ref a) u) Q E s:=by
 rcases g with ⟨kvs,k,e,ey,l⟩ | ⟨kvs,k,b,e,ey,eb,l⟩
 ·subst ey
  obtain ⟨z,hd,vs,rel,dd⟩:=dk_rd I.hok e
  obtain ⟨w',hw,rw'⟩:=RelO.some_of (v:=v) (o:=valueAt vs k) (by rw [l]; exact rel.val k)
  exact wpAny_getItem_of (kV_is ry) dd.mapOf hw (h w' _ (I.tok _) rw')
 ·subst ey
  cases (show u=Value.ref b from ry)
  obtain ⟨z,hd,xs,rel,dd⟩:=dt_rd I.hok e
  obtain ⟨w',hw,rw'⟩:=RelO.some_of (v:=v) (o:=(atKey xs k).map (·.2)) (by rw [l]; exact rel.val k)
  obtain ⟨p,hp,hp2⟩:=Option.map_eq_some_iff.mp hw
  refine wpAny_getItem_heap (tupleKind_room_in1 hu) (key_of I.hok eb) dd hp ?_
  rw [hp2]
  exact h w' _ (I.tok _) rw'
theorem d_in {Q:Value→Shared→Prop} (hu:A.units+1 < cLine) (I:Inv X pins σ H s) (g:DGet H a y o) (ry:RelV y u) (h:∀ s',Inv X pins σ H s'→Q (.bool o.isSome) s') :
  wpAny (model X.prog X.w) A (compareOp .In u (.ref a)) Q E s:=by
 rcases g with ⟨kvs,k,e,ey,l⟩ | ⟨kvs,k,b,e,ey,eb,l⟩
 ·subst ey
  obtain ⟨z,hd,vs,rel,dd⟩:=dk_rd I.hok e
  refine wpAny_in_of (kV_is ry) hd dd.mapOf ?_
  rw [← (rel.val k).isSome_eq,← l]
  exact h _ (I.tok _)
 ·subst ey
  cases (show u=Value.ref b from ry)
  obtain ⟨z,hd,xs,rel,dd⟩:=dt_rd I.hok e
  refine wpAny_in_heap (tupleKind_room_in1 hu) (key_of I.hok eb) hd dd ?_
  have q:=(rel.val k).isSome_eq
  rw [Option.isSome_map] at q
  rw [← q,← l]
  exact h _ (I.tok _)
theorem d_notIn {Q:Value→Shared→Prop} (hu:A.units+1 < cLine) (I:Inv X pins σ H s) (g:DGet H a y o) (ry:RelV y u) (h:∀ s',Inv X pins σ H s'→Q (.bool (!o.isSome)) s') :
  wpAny (model X.prog X.w) A (compareOp .NotIn u (.ref a)) Q E s:=by
 rcases g with ⟨kvs,k,e,ey,l⟩ | ⟨kvs,k,b,e,ey,eb,l⟩
 ·subst ey
  obtain ⟨z,hd,vs,rel,dd⟩:=dk_rd I.hok e
  refine wpAny_notIn_of (kV_is ry) hd dd.mapOf ?_
  rw [← (rel.val k).isSome_eq,← l]
  exact h _ (I.tok _)
 ·subst ey
  cases (show u=Value.ref b from ry)
  obtain ⟨z,hd,xs,rel,dd⟩:=dt_rd I.hok e
  refine wpAny_notIn_heap (tupleKind_room_in1 hu) (key_of I.hok eb) hd dd ?_
  have q:=(rel.val k).isSome_eq
  rw [Option.isSome_map] at q
  rw [← q,← l]
  exact h _ (I.tok _)
theorem d_write {h':Heap} {t':Nat} {ob:HO} (I:Inv X pins σ H s) (mu:Mut (H a)) (hs:Heap.SameBut a s.heap h') (he:∃ q,h'.get? a=some q) (new:ObjOk X.prog X.w (upd H a ob) h' a ob) :
  Inv X pins σ (upd H a ob) { s with heap:=h',toks:=t' } :=
 I.write (x:=a) (e:=a) mu (.inl rfl) (fun b q hb z=>(hs.2 b hb).trans z) he new
theorem dk_new {P:Program} {w:World} {H':Hp} {h':Heap} {kvs:List (Key × V)} {vs:List (Key × Value)} (z:kvs.length≤sizeLine) (hd:(a == sysModules)=false) (rel:KV kvs vs) (dd:h'.DictOf (mixKind P w) a vs) :
  ObjOk P w H' h' a (.dK kvs):=⟨z,hd,vs,rel,dd⟩
theorem d_setItem {H':Hp} {Q:Unit→Shared→Prop} (hu:A.units+1 < cLine) (I:Inv X pins σ H s) (g:DPut H a y v H') (ry:RelV y u) (rv:RelV v r) (h:∀ s',Inv X pins σ H' s'→Q () s') :
  wpAny (model X.prog X.w) A (setItem (.ref a) u r) Q E s:=by
 rcases g with ⟨kvs,k,e,ey,l,eH⟩ | ⟨kvs,k,b,e,ey,eb,l,eH⟩
 ·subst ey eH
  obtain ⟨z,hd,vs,rel,dd⟩:=dk_of I.hok e
  have hz:vs.length≤sizeLine:=by rw [← rel.length]; exact z
  have hl:(putK kvs k v).length≤sizeLine:=by have:=length_putK kvs k v; lia
  refine wpAny_setItem_pairs (hsz:=hz) (kV_is ry) dd fun h' dd' hs=>h _ ?_
  have he:∃ q,h'.get? a=some q:=let ⟨q,_,_,hq,_⟩:=dd'; ⟨q,hq⟩
  exact d_write I (by rw [e]; exact True.intro) hs he (dk_new hl hd (rel.put k rv) dd')
 ·subst ey eH
  cases (show u=Value.ref b from ry)
  obtain ⟨z,hd,xs,rel,dd⟩:=dt_of I.hok e
  have hz:xs.length≤sizeLine:=by rw [← Paired.length rel]; exact z
  have hl:(putK kvs k v).length≤sizeLine:=by have:=length_putK kvs k v; lia
  refine wpAny_setItem_heap (hsz:=hz) (tupleKind_room_in1 hu) (key_of I.hok eb) dd fun h' dd' hs=>h _ ?_
  obtain ⟨q,es,ep,hq,h2,h3,h4,_,h5⟩:=dd'
  refine d_write I (by rw [e]; exact True.intro) hs ⟨q,hq⟩ ⟨hl,hd,_,(rel.put k eb rv).keeps fun c ys ec=>?_,q,es,ep,hq,h2,h3,h4,h5⟩
  rw [upd_ne (ne_of ec e (fun z=>nomatch z))]
  exact ec
end
section
variable {X:Cx} {pins:List (Addr × Obj)} {σ:St} {H:Hp} {s:Shared} {a:Addr} {kvs:List (Key × V)} {k:Key} {u:Value} {A:Around} {E:Value→Shared→Prop}
end
def NoSl (i:Expr):Prop:=∀ ov iv,subscripted i false ov iv=operate [ov,iv] (getItem ov iv)
theorem subD_of {prog:Program} {w:World} {A:Around} {E:Value→Shared→Prop} {s:Shared} {env:Env} {value slice:Expr} {pos:Pos} {T id:String} {Q:Value→Shared→Prop}
  (hl:typeLookup (.type T) "__getitem__" = pure (some (.builtin id))) (hs:NoSl slice)
  (h:wpAny (model prog w) A (eval value env) (fun o s₁=>wpAny (model prog w) A (eval slice env) (fun i s₂=>s₂.TypeIs o T∧wpAny (model prog w) A (getItem o i) Q E s₂) E s₁) E s) :
  wpAny (model prog w) A (eval (.Subscript value slice pos) env) Q E s:=by
 refine Subscript_ (wpAny_mono h (fun o s₁ h₁=>wpAny_mono h₁ (fun i s₂ h₂=>?_) fun _ _ x=>x) fun _ _ x=>x)
 obtain ⟨hT,h₂⟩:=h₂
 unfold subscriptTail
 refine wpAny_bind ?_
 rw [getitemInPython_of_ne hT.not_modules]
 refine wpAny_bind (wpAny_specialOf hT hl ?_)
 have fin:wpAny (model prog w) A (subscripted slice false o i) (fun r s₃=>wpAny (model prog w) A (letTemporaryGo value o r >>= fun _=>pure r) Q E s₃) E s₂:=by
  rw [hs o i]
  exact wpAny_operating (wpAny_mono h₂ (fun r s₃ h₃=>wpAny_bind (wpAny_letTemporaryGo (wpAny_pure h₃))) fun _ _ x=>x)
 first
  | exact wpAny_pure (wpAny_bind fin)
  | exact wpAny_bind (wpAny_pure (wpAny_bind fin))
  | exact wpAny_bind fin
theorem dict_typeIs {X:Cx} {pins:List (Addr × Obj)} {σ:St} {H:Hp} {s:Shared} {a:Addr} {y:V} {o:Option V} (I:Inv X pins σ H s) (g:DGet H a y o):s.TypeIs (.ref a) "dict" := by
 rcases g with ⟨kvs,k,e,_,_⟩ | ⟨kvs,k,b,e,_,_,_⟩
 ·obtain ⟨_,_,vs,_,dd⟩:=dk_rd I.hok e
  exact dd.typeIs
 ·obtain ⟨_,_,xs,_,dd⟩:=dt_rd I.hok e
  exact dd.typeIs
def tDGet (td ty:TE):TE:=fun σ H Q=>td σ H fun x H1=>ty σ H1 fun y H2=>∃ a v,x=.ref a∧DGet H2 a y (some v)∧Q v H2
def tDIn (ty td:TE):TE:=fun σ H Q=>ty σ H fun y H1=>td σ H1 fun x H2=>∃ a o,x=.ref a∧DGet H2 a y o∧Q (.bl o.isSome) H2
def tDNotIn (ty td:TE):TE:=fun σ H Q=>ty σ H fun y H1=>td σ H1 fun x H2=>∃ a o,x=.ref a∧DGet H2 a y o∧Q (.bl (!o.isSome)) H2
def sDPut (td ty tv:TE):TS:=fun D σ H=>tv σ H fun v H1=>td σ H1 fun x H2=>ty σ H2 fun y H3=>∃ a H4,x=.ref a∧DPut H3 a y v H4∧D.nx σ H4
section
variable {X:Cx} {o i e value:Expr} {pos pos' tpos:Pos} {td ty tv:TE}
theorem pe_dget (hu:X.A.units+1 < cLine) (ho:PE X o td) (hi:PE X i ty) (hs:NoSl i):PE X (.Subscript o i pos) (tDGet td ty):=by
 intro pins s σ H Q I h
 refine subD_of PySem.F.slot_dict_getitem.lookup hs (thn (ho pins s σ H _ I h) fun u s1 ⟨x,H1,I1,rx,q1⟩=>thn (hi pins s1 σ H1 _ I1 q1) fun iv s2 ⟨y,H2,I2,ry,a,v,ex,g,q2⟩=>?_)
 subst ex
 obtain rfl:u=Value.ref a:=rx
 exact ⟨dict_typeIs I2 g,d_getItem hu I2 g ry fun w' s3 I3 rw'=>⟨v,H2,I3,rw',q2⟩⟩
theorem pc_din (hu:X.A.units+1 < cLine) (hi:PE X i ty) (ho:PE X o td):PC X .In i o (tDIn ty td):=by
 intro pins s σ H Q I h
 refine thn (hi pins s σ H _ I h) fun iv s1 ⟨y,H1,I1,ry,q1⟩=>thn (ho pins s1 σ H1 _ I1 q1) fun u s2 ⟨x,H2,I2,rx,a,ov,ex,g,q2⟩=>?_
 subst ex
 obtain rfl:u=Value.ref a:=rx
 exact d_in hu I2 g ry fun s3 I3=>⟨.bl ov.isSome,H2,I3,rfl,q2⟩
theorem pc_dnotin (hu:X.A.units+1 < cLine) (hi:PE X i ty) (ho:PE X o td):PC X .NotIn i o (tDNotIn ty td):=by
 intro pins s σ H Q I h
 refine thn (hi pins s σ H _ I h) fun iv s1 ⟨y,H1,I1,ry,q1⟩=>thn (ho pins s1 σ H1 _ I1 q1) fun u s2 ⟨x,H2,I2,rx,a,ov,ex,g,q2⟩=>?_
 subst ex
 obtain rfl:u=Value.ref a:=rx
 exact d_notIn hu I2 g ry fun s3 I3=>⟨.bl (!ov.isSome),H2,I3,rfl,q2⟩
theorem ps_dput (hu:X.A.units+1 < cLine) (ho:PE X o td) (hi:PE X i ty) (hv:PE X value tv) (hs:swapsWith value (some (.Subscript o i pos')) pos.line X.env=pure false) :
  PS X (.Assign [.Subscript o i pos'] value pos) (sDPut td ty tv):=by
 intro pins s σ H D I h
 refine wpAny_Assign_Subscript (thn (hv pins s σ H _ I h) fun r s1 ⟨v,H1,I1,rv,q1⟩=>thn (ho pins s1 σ H1 _ I1 q1) fun u s2 ⟨x,H2,I2,rx,q2⟩=>thn (hi pins s2 σ H2 _ I2 q2) fun iv s3 ⟨y,H3,I3,ry,a,H4,ex,g,q3⟩=>?_) hs
 subst ex
 obtain rfl:u=Value.ref a:=rx
 exact d_setItem hu I3 g ry rv fun s4 I4=>⟨σ,H4,I4,q3⟩
end
theorem dt_empty {P:Program} {w:World} {H:Hp} (h:Heap) (hb:sysModules < h.objs.size):ObjOk P w H (h.push { cls:=.type "dict",data:=.dict #[] }) h.objs.size (.dT []) :=
 ⟨Nat.zero_le _,beq_eq_false_iff_ne.mpr (Ne.symm (Nat.ne_of_lt hb)),[],.nil,_,#[],0,Heap.get?_push_size _ rfl,⟨rfl,rfl,rfl⟩,rfl,rfl,List.nodup_nil⟩
def tDNewT:TE:=fun _ H Q=>∀ p,H p=none→Q (.ref p) (upd H p (.dT []))
section
variable {X:Cx} {pos:Pos}
theorem pe_dnewT:PE X (.Dict [] [] pos) tDNewT:=fun pins s σ H Q I h =>
 wpAny_Dict_empty ⟨.ref s.heap.objs.size,_,I.laid (a:=s.heap.objs.size) (o:=.dT []) (t':=s.toks) (fun _ _ q=>Heap.get?_push_of_some _ q) (Nat.le_refl _) (dt_empty s.heap I.big),rfl,h _ (I.hok.fresh (Nat.le_refl _))⟩
end
structure M1 (X:Cx) (o:Expr) (m:Str) (apos:Pos) (e:Expr) (cpos:Pos):Prop where
 base:attributeBase o m X.env (eval o X.env)=eval o X.env
 few:((backTo cpos (starEach [e] X.env)).all (fun x=>!x.1) && (backToKw cpos (keywordEach [] X.env)).all (fun x=>x.1.isSome)
  && decide (([e]:List Expr).length+([]:List Keyword).length+(if ([]:List Keyword).isEmpty then 0 else 1) < 30))=true
 line:(apos.endLine == cpos.line)=true
 trees:backTo cpos (starEach [e] X.env)=[(false,eval e X.env)]
structure M2 (X:Cx) (o:Expr) (m:Str) (apos:Pos) (e f:Expr) (cpos:Pos):Prop where
 base:attributeBase o m X.env (eval o X.env)=eval o X.env
 few:((backTo cpos (starEach [e,f] X.env)).all (fun x=>!x.1) && (backToKw cpos (keywordEach [] X.env)).all (fun x=>x.1.isSome)
  && decide (([e,f]:List Expr).length+([]:List Keyword).length+(if ([]:List Keyword).isEmpty then 0 else 1) < 30))=true
 line:(apos.endLine == cpos.line)=true
 trees:backTo cpos (starEach [e,f] X.env)=[(false,eval e X.env),(false,eval f X.env)]
def IsD (H:Hp) (a:Addr):Prop:=(∃ kvs,Rd H a (.dK kvs))∨∃ kvs,Rd H a (.dT kvs)
theorem isD_at {X:Cx} {pins:List (Addr × Obj)} {σ:St} {H:Hp} {s:Shared} {a:Addr} (I:Inv X pins σ H s) (d:IsD H a) :
  s.TypeIs (.ref a) "dict" ∧ (∀ b,Value.ref a=.ref b→∃ ob,s.heap.get? b=some ob∧ob.dict=none)∧(a == sysModules)=false:=by
 rcases d with ⟨kvs,e⟩ | ⟨kvs,e⟩
 ·obtain ⟨_,hd,vs,_,dd⟩:=dk_rd I.hok e
  refine ⟨dd.typeIs,fun b q=>?_,hd⟩
  cases q
  obtain ⟨ob,_,_,h1,h2,_⟩:=dd
  exact ⟨ob,h1,h2.2.1⟩
 ·obtain ⟨_,hd,xs,_,dd⟩:=dt_rd I.hok e
  refine ⟨dd.typeIs,fun b q=>?_,hd⟩
  cases q
  obtain ⟨ob,_,_,h1,h2,_⟩:=dd
  exact ⟨ob,h1,h2.2.1⟩
section
variable {X:Cx} {pins:List (Addr × Obj)} {σ:St} {H:Hp} {s:Shared} {a:Addr} {y d:V} {u r:Value} {o:Option V} {A:Around} {E:Value→Shared→Prop}
theorem d_get1 {Q:Value→Shared→Prop} (hu:A.units+1 < cLine) (I:Inv X pins σ H s) (g:DGet H a y o) (ry:RelV y u) (h:∀ w' s',Inv X pins σ H s'→RelV (o.getD .non) w'→Q w' s') :
  wpAny (model X.prog X.w) A (call (.builtin "dict.get") [.ref a,u]) Q E s:=by
 rcases g with ⟨kvs,k,e,ey,l⟩ | ⟨kvs,k,b,e,ey,eb,l⟩
 ·subst ey
  obtain ⟨z,hd,vs,rel,dd⟩:=dk_rd I.hok e
  refine call_meetsIn PySem.F.slot_dict_get dd.typeIs PySem.F.entry_dict_get (PySem.F.args_dict_get_2 _ _) (meets_dict_get (mixKind X.prog X.w) a (kV_is ry) hd) ⟨_,dd.mapOf,h _ _ (I.tok _) ?_⟩
  rw [l]
  exact (rel.val k).getD rfl
 ·subst ey
  cases (show u=Value.ref b from ry)
  obtain ⟨z,hd,xs,rel,dd⟩:=dt_rd I.hok e
  refine call_meetsIn PySem.F.slot_dict_get dd.typeIs PySem.F.entry_dict_get (PySem.F.args_dict_get_2 _ _) (meetsH_dict_get (tupleKind (mixKind X.prog X.w)) a b hd) ⟨tupleKind_room_in1 hu,k,xs,key_of I.hok eb,dd,h _ _ (I.tok _) ?_⟩
  rw [l]
  exact (rel.val k).getD rfl
end
def tDGet1 (td ty:TE):TE:=fun σ H Q=>td σ H fun x H1=>∃ a,x=.ref a∧IsD H1 a∧ty σ H1 fun y H2=>∃ o,DGet H2 a y o∧Q (o.getD .non) H2
section
variable {X:Cx} {o e f:Expr} {apos cpos:Pos} {td ty tx:TE}
theorem pe_dget1 (hu:X.A.units+1 < cLine) (ho:PE X o td) (he:PE X e ty) (m:M1 X o "get" apos e cpos):PE X (.Call (.Attribute o "get" apos) [e] [] cpos) (tDGet1 td ty):=by
 intro pins s σ H Q I h
 refine wpAny_Call_method m.base m.few m.line PySem.F.plainAttrs_dict PySem.F.slot_dict_get PySem.F.type_dict_get (thn (ho pins s σ H _ I h) fun u s1 ⟨x,H1,I1,rx,a,ex,d,q1⟩=>?_)
 subst ex
 obtain rfl:u=Value.ref a:=rx
 obtain ⟨t1,t2,_⟩:=isD_at I1 d
 refine ⟨t1,t2,?_⟩
 rw [m.trees]
 refine Calls.callWith_builtin rfl (Calls.evalArgs_plain (Calls.spliced_cons (thn (he pins s1 σ H1 _ I1 q1) fun iv s2 ⟨y,H2,I2,ry,ov,g,q2⟩=>Calls.spliced_nil ?_)))
 exact d_get1 hu I2 g ry fun w' s3 I3 rw'=>⟨_,H2,I3,rw',q2⟩
end
section
variable {X:Cx} {pins:List (Addr × Obj)} {σ:St} {H:Hp} {s:Shared} {a:Addr} {kvs:List (Key × V)} {A:Around} {E:Value→Shared→Prop}
end
section
variable {X:Cx} {pins:List (Addr × Obj)} {σ:St} {H:Hp} {s:Shared} {a:Addr} {y:V} {u:Value} {A:Around} {E:Value→Shared→Prop}
end
end L2
namespace Att
open PySem PySem.W PySem.Calls PyProof.Rows
theorem ints_of_wellAll {P:Params} {h:Heap}:∀ (ns:List Int) (vs:List Value),WellAll P h vs (ns.map WData.int)→IntsAre vs ns:=by
 intro ns
 induction ns with
 | nil =>
  intro vs w
  rw [List.map_nil] at w
  cases w
  exact .nil
 | cons n ns ih =>
  intro vs w
  rw [List.map_cons] at w
  cases w with
  | cons a b =>
   cases a
   exact .cons _ _ (ih _ b)
theorem script_of {l:OpenLaw} {n:Nat} (hn:l.most=some n) {P:Params} {h:Heap} {args:List WData} {vals:List Value}
  (hpre:l.row.toRowW.claim.pre args=true) (hwl:WellAll P h vals args) :
  ∃ a vs ns,vals=[Value.ref a]∧args=[WData.list (ns.map WData.int)]∧h.get? a=some { cls:=.type "list",data:=.seq vs.toArray }∧IntsAre vs ns∧ns.length≤n:=by
 have hsh:WShape.hasAll [] args [.list .int]=true:=(pre_splitW hpre).1
 have hc:l.pre.holds [] { args:=args }=true:=(pre_splitW hpre).2
 obtain ⟨d,r,rfl,h1,h2⟩:=hasAllW_cons hsh
 obtain rfl:=hasAllW_nil h2
 obtain ⟨xs,rfl,h3⟩:=hasW_list h1
 obtain ⟨ns,rfl⟩:=items_int h3
 have hlen:ns.length≤n:=by
  unfold OpenLaw.pre at hc
  have h4:(WTm.not (.lt (.lit (.int (n:Int))) (.len (.arg 0)))).holds [] { args:=[.list (ns.map .int)] }=true:=by
   have h4:=(holds_andW hc).1
   rw [hn] at h4
   exact h4
  have h5:=condW_of h4 (w_not (w_lt w_lit (w_len_list (w_arg rfl))))
  rw [List.length_map] at h5
  refine Nat.le_of_not_lt fun q=>?_
  have q':(n:Int) < ((ns.length:Nat):Int):=by lia
  first
   | (rw [decide_eq_true q'] at h5; exact absurd h5 (by decide))
   | (simp at h5; lia)
 cases hwl with
 | cons w1 w2 =>
  cases w2
  cases w1 with
  | list ho hall=>exact ⟨_,_,ns,rfl,rfl,ho,ints_of_wellAll ns _ hall,hlen⟩
theorem post_true (l:OpenLaw) (args:List WData):l.row.toRowW.claim.post args (.bool true) args=true :=
 postW_of (r:=l.row.toRowW) (X:=(true == true))
  (show WShape.has [] (.bool true) .bool=true by first | rfl | decide | simp [WShape.has,WShape.arms,WShape.armsAll])
  (show (WTm.eq .res (.lit (.bool true))).value [] { args:=args,res:=some (.bool true),after:=args }=some (.bool (true == true)) from w_eq_bool (w_res rfl) w_lit) rfl
theorem attach_call {l:OpenLaw} {n:Nat} {q:Program} {loose:List Str} {XP:(Str→Option Value)→Heap→Prop} {YP:World→Heap→Prop} {d:DefRec}
  (hn:l.most=some n) (hdf:d.params.defaults=[])
  (call:∀ (w:World) (s₀ s₁:Shared) (mg mb:Str→Option Value) (fa:Addr) (o:Obj) (pm cd doc:Value) (a:Addr) (vs:List Value) (ns:List Int),
   Ground q loose [] XP w s₀ mg mb s₁.heap→YP w s₁.heap →
   s₁.heap.get? fa=some o→o.data=.func (docDef d.name d.params d.body d.scope pm cd doc)→s₁.heap.CodeRec cd d.name→mg d.name=some (.ref fa) →
   s₁.heap.get? a=some { cls:=.type "list",data:=.seq vs.toArray }→IntsAre vs ns→ns.length≤n→s₁.gens=#[] →
   codeAny (model l.prog w) callerA (.call (.ref fa) ⟨[.ref a],[]⟩) (fun r s'=>r=.ok (.ret (.bool true))∧OldK s₁.heap s'.heap∧s'.os=s₁.os∧AllBare s'.gens) s₁) :
  WalkO q loose XP YP l.row.toRowW d [] (fun f vs=>PySem.call f vs):=by
 intro w s₀ s₁ mg mb G Y fa o pm cd doc dV kV ho hd hcd hD hmg hg args vals as hpre hlay hrd hwl hlo
 obtain rfl:dV=.none:=Dflts.none hD hdf
 obtain rfl:kV=.none:=Dflts.noKw hD
 obtain ⟨a,vs,ns,rfl,rfl,hobj,hints,hlen⟩:=script_of hn hpre hwl
 refine enter_call (codeAny_mono (call w s₀ s₁ mg mb fa o pm cd doc a vs ns G Y ho (fd_plain hd) hcd hmg hobj hints hlen hg) fun r s' hq=>?_)
 obtain ⟨rfl,h2,h3,h4⟩:=hq
 exact ⟨.inl ⟨.bool true,.bool true,[],rfl,fun _=>rfl,.bool true,post_true l _,fun _=>⟨List.Pairwise.nil,fun _ hm=>(nomatch hm)⟩⟩,h2,h3,h4⟩
section
variable {prog:Program} {w:World} {A:Around} {E:Value→Shared→Prop} {s:Shared} {K:Frag}
end
end Att
namespace L2
open PySem PySem.Spec PyProof.Rows
theorem vals_ints:∀ {vs:List Value} {ns:List Int},IntsAre vs ns→Vals (ns.map V.int) vs
 | _,_,.nil=>.nil
 | _,_,.cons n t h=>.cons ⟨t,rfl⟩ (vals_ints h)
def Only (H:Hp):Prop:=∀ b,H b=none∨∃ o xs,H b=some (.frz o (.lst xs))
theorem law_call {P:Program} {w:World} {K:PySem.W.Frag} {mg mb:Str→Option Value} {CX:CXT} {k:Nat} {fa a:Addr} {fd:FuncData} {x:Str} {sp:Sp} {s₁:Shared} {vs:List Value} {ns:List Int}
  (KX:K.In s₁.heap) (hns:s₁.heap.Ns mainGlobals mg) (hb:s₁.heap.Ns builtinsNs mb) (hbb:∀ x:Str,x≠"__name__" → mb x=bootBuiltins x) (hlim:s₁.heap.NoLimit) (hg:s₁.gens=#[])
  (ha:s₁.heap.get? a=some { cls:=.type "list",data:=.seq vs.toArray }) (hi:IntsAre vs ns) (hl:ns.length≤sizeLine) (hr:Room k callerA)
  (F:∀ base:Heap,K.In base→base.Ns mainGlobals mg→FnOk P w K mg base CX k fa fd [x] sp) (hbind:∀ (s:Shared) (u:Value),BindsTo s fd ⟨[u],[]⟩ [(x,u)])
  (hsp:∀ H:Hp,Only H→SqL K H a (ns.map V.int)→sp [.ref a] H (fun v _=>v=.bl true) fun _ _ _=>False)
  (hCX:∀ H e s',CX [] H s₁ (fun _ _ _=>False) e s'→False) :
  codeAny (model P w) callerA (.call (.ref fa) ⟨[.ref a],[]⟩) (fun r s'=>r=.ok (.ret (.bool true))∧OldK s₁.heap s'.heap∧s'.os=s₁.os∧AllBare s'.gens) s₁:=by
 have rv:=vals_ints hi
 have lenV:=hi.length
 have core:∀ H:Hp,Only H→SqL K H a (ns.map V.int)→HOk P w H s₁.heap→(∀ b,H b≠none→b=a)→(H a≠none→K.lookup a=none) →
   codeAny (model P w) callerA (.call (.ref fa) ⟨[.ref a],[]⟩) (fun r s'=>r=.ok (.ret (.bool true))∧OldK s₁.heap s'.heap∧s'.os=s₁.os∧AllBare s'.gens) s₁:=by
  intro H hO hS hok hA hK
  have base_of:∀ {b:Addr} {o:Obj},s₁.heap.get? b=some o→H b=none→(hidT s₁.heap H).get? b=some o:=fun e n=>hidT_get e n
  have noA:∀ {b:Addr} {o:Obj} {es:Array DictEntry} {ep:Nat},s₁.heap.get? b=some o→o.data=.dict es ep→H b=none:=fun {b o es ep} e d=>by
   cases q:H b with
   | none=>rfl
   | some u =>
    have e':b=a:=hA b (by rw [q]; simp)
    subst e'
    rw [ha] at e; cases e
    have d':Data.seq vs.toArray _=Data.dict es ep:=d
    cases d'
  have nsK:∀ {b:Addr} {m:Str→Option Value},s₁.heap.Ns b m→(hidT s₁.heap H).Ns b m:=fun {b m} ⟨o,es,ep,e,d,r⟩=>⟨o,es,ep,base_of e (noA e d),d,r⟩
  have hKb:K.In (hidT s₁.heap H):=fun b o e=>base_of (KX b o e) (by
   cases q:H b with
   | none=>rfl
   | some u =>
    have e':b=a:=hA b (by rw [q]; simp)
    subst e'
    rw [hK (by rw [q]; simp)] at e; cases e)
  have hM:Mod K mg (hidT s₁.heap H):=⟨hKb,nsK hns,⟨mb,nsK hb,hbb⟩,let ⟨mc,h1,h2⟩:=hlim; ⟨mc,nsK h1,h2⟩⟩
  have e0:Env0 P w K mg (hidT s₁.heap H) callerA [] s₁ H:=⟨rfl,hM,fun b o e=>of_hidT e,Nat.le_of_eq (hidT_size _ _),trivial,fun b hb=>absurd (show b∈([]:List Addr) from hb) (by simp),hok,.of_eq hg⟩
  refine codeAny_mono ((F _ hKb (nsK hns)).run callerA [] s₁ H ⟨[.ref a],[]⟩ [.ref a] [.ref a] _ _ hr e0 (hbind s₁ (.ref a)) (.cons rfl .nil) (hsp H hO hS)) fun r s' h=>?_
  cases r with
  | error e=>exact (hCX H e s' h).elim
  | ok fl =>
   cases fl with
   | next=>exact False.elim h
   | brk=>exact False.elim h
   | cont=>exact False.elim h
   | ret u =>
    obtain ⟨v,H',os,bare,un,hok',r',q⟩:=h
    have q':v=.bl true:=q
    subst q'
    obtain rfl:u=Value.bool true:=r'
    refine ⟨rfl,OldK.of_keep fun b o e=>?_,os,bare⟩
    cases q:H b with
    | none=>exact un.keep b o e q (by intro z; exact absurd (show b∈([]:List Addr) from z) (by simp)) (by simp)
    | some u =>
     rcases hO b with z | ⟨ob,xs,z⟩
     ·rw [q] at z; cases z
     ·have z2:=un.frzs b ob _ z
      obtain ⟨e1,_⟩:=hok b _ z
      obtain ⟨e2,_⟩:=hok' b _ z2
      rw [e] at e1; cases e1
      exact e2
 cases hk:K.lookup a with
 | some o =>
  have e:=KX a o hk
  rw [ha] at e
  cases e
  refine core (fun _=>none) (fun _=>.inl rfl) (.inr ⟨_,vs.toArray,_,hk,rfl,rfl,rfl,by rw [List.size_toArray,lenV]; exact hl,by simpa using rv⟩) (fun b u z=>by have z':(none:Option HO)=some u:=z; cases z') (fun b z=>absurd rfl z) fun z=>absurd rfl z
 | none =>
  refine core (fun b=>if b=a then some (.frz { cls:=.type "list",data:=.seq vs.toArray } (.lst (ns.map V.int))) else none) (fun b=>?_) (.inl (.inr ⟨{ cls:=.type "list",data:=.seq vs.toArray },if_pos rfl⟩)) (fun b u z=>?_) (fun b z=>?_) fun _=>hk
  ·by_cases hb:b=a
   ·exact .inr ⟨_,_,if_pos hb⟩
   ·exact .inl (if_neg hb)
  ·by_cases hb:b=a
   ·have z':=(if_pos hb).symm.trans z
    cases z'
    subst hb
    exact ⟨ha,by rw [List.length_map]; exact hl,vs,_,rv,ha⟩
   ·have z':=(if_neg hb).symm.trans z
    cases z'
  ·by_cases hb:b=a
   ·exact hb
   ·exact absurd (if_neg hb) z
end L2
namespace L2
open PySem PySem.Spec PyProof.Rows
theorem walk_of {l:PySem.W.OpenLaw} {n k:Nat} {q:Program} {loose:List Str} {XP:(Str→Option Value)→Heap→Prop} {YP:World→Heap→Prop} {d:DefRec} {K:Params→PySem.W.Frag} {CX:World→CXT} {sp:World→Sp} {x:Str}
  (hn:l.most=some n) (hn2:n≤sizeLine) (hdf:d.params.defaults=[]) (hr:Room k callerA)
  (hY:∀ (w:World) (h:Heap),YP w h→(K w.params).In h)
  (F:∀ (w:World) (mg:Str→Option Value) (fa:Addr) (h:Heap),(K w.params).In h→h.Ns mainGlobals mg→mg d.name=some (.ref fa) →
   ∃ fd:FuncData,(∀ (s:Shared) (u:Value),BindsTo s fd ⟨[u],[]⟩ [(x,u)]) ∧
    ∀ base:Heap,(K w.params).In base→base.Ns mainGlobals mg→FnOk l.prog w (K w.params) mg base (CX w) k fa fd [x] (sp w))
  (hsp:∀ (w:World) (H:Hp) (a:Addr) (ns:List Int),ns.length≤n→Only H→SqL (K w.params) H a (ns.map V.int)→sp w [.ref a] H (fun v _=>v=.bl true) fun _ _ _=>False)
  (hCX:∀ (w:World) (H:Hp) (s:Shared) (e:Value) (s':Shared),CX w [] H s (fun _ _ _=>False) e s'→False) :
  PySem.W.WalkO q loose XP YP l.row.toRowW d [] (fun f vs=>PySem.call f vs):=by
 refine Att.attach_call hn hdf fun w s₀ s₁ mg mb fa o pm cd doc a vs ns G Y ho hd hcd hmg hobj hints hlen hg=>?_
 have KX:=hY w _ Y
 obtain ⟨fd,hb,hF⟩:=F w mg fa _ KX G.T.g hmg
 exact law_call KX G.T.g G.T.b G.T.builtins G.T.nolimit hg hobj hints (Nat.le_trans hlen hn2) hr hF hb (fun H hO hS=>hsp w H a ns hlen hO hS) fun H e s'=>hCX w H s₁ e s'
end L2
namespace L2
open PySem PySem.Spec PyProof.Rows
def defArgs (s:Stmt):Arguments:=match s with
 | .FunctionDef _ a _ _ _ _ _ _ _ _=>a
 | _=>{ posonlyargs:=[],args:=[],vararg:=none,kwonlyargs:=[],kw_defaults:=[],kwarg:=none,defaults:=[] }
def defBody (s:Stmt):List Stmt:=match s with
 | .FunctionDef _ _ b _ _ _ _ _ _ _=>b
 | _=>[]
def defScope (s:Stmt):Scope:=match s with
 | .FunctionDef _ _ _ _ _ _ sc _ _ _=>sc
 | _=>{ kind:=.function,names:=[],isGenerator:=false,isCoroutine:=false }
abbrev CX0:CXT:=fun _ _ _ _ _ _=>False
abbrev E0:XK:=fun _ _ _=>False
theorem pass0 {X:Cx}:Passes CX0 X E0:=fun _ _ _ _ _ _ _ h=>h.elim
structure Fun (K:PySem.W.Frag) (x qual:Str) (st:Stmt) (f:Addr) (fd:FuncData):Prop where
 ex:∃ (oc:Value) (od:Option Addr) (kV doc pm:Value) (an:Option Addr) (cdv ct:Value) (osl:Array (Option Value)),
  fd=PySem.W.fnOf x qual (defArgs st) (defBody st) (defScope st) .none kV doc pm an cdv ct∧K.lookup f=some ⟨oc,od,.func fd,osl⟩∧PySem.W.codeIn K cdv qual=true
 kp:PySem.W.keepIn K (.ref f)=true
section
variable {P:Program} {w:World} {K:PySem.W.Frag} {mg:Str→Option Value} {base:Heap}
theorem Fun.ok {x qual:Str} {st:Stmt} {f:Addr} {fd:FuncData} {N ps:List Str} {k:Nat} {sp:Sp} (F:Fun K x qual st f fd) (S:FnScope N ps (defScope st)) (len:∀ vs H Q E,sp vs H Q E→vs.length=ps.length)
  (hbody:∀ (cdv:Value) (A:Around) (outer:List Env) (s:Shared) (H:Hp) (vs:List V) (Q:VK) (E:XK),Room k (A.deeper (envOfC qual (defScope st) s.heap.objs.size f cdv))→sp vs H Q E →
   ∃ t,PSs (cxOf CX0 P w K mg base N qual (defScope st) f cdv A outer s H E).nox (defBody st) t∧t { nx:=fun _ H'=>Q .non H',rt:=Q } (start N vs) H):FnOk P w K mg base CX0 (k+1) f fd ps sp:=by
 obtain ⟨oc,od,kV,doc,pm,an,cdv,ct,osl,rfl,lk,hcd⟩:=F.ex
 refine fn_of lk hcd S len fun A outer s H vs Q E hr hsp=>?_
 obtain ⟨t,h,q⟩:=hbody cdv A outer s H vs Q E hr hsp
 exact ⟨t,h.nox,q⟩
theorem Fun.binds {x qual:Str} {st:Stmt} {f:Addr} {fd:FuncData} {ps:List Str} (F:Fun K x qual st f fd)
  (h:∀ (kV doc pm:Value) (an:Option Addr) (cdv ct:Value) (us:List Value),us.length=ps.length→bindArgs (PySem.W.fnOf x qual (defArgs st) (defBody st) (defScope st) .none kV doc pm an cdv ct) ⟨us,[]⟩=pure (ps.zip us)):Binds K fd ps []:=by
 obtain ⟨oc,od,kV,doc,pm,an,cdv,ct,osl,rfl,lk,hcd⟩:=F.ex
 exact .all (h kV doc pm an cdv ct)
theorem fun_mk {x qual:Str} {st:Stmt} {f:Addr} {oc:Value} {od an:Option Addr} {osl:Array (Option Value)} {kV doc pm cdv ct:Value} (l:K.lookup f=some ⟨oc,od,.func (PySem.W.fnOf x qual (defArgs st) (defBody st) (defScope st) .none kV doc pm an cdv ct),osl⟩)
  (c:PySem.W.codeIn K cdv qual=true) (k:PySem.W.keepIn K (.ref f)=true):Fun K x qual st f (PySem.W.fnOf x qual (defArgs st) (defBody st) (defScope st) .none kV doc pm an cdv ct):=⟨⟨oc,od,kV,doc,pm,an,cdv,ct,osl,rfl,l,c⟩,k⟩
end
section
variable {X:Cx}
end
theorem iteF {A B:Prop} (h:B):if false=true then A else B:=by
 rw [if_neg Bool.false_ne_true]
 exact h
theorem iteT {A B:Prop} (h:A):if true=true then A else B:=by
 rw [if_pos rfl]
 exact h
def Same (H H':Hp):Prop:=∀ b o,H b=some o→H' b=some o
theorem Same.refl (H:Hp):Same H H:=fun _ _ h=>h
theorem Same.trans {H H1 H2:Hp} (a:Same H H1) (b:Same H1 H2):Same H H2:=fun c o h=>b c o (a c o h)
theorem Same.free {H H':Hp} (e:Same H H') {l:Addr} (h:H' l=Option.none):H l=Option.none:=by
 cases q:H l with
 | none=>rfl
 | some o =>
  rw [e l o q] at h
  cases h
theorem Same.seq {K:PySem.W.Frag} {H H':Hp} {a:Addr} {xs:List V} (e:Same H H') (h:SqL K H a xs):SqL K H' a xs:=by
 rcases h with (h | ⟨o,h⟩) | h
 ·exact .inl (.inl (e _ _ h))
 ·exact .inl (.inr ⟨o,e _ _ h⟩)
 ·exact .inr h
end L2
namespace L2
open PySem PySem.Spec PyProof.Rows
theorem line1000:1000≤sizeLine:=by decide
theorem same_upd {H:Hp} {l:Addr} (h:H l=none) (o:HO):Same H (upd H l o):=fun b u e=>by
 rw [upd_ne (ne_of_none e h)]
 exact e
theorem Same.put {H H':Hp} {p:Addr} {o:HO} (e:Same H H') (h:H p=none):Same H (upd H' p o):=fun b u q=>by
 rw [upd_ne (ne_of_none q h)]
 exact e b u q
theorem at_nat {α:Type} {xs:List α} {k:Int} (h0:0≤k) (h1:k < (xs.length:Int)):∃ v,atI xs k=some v∧xs[k.toNat]?=some v:=by
 have hk:k.toNat < xs.length:=by lia
 have e:xs[k.toNat]?=some xs[k.toNat]:=List.getElem?_eq_getElem hk
 refine ⟨xs[k.toNat],?_,e⟩
 have:=atI_nat e
 rw [Int.toNat_of_nonneg h0] at this
 exact this
theorem at_map {α β:Type} {f:α→β} {xs:List α} {k:Int} {v:α} (h:atI xs k=some v):atI (xs.map f) k=some (f v):=by
 unfold atI at h ⊢
 rw [List.length_map]
 cases e:ixN xs.length k with
 | none =>
  rw [e] at h
  cases h
 | some j =>
  rw [e] at h
  have h':xs[j]?=some v:=h
  show (xs.map f)[j]?=some (f v)
  rw [List.getElem?_map,h']
  rfl
def cutL {α:Type} (xs:List α) (lo hi:Option Int):List α:=(xs.drop (HT.sIx xs.length 0 lo)).take (HT.sIx xs.length xs.length hi - HT.sIx xs.length 0 lo)
theorem cutV_map {α:Type} (f:α→V) (xs:List α) (lo hi:Option Int):cutV (xs.map f) lo hi=(cutL xs lo hi).map f:=by
 unfold cutV cutL
 rw [List.length_map,List.map_take,List.map_drop]
theorem cutL_last {α:Type} (xs:List α):cutL xs none (some (-1))=xs.dropLast:=by
 unfold cutL
 rw [HT.sIx_none]
 show (xs.drop 0).take ((if (-1:Int) < 0 then ((-1:Int)+(xs.length:Int)).toNat else min (-1:Int).toNat xs.length) - 0)=xs.dropLast
 rw [if_pos (by decide),List.drop_zero,List.dropLast_eq_take]
 congr 1
 lia
theorem cutL_take {α:Type} (xs:List α) (k:Nat):cutL xs none (some (k:Int))=xs.take k:=by
 unfold cutL
 rw [HT.sIx_none,HT.sIx_nat,List.drop_zero,Nat.sub_zero]
 by_cases h:k≤xs.length
 ·rw [Nat.min_eq_left h]
 ·rw [Nat.min_eq_right (by lia),List.take_length,List.take_of_length_le (by lia)]
def Its (z:Str):It:=⟨fun i _=>i < z.cps.size,fun i H x H'=>H'=H∧∃ c,z.cps[i]?=some c∧x=.str ⟨#[c]⟩,fun i _=>z.cps.size≤i⟩
theorem turn_ascii {P:Program} {w:World} {K:PySem.W.Frag} {tg:Expr} (it:Addr) (z:Str) (t:Tok):Turn P w K tg (Its z) [it] it (fun i h=>h.IsStrIter it "str_ascii_iterator" z t i) where
 mem:=by simp
 obj:=fun i h st b hb=>by
  have e:b=it:=by simpa using hb
  subst e
  obtain ⟨o,e,c,d⟩:=st
  exact ⟨o,e,fun v z=>by rw [d] at z; cases z⟩
 keep:=fun i h h' st k=>by
  obtain ⟨o,e,r⟩:=st
  exact ⟨o,k it (by simp) o e,r⟩
 item:=by
  intro X hP hw hK hc i pins s σ H E I hf st hg
  subst hP hw hK
  obtain ⟨f0,f1,f2,f3,f4,f5⟩:=hf it (by simp)
  have hx:z.cps[i]?=some z.cps[i]:=Array.getElem?_eq_getElem hg
  refine wpAny_pyNext_ascii_item st hx fun h' st' sb=>?_
  have I1:Inv X pins σ H { s with heap:=h',toks:=s.toks+1 }:=I.turned (fun b o hb e=>(sb.2 b hb).trans e) f0 f1 f3 f4 f5
  obtain ⟨o,e,c,d⟩:=id st'
  exact ⟨_,rfl,go_of (s:={ s with heap:=h',toks:=s.toks+1 }) e c d (by decide) ⟨.str ⟨#[z.cps[i]]⟩,H,I1,⟨_,rfl⟩,⟨rfl,_,hx,rfl⟩,st',fun b hb=>(hf b hb).1⟩⟩
 done:=by
  intro X hP hw hK hc i pins s σ H E I hf st hg
  subst hP hw hK
  obtain ⟨f0,f1,f2,f3,f4,f5⟩:=hf it (by simp)
  exact wpAny_pyNext_ascii_end (I.ok.hd hc) st (Array.getElem?_eq_none hg) fun h' eb=>⟨rfl,I.turned (t':=s.toks) (fun b o hb e=>eb b o hb e) f0 f1 f3 f4 f5⟩
 self:=fun _ _ _ _ _ st h=>wpAny_pyIter_striter_ascii st h
theorem turn_wide {P:Program} {w:World} {K:PySem.W.Frag} {tg:Expr} (it:Addr) (z:Str) (t:Tok):Turn P w K tg (Its z) [it] it (fun i h=>h.IsStrIter it "str_iterator" z t i) where
 mem:=by simp
 obj:=fun i h st b hb=>by
  have e:b=it:=by simpa using hb
  subst e
  obtain ⟨o,e,c,d⟩:=st
  exact ⟨o,e,fun v z=>by rw [d] at z; cases z⟩
 keep:=fun i h h' st k=>by
  obtain ⟨o,e,r⟩:=st
  exact ⟨o,k it (by simp) o e,r⟩
 item:=by
  intro X hP hw hK hc i pins s σ H E I hf st hg
  subst hP hw hK
  obtain ⟨f0,f1,f2,f3,f4,f5⟩:=hf it (by simp)
  have hx:z.cps[i]?=some z.cps[i]:=Array.getElem?_eq_getElem hg
  refine wpAny_pyNext_wide_item st hx fun h' st' sb=>?_
  have I1:Inv X pins σ H { s with heap:=h',toks:=s.toks+1 }:=I.turned (fun b o hb e=>(sb.2 b hb).trans e) f0 f1 f3 f4 f5
  obtain ⟨o,e,c,d⟩:=id st'
  exact ⟨_,rfl,go_of (s:={ s with heap:=h',toks:=s.toks+1 }) e c d (by decide) ⟨.str ⟨#[z.cps[i]]⟩,H,I1,⟨_,rfl⟩,⟨rfl,_,hx,rfl⟩,st',fun b hb=>(hf b hb).1⟩⟩
 done:=by
  intro X hP hw hK hc i pins s σ H E I hf st hg
  subst hP hw hK
  obtain ⟨f0,f1,f2,f3,f4,f5⟩:=hf it (by simp)
  exact wpAny_pyNext_wide_end (I.ok.hd hc) st (Array.getElem?_eq_none hg) fun h' eb=>⟨rfl,I.turned (t':=s.toks) (fun b o hb e=>eb b o hb e) f0 f1 f3 f4 f5⟩
 self:=fun _ _ _ _ _ st h=>wpAny_pyIter_striter_wide st h
section
variable {X:Cx} {tg:Expr}
end
def plainE:Expr→Bool
 | .Starred ..=>false
 | _=>true
theorem star_cons {e:Expr} {es:List Expr} {env:Env} (h:plainE e=true):starEach (e :: es) env=(false,eval e env) :: starEach es env:=by
 cases e <;> first | rfl | (exact absurd h Bool.false_ne_true)
theorem star_firsts {env:Env}:∀ {es:List Expr},es.all plainE=true→starEach es env=es.map fun e=>(false,eval e env)
 | [],_=>rfl
 | e :: es,h=>by
  rw [List.all_cons,Bool.and_eq_true] at h
  rw [star_cons h.1,star_firsts h.2,List.map_cons]
theorem star_none {es:List Expr} {env:Env} {pos:Pos} (h:es.all plainE=true):(backTo pos (starEach es env)).any (·.1)=false:=by
 rw [star_firsts h]
 unfold backTo
 rw [List.map_map,List.any_eq_false]
 intro p hp
 obtain ⟨e,_,rfl⟩:=List.mem_map.mp hp
 exact Bool.false_ne_true
theorem star_all {es:List Expr} {env:Env} {pos:Pos} (h:es.all plainE=true):(backTo pos (starEach es env)).all (fun x=>!x.1)=true:=by
 rw [star_firsts h]
 unfold backTo
 rw [List.map_map,List.all_eq_true]
 intro p hp
 obtain ⟨e,_,rfl⟩:=List.mem_map.mp hp
 rfl
section
variable {X:Cx} {x:Str} {p pos:Pos} {e:Expr} {es:List Expr} {te:TE} {t:TA} {id T:String} {r:List V→Hp→VK→Prop}
theorem pac (ha:PE X e te) (hr:PA X es t) (hs:plainE e=true:=by rfl):PA X (e :: es) (tCons te t):=pa_cons ha hr (star_cons hs)
theorem all2 {e:Expr} {es:List Expr} (h:(e :: es).all plainE=true):plainE e=true∧es.all plainE=true:=by
 rw [List.all_cons,Bool.and_eq_true] at h
 exact h
theorem pcb (hc:CallR X (.builtin id) r) (hg:Gl X x) (hm:X.mg x=none) (hv:bootBuiltins x=some (.builtin id)) (ha:PA X (e :: es) t) (hp:(e :: es).all plainE=true:=by rfl) (hn:x≠"__name__" := by decide) (hdb:(x == ("__debug__" : Str))=false:=by decide) :
  PE X (.Call (.Name x p) (e :: es) [] pos) (tCB r t):=pe_callB hc hg hm hv ha hn hdb (star_cons (all2 hp).1) (star_none (all2 hp).2)
theorem pct (hc:CallR X (.type T) r) (hg:Gl X x) (hm:X.mg x=none) (hv:bootBuiltins x=some (.type T)) (ha:PA X (e :: es) t) (hp:(e :: es).all plainE=true:=by rfl) (hn:x≠"__name__" := by decide) (hdb:(x == ("__debug__" : Str))=false:=by decide) :
  PE X (.Call (.Name x p) (e :: es) [] pos) (tCB r t):=pe_callTy hc hg hm hv ha hn hdb (star_cons (all2 hp).1) (star_none (all2 hp).2)
theorem pbm {o:Expr} {to:TE} {name:Str} {apos cpos:Pos} {r:V→List V→Hp→VK→Prop} (pa:PlainAttrs T) (slot:Slot T name id) (hty:typeOf (.builtin id)=pure (.type "method_descriptor")) (hm:MtR X id r) (ho:PE X o to) (ha:PA X (e :: es) t)
  (hp:(e :: es).all plainE=true:=by rfl) (hfew:decide ((e :: es).length < 30)=true:=by rfl) (hbase:attributeBase o name X.env (eval o X.env)=eval o X.env:=by rfl) (hline:(apos.endLine == cpos.line)=true:=by rfl) :
  PE X (.Call (.Attribute o name apos) (e :: es) [] cpos) (tBM X.K T r to t):=by
 refine pe_bm pa slot hty hm ho ha hbase ?_ hline (star_cons (all2 hp).1) (star_none (all2 hp).2)
 rw [star_all hp]
 exact hfew
theorem prng1 {tg a:Expr} {ta:TA} (hg:Gl X "range") (hm:X.mg "range" = none) (ha:PA X [a] ta) (hp:plainE a=true:=by rfl):PI X tg (.Call (.Name "range" p) [a] [] pos) (iRng1 ta):=pi_range1 hg hm ha (star_cons hp)
theorem prng2 {tg a b:Expr} {ta:TA} (hg:Gl X "range") (hm:X.mg "range" = none) (ha:PA X [a,b] ta) (hp:plainE a=true:=by rfl) (hp2:plainE b=true:=by rfl):PI X tg (.Call (.Name "range" p) [a,b] [] pos) (iRng2 ta) :=
 pi_range2 hg hm ha (by rw [star_cons hp,star_cons hp2]; rfl) (star_cons hp2)
end
inductive Cal (P:Program) (w:World) (K:PySem.W.Frag) (mg:Str→Option Value) (base:Heap) (k:Nat) (x:Str) (ps:List Str) (sp:Sp):Prop where
 | mk {f:Addr} {fd:FuncData} (F:FnOk P w K mg base CX0 k f fd ps sp) (hm:mg x=some (.ref f)) (hk:PySem.W.keepIn K (.ref f)=true) (hb:Binds K fd ps [])
section
variable {X:Cx} {k:Nat} {ps:List Str} {sp:Sp} {x:Str} {p pos:Pos} {e:Expr} {es:List Expr} {t:TA}
theorem pe_cal (C:Cal X.prog X.w X.K X.mg X.base k x ps sp) (hr:Room k X.A) (hg:Gl X x) (ha:PA X (e :: es) t) (hp:(e :: es).all plainE=true:=by rfl) (hdb:(x == ("__debug__" : Str))=false:=by decide):PE X (.Call (.Name x p) (e :: es) [] pos) (tCall sp [] E0 t):=by
 cases C with
 | mk F hm hk hb=>exact pe_call F hr hg hm hk hb .nil pass0 ha hdb (star_cons (all2 hp).1) (star_none (all2 hp).2)
end
section
variable {X:Cx}
end
theorem kit_same {K:PySem.W.Frag} {T:String}:PySem.W.kitOne K (.type T) (.type T)=some true:=by
 unfold PySem.W.kitOne
 rw [if_pos (by simp)]
section
variable {X:Cx}
theorem strs_of:∀ {ys:List Str} {us:List Value},Vals (ys.map V.str) us→∃ l:List (Str × Tok),us=strValues l∧l.map (·.1)=ys
 | [],_,r=>by
  cases r
  exact ⟨[],rfl,rfl⟩
 | y :: ys,_,r=>by
  rw [List.map_cons] at r
  cases r with
  | cons r1 r2 =>
   obtain ⟨t,e⟩:=r1
   subst e
   obtain ⟨l,e1,e2⟩:=strs_of r2
   subst e1
   exact ⟨(y,t) :: l,rfl,by rw [List.map_cons,e2]⟩
abbrev glue (sep:Str) (ys:List Str):Str:=Txt.join sep ys
theorem glue_len (sep:Str) (ys:List Str):(glue sep ys).length≤(ys.map (·.length)).sum+ys.length * sep.length:=by
 show (Builtin.Str.glued sep ys).length≤_
 rw [StrLaws.glued_eq_join]
 exact StrLaws.join_length_le sep ys
theorem mt_join:MtM X "str.join" (fun x vs H Q=>∃ (sep:Str) (l:Addr) (ys:List Str),x=.str sep∧vs=[.ref l]∧SqL X.K H l (ys.map V.str)∧(ys.map (·.length)).sum+ys.length * sep.length≤16777216∧Q (.str (glue sep ys)) H):=by
 intro pins s σ H x vs v us Q I rx rv h
 obtain ⟨sep,l,ys,rfl,rfl,hq,hz,q⟩:=h
 obtain ⟨t,rfl⟩:=rx
 obtain ⟨u,rfl,ru⟩:=rv.one
 cases ru
 obtain ⟨its,r,pl,_⟩:=I.list hq
 obtain ⟨ts,e1,e2⟩:=strs_of r
 subst e1
 refine SC.join pl.isList e2 ?_ fun t' k=>⟨.str (glue sep ys),H,I.tok k,⟨t',rfl⟩,q⟩
 unfold JoinOk
 rw [StrLaws.joinTotal]
 have:Builtin.Str.tooLong ((ys.map (·.length)).sum+ys.length * sep.length)=false:=by
  unfold Builtin.Str.tooLong
  rw [sizeLine_eq]
  exact decide_eq_false (by lia)
 rw [this]
 rfl
theorem part_of {v:Value} {o:Option Int} (p:IsPart v o):∃ l:Option (Int × Tok),v=partValue l∧l.map (·.1)=o:=by
 cases p with
 | none=>exact ⟨none,rfl,rfl⟩
 | int i t=>exact ⟨some (i,t),rfl,rfl⟩
theorem sl_str:SlR X (fun x lo hi H Q=>∃ z,x=.str z∧z.length≤sizeLine∧Q (.str (Txt.slice z lo hi)) H):=by
 intro pins s σ H x v vl vu lo hi sl Q I rx hs pl pu h
 obtain ⟨z,rfl,hz,q⟩:=h
 obtain ⟨t,rfl⟩:=rx
 obtain ⟨l,e1,e2⟩:=part_of pl
 obtain ⟨u,e3,e4⟩:=part_of pu
 subst e1 e2 e3 e4
 refine ⟨"str",_,F.slot_str_getitem.lookup,typeIs_str _ _ _,?_⟩
 refine wpAny_getItem_str_slice (l:=l) (u:=u) (st:=none) hs rfl ?_
 exact post_val_or_str ⟨Nat.le_trans (Txt.slice_le z _ _) hz,fun t' k=>⟨.str (Txt.slice z (l.map (·.1)) (u.map (·.1))),H,I.tok k,⟨t',rfl⟩,q⟩⟩
end
end L2
namespace HT
open PySem PyProof.Rows
section
variable {prog:Program} {w:World} {A:Around} {E:Value→Shared→Prop} {s:Shared}
theorem getItem_tuple_whole {t sl:Addr} {items:Array Value} {vl vu:Value} {lo hi:Option Int} {Q:Value→Shared→Prop} (ht:IsTup s.heap t items) (hs:s.heap.IsSliceOf sl vl vu .none) (pl:IsPart vl lo) (pu:IsPart vu hi)
  (hw:sIx items.size 0 lo=0∧sIx items.size items.size hi=items.size) (h:Q (.ref t) s):wpAny (model prog w) A (getItem (.ref t) (.ref sl)) Q E s:=by
 obtain ⟨os,hos,hcs,hds⟩:=id hs
 have hTs:s.TypeIs (.ref sl) "slice" := ⟨os,hos,hcs⟩
 unfold getItem
 try with_reducible refine wpAny_holding ?_
 first | refine wpAny_bind (wpAny_pure ?_) | skip
 refine wpAny_bind (wpAny_sequenceKey ht.typeIs (by decide) ?_)
 refine wpAny_bind (wpAny_callSpecial?_slot (name:=Str.ofString "__getitem__") ht.typeIs PyProof.Rows.slot_tuple_getitem
  (wpAny_call_entry PyProof.Rows.slot_tuple_getitem ht.typeIs entry_tuple_getitem ?_ (args_tuple_getitem _ _)))
 show wpAny _ _ (Builtin.Tuple.tupleItemsOf (.ref t) >>= _) _ _ s
 refine wpAny_bind (tupleItemsOf_ ht ?_)
 refine wpAny_bind (wpAny_typeOf hTs ?_)
 rw [if_pos (by decide)]
 refine wpAny_bind (sliceApplied_gen hs pl pu ?_)
 have hyes:(((sIx items.size 0 lo:Nat):Int) == 0 && (1:Int) == 1 && (sIx items.size items.size hi - sIx items.size 0 lo) == items.size)=true:=by
  rw [hw.1,hw.2]
  simp
 show wpAny _ _ (if (((sIx items.size 0 lo:Nat):Int) == 0 && (1:Int) == 1 && (sIx items.size items.size hi - sIx items.size 0 lo) == items.size)=true then _ else _) _ _ s
 rw [if_pos hyes]
 refine wpAny_bind (m:=Builtin.Tuple.tupleIsExact _) ?_
 unfold Builtin.Tuple.tupleIsExact
 refine wpAny_bind (wpAny_typeOf ht.typeIs (wpAny_pure ?_))
 rw [if_pos (by decide)]
 exact wpAny_bind (wpAny_rule (wpAny_pure ⟨_,rfl,wpAny_pure h⟩))
end
end HT
namespace L2
open PySem PySem.Spec PyProof.Rows
section
variable {X:Cx}
end
theorem lookup_relabel_any {env:Env} {x:Str} {k:NameKind}:∀ {names:List (Str × NameKind)},
  (names.map fun (n,k)=>if (k == NameKind.free && env.scope.kind == .function && env.kindOf n == some .cell) then (n,NameKind.cell) else (n,k)).lookup x=some k→names.lookup x=some k∨(names.lookup x=some .free∧k=.cell)
 | [],h=>by simp at h
 | (n,k0) :: r,h=>by
  have ih:=@lookup_relabel_any env x k r
  rw [List.map_cons] at h
  have h:List.lookup x ((if (k0 == NameKind.free && env.scope.kind == .function && env.kindOf n == some .cell)=true then (n,NameKind.cell) else (n,k0)) :: _)=some k:=h
  by_cases hc:(k0 == NameKind.free && env.scope.kind == .function && env.kindOf n == some .cell)=true
  ·rw [if_pos hc,List.lookup_cons] at h
   rw [List.lookup_cons]
   cases hx:x == n with
   | true =>
    rw [hx] at h
    have e:NameKind.cell=k:=Option.some.inj h
    subst e
    have e0:k0=.free:=by
     rw [Bool.and_eq_true,Bool.and_eq_true] at hc
     exact eq_of_beq hc.1.1
    subst e0
    exact .inr ⟨rfl,rfl⟩
   | false =>
    rw [hx] at h
    exact ih h
  ·rw [if_neg hc,List.lookup_cons] at h
   rw [List.lookup_cons]
   cases hx:x == n with
   | true =>
    rw [hx] at h
    exact .inl h
   | false =>
    rw [hx] at h
    exact ih h
theorem lookup_relabel {csc:Scope} {env:Env} {x:Str} {k:NameKind} (h:(relabel csc env).names.lookup x=some k):csc.names.lookup x=some k∨(csc.names.lookup x=some .free∧k=.cell):=lookup_relabel_any h
theorem closure_of {csc:Scope} {env:Env} (h:∀ y∈csc.names,y.2=.free→∃ c,env.cells.lookup y.1=some c) :
  ∃ cl,closureFor csc env=pure cl∧(∀ x c,cl.lookup x=some c→env.cells.lookup x=some c)∧∀ y∈csc.names,y.2=.free→∃ c,cl.lookup y.1=some c:=by
 have key:∀ (body:Str × NameKind→List (Str × Addr)→Sem (ForInStep (List (Str × Addr)))),
   (∀ n k acc,body (n,k) acc=if (k == .free)=true then (cellOf env n >>= fun c=>pure (ForInStep.yield ((n,c) :: acc))) else pure (ForInStep.yield acc)) →
   ∀ (l:List (Str × NameKind)) (acc:List (Str × Addr)),(∀ y∈l,y.2=.free→∃ c,env.cells.lookup y.1=some c)→(∀ x c,acc.lookup x=some c→env.cells.lookup x=some c) →
   ∃ cl,(forIn l acc body:Sem (List (Str × Addr)))=pure cl∧(∀ x c,cl.lookup x=some c→env.cells.lookup x=some c)∧(∀ y∈l,y.2=.free→∃ c,cl.lookup y.1=some c)∧∀ x c,acc.lookup x=some c→∃ c',cl.lookup x=some c':=by
  intro body hb l
  induction l with
  | nil =>
   intro acc _ ha
   exact ⟨acc,rfl,ha,fun y hy=>(nomatch hy),fun x c e=>⟨c,e⟩⟩
  | cons p r ih =>
   intro acc hl ha
   obtain ⟨n,k⟩:=p
   have hr:∀ y∈r,y.2=.free→∃ c,env.cells.lookup y.1=some c:=fun y hy=>hl y (List.mem_cons_of_mem _ hy)
   by_cases hk:k=.free
   ·subst hk
    obtain ⟨c,hc⟩:=hl (n,.free) List.mem_cons_self rfl
    have ha':∀ x d,((n,c) :: acc).lookup x=some d→env.cells.lookup x=some d:=fun x d e=>by
     rw [List.lookup_cons] at e
     cases hx:x == n with
     | true =>
      rw [hx] at e
      have e1:c=d:=Option.some.inj e
      subst e1
      rw [eq_of_beq hx]
      exact hc
     | false =>
      rw [hx] at e
      exact ha x d e
    obtain ⟨cl,e1,e2,e3,e4⟩:=ih ((n,c) :: acc) hr ha'
    refine ⟨cl,?_,e2,fun y hy hf=>?_,fun x d e=>?_⟩
    ·rw [List.forIn_cons,hb,if_pos (by rfl)]
     have ec:cellOf env n=pure c:=by
      unfold cellOf
      rw [hc]
     rw [ec]
     exact e1
    ·rcases List.mem_cons.mp hy with e | hy
     ·subst e
      exact e4 n c (by rw [List.lookup_cons,beq_self_eq_true])
     ·exact e3 y hy hf
    ·cases hx:x == n with
     | true=>exact e4 x c (by rw [List.lookup_cons,hx])
     | false=>exact e4 x d (by rw [List.lookup_cons,hx]; exact e)
   ·obtain ⟨cl,e1,e2,e3,e4⟩:=ih acc hr ha
    refine ⟨cl,?_,e2,fun y hy hf=>?_,e4⟩
    ·have hk':(k == NameKind.free)=false:=by simpa using hk
     rw [List.forIn_cons,hb,hk',if_neg Bool.false_ne_true]
     exact e1
    ·rcases List.mem_cons.mp hy with e | hy
     ·subst e
      exact absurd hf hk
     ·exact e3 y hy hf
 obtain ⟨cl,e1,e2,e3,_⟩:=key (fun p acc=>if (p.2 == .free)=true then (cellOf env p.1 >>= fun c=>pure (ForInStep.yield ((p.1,c) :: acc))) else pure (ForInStep.yield acc)) (fun n k acc=>rfl) csc.names [] h (fun x c e=>by simp at e)
 refine ⟨cl,?_,e2,e3⟩
 have e4:closureFor csc env=(forIn csc.names [] (fun p acc=>if (p.2 == .free)=true then (cellOf env p.1 >>= fun c=>pure (ForInStep.yield ((p.1,c) :: acc))) else pure (ForInStep.yield acc)) >>= fun cs=>pure cs):=rfl
 rw [e4,e1]
 rfl
structure CompScope (sc:Scope) (N NB M:List Str) (csc:Scope):Prop where
 kind:csc.kind=.function
 nocell:∀ y∈csc.names,y.2≠.cell
 locs:∀ y∈csc.names,y.2=.local→csc.names.lookup y.1=some .local
 free:∀ y∈csc.names,y.2=.free→sc.names.lookup y.1=some .cell∨sc.names.lookup y.1=some .free
 nd:NB.Nodup
 len:NB.length=N.length+M.length
 old:∀ p∈N.zip NB,csc.names.lookup p.2≠some .local∧(csc.names.lookup p.2=none∨p.1=p.2)
theorem CompScope.at {sc:Scope} {N NB M:List Str} {csc:Scope} (S:CompScope sc N NB M csc) {i:Nat} {x:Str} (e:NB[i]?=some x) (hi:i < N.length):csc.names.lookup x≠some .local∧(csc.names.lookup x≠none→N[i]?=some x):=by
 have e1:N[i]?=some N[i]:=List.getElem?_eq_getElem hi
 have hm:(N[i],x)∈N.zip NB:=by
  apply List.mem_of_getElem? (i:=i)
  rw [List.getElem?_zip_eq_some]
  exact ⟨e1,e⟩
 obtain ⟨h1,h2⟩:=S.old _ hm
 refine ⟨h1,fun hn=>?_⟩
 rcases h2 with h2 | h2
 ·exact absurd h2 hn
 ·rw [e1]
  exact congrArg some h2
def cxC (X:Cx) (NB:List Str) (csc:Scope) (cl:List (Str × Addr)) (C:Addr) (s₀:Shared) (H₀:Hp) (fp:List Addr) (pn:List (Addr × Obj)):Cx where
 prog:=X.prog
 w:=X.w
 K:=X.K
 mg:=X.mg
 base:=X.base
 A:=X.A
 N:=NB
 s₀:=s₀
 H₀:=H₀
 env:=compEnvC csc cl C X.env
 outer:=X.stack
 stack:=X.stack
 ex:=fp
 fn:=fun _=>false
 calm:=X.calm
 pn:=pn
 xe:=fun _ _=>False
section
variable {X:Cx} {pins:List (Addr × Obj)} {σ:St} {H₀:Hp} {s₀:Shared} {NB M:List Str} {csc:Scope} {cl:List (Str × Addr)} {fp:List Addr}
theorem comp_start {h₁:Heap} {tk:Nat} {m:Str→Option Value} (S:CompScope X.env.scope X.N NB M csc) (I:Inv X pins σ H₀ s₀) (hf:∀ b∈fp,FpOk X pins H₀ b) (hlt:∀ b∈fp,b < s₀.heap.objs.size)
  (c1:∀ x c,cl.lookup x=some c→X.env.cells.lookup x=some c) (c2:∀ y∈csc.names,y.2=.free→∃ c,cl.lookup y.1=some c)
  (hn:h₁.Ns s₀.heap.objs.size m) (hk:∀ b o,s₀.heap.get? b=some o→h₁.get? b=some o) :
  Inv (cxC X NB csc cl s₀.heap.objs.size s₀ H₀ fp (X.pn++pins)) [] (σ++List.replicate M.length none) H₀ { s₀ with heap:=h₁,toks:=tk }:=by
 have kindB:∀ x,((relabel csc X.env).names.lookup x=some .cell∨(relabel csc X.env).names.lookup x=some .free)→csc.names.lookup x=some .free:=fun x hx=>by
  rcases hx with hx | hx
  ·rcases lookup_relabel hx with z | ⟨z,_⟩
   ·exact absurd rfl (S.nocell _ (PySem.mem_of_lookup z))
   ·exact z
  ·rcases lookup_relabel hx with z | ⟨z,_⟩
   ·exact z
   ·exact z
 have hasC:∀ x,csc.names.lookup x=some .free→∃ c,cl.lookup x=some c:=fun x hx=>c2 (x,.free) (PySem.mem_of_lookup hx) rfl
 refine ⟨⟨I.ok.mod,S.kind,I.ok.glob,I.ok.blt,Nat.le_refl _,fun x y c h1 h2=>I.ok.inj x y c (c1 x c h1) (c1 y c h2),fun x hx=>hasC x (kindB x hx),fun x c h _=>absurd h Bool.false_ne_true,I.ok.hd,I.ok.frames,.inl rfl,
   fun b hb=>⟨Nat.ne_of_lt (hlt b hb),fun x c e=>(hf b hb).2.2.2.2.1 x c (c1 x c e)⟩,I.bs,Nat.le_trans I.ok.bsz I.sz,fun b o e hb=>?_,fun b hb z=>?_,I.stack,I.stkFree⟩,
  rfl,I.bare,Un.kept hk,⟨m,hn,fun i x v e1 e2 e3=>?_⟩,fun x c e=>?_,I.fresh,fun x c e=>I.freeC x c (c1 x c e),fun p hp=>?_,I.hok.kept hk,?_⟩
 ·rcases (hf b hb).2.2.2.1 with z | z
  ·exact I.ok.noex b o e z
  ·exact absurd (Nat.lt_of_lt_of_le (Heap.lt_size e) (Nat.le_trans I.ok.bsz z)) (Nat.lt_irrefl _)
 ·rcases List.mem_cons.mp (I.stkSub b z) with e | e
  ·exact (hf b hb).2.1 e
  ·exact (hf b hb).2.2.1 e
 ·have hlen:=I.len
  have hi:i < X.N.length:=by
   apply Classical.byContradiction
   intro hi
   rw [List.getElem?_append_right (by lia),List.getElem?_replicate] at e2
   split at e2 <;> cases e2
  have e2':σ[i]?=some (some v):=by
   rw [List.getElem?_append_left (by lia)] at e2
   exact e2
  obtain ⟨nl,hN⟩:=S.at e1 hi
  have hfree:csc.names.lookup x=some .free:=by
   rcases e3 with z | z
   ·rcases lookup_relabel (show (relabel csc X.env).names.lookup x=some .local from z) with q | ⟨_,q⟩
    ·exact absurd q nl
    ·cases q
   ·exact kindB x z
  have hN':=hN (by rw [hfree]; intro z; cases z)
  have ok:=S.free (x,.free) (PySem.mem_of_lookup hfree) rfl
  obtain ⟨m',hn',hl⟩:=I.loc
  obtain ⟨u,r,l⟩:=hl i x v hN' e2' (.inr ok)
  rcases l with ⟨k,_⟩ | ⟨_,c,hc,hcell⟩
  ·have k':X.env.scope.names.lookup x=some .local:=k
   rcases ok with z | z
   ·rw [show X.env.scope.names.lookup x=some .cell from z] at k'
    cases k'
   ·rw [show X.env.scope.names.lookup x=some .free from z] at k'
    cases k'
  ·obtain ⟨c',hc'⟩:=hasC x hfree
   have ec:c'=c:=by
    have:=c1 x c' hc'
    rw [hc] at this
    exact (Option.some.inj this).symm
   subst ec
   obtain ⟨o,ho,hd⟩:=hcell
   refine ⟨u,r,.inr ⟨?_,c',hc',o,hk _ _ ho,hd⟩⟩
   rcases e3 with z | z
   ·rcases lookup_relabel (show (relabel csc X.env).names.lookup x=some .local from z) with q | ⟨_,q⟩
    ·exact absurd q nl
    ·cases q
   ·exact z
 ·obtain ⟨v,o,ho,hd⟩:=I.cell x c (c1 x c e)
  exact ⟨v,o,hk _ _ ho,hd⟩
 ·have hp':p∈(X.pn++pins)++[]:=hp
  rw [List.append_nil] at hp'
  obtain ⟨e,n,ne,nf,d⟩:=I.pin p hp'
  exact ⟨hk _ _ e,n,Nat.ne_of_lt (Heap.lt_size e),fun z=>(List.mem_cons.mp (I.stkSub _ z)).elim ne nf,d⟩
 ·rw [List.length_append,List.length_replicate,I.len]
  exact S.len.symm
theorem comp_end {τ:St} {H:Hp} {s:Shared} {pins':List (Addr × Obj)} (I:Inv X pins σ H₀ s₀) (hf:∀ b∈fp,FpOk X pins H₀ b) (B:Inv (cxC X NB csc cl s₀.heap.objs.size s₀ H₀ fp (X.pn++pins)) pins' τ H s) :
  Inv X pins σ H s∧FpOk X pins H s₀.heap.objs.size :=
 ⟨I.call' (ch:=fp) B.os B.base B.hok B.bare fun b hb=>⟨(hf b hb).2.2.2.1,(hf b hb).2.1,(hf b hb).2.2.2.2.1,(hf b hb).2.2.2.2.2⟩,I.fpOk (Nat.le_refl _) B.free⟩
end
theorem codeAny_compLoop_own {prog:Program} {w:World} {A:Around} {R:Result→Shared→Prop} {s:Shared} {elt target iter:Expr} {ifs:List Expr} {scope:Scope} {pos:Pos} {it acc:Value} {env:Env} (I:Nat→Shared→Prop)
  (turn:∀ n s,I n s→wpAny (model prog w) A (pyNext it) (fun r s₁=>match r with
   | none=>R (.ok .next) s₁
   | some v=>wpAny (model prog w) A (letOwnedTupleGo target it v) (fun _ s₁'=>wpAny (model prog w) A (assign target env v) (fun _ s₂ =>
     wpAny (model prog w) A (forIn ifs true fun c r=>if r=true then do let ok ← isTrue c env (eval c env); pure (ForInStep.yield ok) else pure (ForInStep.yield r)) (fun ok s₃ =>
      if ok=true then wpAny (model prog w) A (eval elt env) (fun x s₄ =>
       wpAny (model prog w) A (call (.builtin "list.append") [acc,x]) (fun _ s₅=>∃ m,m < n∧I m s₅) (notedBy (model prog w) A env fun e s'=>R (.error e) s') s₄) (notedBy (model prog w) A env fun e s'=>R (.error e) s') s₃
      else ∃ m,m < n∧I m s₃) (notedBy (model prog w) A env fun e s'=>R (.error e) s') s₂) (notedBy (model prog w) A env fun e s'=>R (.error e) s') s₁') (notedBy (model prog w) A env fun e s'=>R (.error e) s') s₁)
    (notedBy (model prog w) A env fun e s'=>R (.error e) s') s)
  (n:Nat) (h:I n s):codeAny (model prog w) A (.compLoop (.ListComp elt [⟨target,iter,ifs,0⟩] scope pos) 0 it acc env) R s:=by
 refine codeAny_loop rfl I (fun n s hI=>?_) n h
 show wpAny _ A ((compTurn (.ListComp elt [⟨target,iter,ifs,0⟩] scope pos) 0 it acc env).onRaise (fun x=>do noteFrame x env; theTreesLotGoes x)) _ _ s
 refine wpAny_noted ?_
 rw [compTurn_list]
 refine wpAny_bind (wpAny_standAt (wpAny_bind (wpAny_mono (turn n s hI) (fun r s₁ h₁=>?_) fun _ _ h'=>h')))
 cases r with
 | none=>exact wpAny_pure h₁
 | some v =>
  refine wpAny_bind (wpAny_mono h₁ (fun _ s₁' h₁'=>?_) fun _ _ h'=>h')
  refine wpAny_bind (wpAny_mono h₁' (fun _ s₂ h₂=>wpAny_bind (wpAny_mono h₂ (fun ok s₃ h₃=>?_) fun _ _ h'=>h')) fun _ _ h'=>h')
  cases ok with
  | false=>exact wpAny_pure ⟨rfl,h₃⟩
  | true =>
   exact wpAny_bind (wpAny_bind (wpAny_mono h₃ (fun x s₄ h₄=>wpAny_bind (wpAny_mono h₄ (fun _ s₅ h₅=>wpAny_pure (wpAny_pure ⟨rfl,h₅⟩)) fun _ _ h'=>h')) fun _ _ h'=>h'))
abbrev TF:=St→Hp→(Hp→Prop)→(Hp→Prop)→Prop
def PF (X:Cx) (ifs:List Expr) (t:TF):Prop :=
 ∀ (pins:List (Addr × Obj)) (s:Shared) (σ:St) (H:Hp) (Y N:Hp→Prop),Inv X pins σ H s→t σ H Y N →
  wpAny (model X.prog X.w) X.A (forIn ifs true fun c r=>if r=true then do let ok ← isTrue c X.env (eval c X.env); pure (ForInStep.yield ok) else pure (ForInStep.yield r)) (fun b s'=>∃ H',Inv X pins σ H' s'∧if b=true then Y H' else N H') X.xe s
def fNil:TF:=fun _ H Y _=>Y H
theorem pif_nil {X:Cx}:PF X [] fNil:=fun _ _ _ H _ _ I h=>wpAny_tests_nil ⟨H,I,iteT h⟩
def tComp (wi:TI) (g:TG) (ti:TF) (te:TE) (k:Nat):TE:=fun σ H Q=>wi σ H fun J H1=>∀ p,H1 p=none→∃ W:Nat→Nat→St→List V→Hp→Prop,(∃ m,W 0 m (σ++List.replicate k none) [] (upd H1 p (.lst [])))∧∀ i m τ xs H,W i m τ xs H →
 (J.stop i H∧Q (.ref p) H)∨(J.go i H∧∀ x H',J.yld i H x H'→g x τ H' fun τ2 H2=>ti τ2 H2 (fun H3=>te τ2 H3 fun v H4=>H4 p=some (.lst xs)∧xs.length < sizeLine∧∃ m',m' < m∧W (i+1) m' τ2 (xs++[v]) (upd H4 p (.lst (xs++[v]))))
  (fun H3=>∃ m',m' < m∧W (i+1) m' τ2 xs H3))
def PCp (X:Cx) (e:Expr) (t:TE):Prop:=∃ elt tg iter ifs csc pos,e=.ListComp elt [⟨tg,iter,ifs,0⟩] csc pos ∧
 ∀ (ppos:Pos) (use:Option (Value→Sem Unit)) (R:Value→Shared→Prop) (pins:List (Addr × Obj)) (s:Shared) (σ:St) (H:Hp) (Q:VK),Inv X pins σ H s→t σ H Q →
  (∀ (D C:Addr) (s':Shared) (H':Hp),Inv X pins σ H' s'→FpOk X pins H' C→(∃ m,s'.heap.Ns C m)→Q (.ref D) H'→compPost (model X.prog X.w) X.A X.xe use R (.ref D) C (.ok .next) s') →
  wpAny (model X.prog X.w) X.A (comprehension (.ListComp elt [⟨tg,iter,ifs,0⟩] csc pos) csc X.env ppos (newList []) false (eval iter X.env) use) R X.xe s
section
variable {X:Cx}
theorem pc_comp {tg iter elt:Expr} {ifs:List Expr} {csc:Scope} {pos:Pos} {NB M:List Str} {wi:TI} {g:TG} {ti:TF} {te:TE} (hi:PI X tg iter wi) (hc:X.calm=true) (S:CompScope X.env.scope X.N NB M csc)
  (hg:∀ cl C s₀ H₀ fp pn,PG (cxC X NB csc cl C s₀ H₀ fp pn) tg g) (hf:∀ cl C s₀ H₀ fp pn,PF (cxC X NB csc cl C s₀ H₀ fp pn) ifs ti) (he:∀ cl C s₀ H₀ fp pn,PE (cxC X NB csc cl C s₀ H₀ fp pn) elt te)
  (hs:∀ x,foldedSetIterable iter X.env x=pure x:=by intro _; rfl):PCp X (.ListComp elt [⟨tg,iter,ifs,0⟩] csc pos) (tComp wi g ti te M.length):=by
 refine ⟨elt,tg,iter,ifs,csc,pos,rfl,fun ppos use R pins s σ H Q I h fin=>?_⟩
 have hcell:∀ y∈csc.names,y.2=.free→∃ c,X.env.cells.lookup y.1=some c:=fun y hy hfr=>I.ok.has y.1 (S.free y hy hfr)
 obtain ⟨cl,hcl,c1,c2⟩:=closure_of hcell
 refine wpAny_comprehension_free rfl hs hcl S.kind S.locs ?_
 refine thn (hi pins s σ H _ I h) fun v s1 h1=>thn h1 fun itv s2 h2=>?_
 obtain ⟨it,fp,tn,J,H2,e,I2,T,st2,f2,h2⟩:=h2
 subst e
 have hlt2:∀ b∈fp,b < s2.heap.objs.size:=fun b hb=>let ⟨_,e,_⟩:=T.obj _ _ st2 b hb; Heap.lt_size e
 refine wpAny_newObj_type (wpAny_newFunctionEnv S.nocell (by intro y hy; simp at hy) (fun h₁ hns₁ hsb₁=>?_) S.kind)
 dsimp only at hns₁ hsb₁ ⊢
 have I0:Inv X pins σ (upd H2 s2.heap.objs.size (.lst [])) { s2 with heap:=s2.heap.push { cls:=.type "list",dict:=none,data:=.seq ([]:List Value).toArray } }:=I2.lnew (its:=[]) (t':=s2.toks) .nil (Nat.zero_le _)
 generalize hs0:({ s2 with heap:=s2.heap.push { cls:=.type "list",dict:=none,data:=.seq ([]:List Value).toArray } }:Shared)=s₀ at I0
 have hh:s2.heap.push { cls:=.type "list",dict:=none,data:=.seq ([]:List Value).toArray }=s₀.heap:=by rw [← hs0]
 rw [hh] at hns₁ hsb₁ ⊢
 have hsz:s2.heap.objs.size < s₀.heap.objs.size:=by rw [← hh,Heap.size_push]; exact Nat.lt_succ_self _
 have hDn:H2 s2.heap.objs.size=none:=I2.fresh
 have f0:∀ b∈fp,FpOk X pins (upd H2 s2.heap.objs.size (.lst [])) b:=fun b hb=>⟨by rw [upd_ne (Nat.ne_of_lt (hlt2 b hb))]; exact (f2 b hb).1,(f2 b hb).2⟩
 have hlt:∀ b∈fp,b < s₀.heap.objs.size:=fun b hb=>Nat.lt_trans (hlt2 b hb) hsz
 have hk:∀ b o,s₀.heap.get? b=some o→h₁.get? b=some o:=fun b o e=>hsb₁.extBut b o (Nat.ne_of_lt (Heap.lt_size e)) (Heap.get?_push_of_some _ e)
 have hk2:∀ b o,s2.heap.get? b=some o→h₁.get? b=some o:=fun b o e=>hk b o (by rw [← hh]; exact Heap.get?_push_of_some _ e)
 have st1:tn 0 h₁:=T.keep _ _ _ st2 fun b _ o e=>hk2 b o e
 obtain ⟨W,⟨m0,w0⟩,turn⟩:=h2 s2.heap.objs.size hDn
 have loop:∀ s₃:Shared,s₃={ s₀ with heap:=h₁,toks:=s2.toks+([]:List (Str × Value)).length } →
   codeAny (model X.prog X.w) X.A (.compLoop (.ListComp elt [⟨tg,iter,ifs,0⟩] csc pos) 0 (.ref it) (.ref s2.heap.objs.size) (compEnvC csc cl s₀.heap.objs.size X.env))
    (compPost (model X.prog X.w) X.A X.xe use R (.ref s2.heap.objs.size) s₀.heap.objs.size) s₃:=by
  rintro s₃ rfl
  have B0:=comp_start (cl:=cl) (tk:=s2.toks+([]:List (Str × Value)).length) S I0 f0 hlt c1 c2 hns₁ hk
  have fpB:∀ {H':Hp},(∀ b∈fp,H' b=none)→∀ b∈fp,FpOk (cxC X NB csc cl s₀.heap.objs.size s₀ (upd H2 s2.heap.objs.size (.lst [])) fp (X.pn++pins)) [] H' b:=fun {H'} hn b hb =>
   ⟨hn b hb,Nat.ne_of_lt (hlt b hb),B0.ok.exfs b hb,.inl hb,fun x c e=>(f0 b hb).2.2.2.2.1 x c (c1 x c e),fun p hp=>(f0 b hb).2.2.2.2.2 p (by
    have hp':p∈(X.pn++pins)++[]:=hp
    rw [List.append_nil] at hp'
    exact hp')⟩
  refine codeAny_compLoop_own (fun n s'=>∃ i τ xs H',Inv (cxC X NB csc cl s₀.heap.objs.size s₀ (upd H2 s2.heap.objs.size (.lst [])) fp (X.pn++pins)) [] τ H' s'∧tn i s'.heap∧(∀ b∈fp,H' b=none)∧W i n τ xs H') ?_ m0
   ⟨0,_,[],_,B0,st1,fun b hb=>(f0 b hb).1,w0⟩
  rintro n s3 ⟨i,τ,xs,H3,I3,st3,fr3,w3⟩
  rcases turn i n τ xs H3 w3 with ⟨stop,q⟩ | ⟨go,step⟩
  ·refine thn (T.done (cxC X NB csc cl s₀.heap.objs.size s₀ (upd H2 s2.heap.objs.size (.lst [])) fp (X.pn++pins)) rfl rfl rfl hc i [] s3 τ H3 _ I3 (fpB fr3) st3 stop) fun r s4 ⟨hr,I4⟩=>?_
   subst hr
   obtain ⟨IX,fpC⟩:=comp_end I0 f0 I4
   exact fin _ _ s4 H3 IX fpC (let ⟨m,hn,_⟩:=I4.loc; ⟨m,hn⟩) q
  ·refine thn (T.item (cxC X NB csc cl s₀.heap.objs.size s₀ (upd H2 s2.heap.objs.size (.lst [])) fp (X.pn++pins)) rfl rfl rfl hc i [] s3 τ H3 _ I3 (fpB fr3) st3 go) fun r s4 ⟨u,hr,h4⟩=>?_
   subst hr
   refine thn h4 fun _ s5 ⟨x,H5,I5,r5,y5,st5,fr5⟩=>?_
   have I5':=I5.pinned (fpB fr5) (T.obj _ _ st5)
   refine wpAny_mono (hg _ _ _ _ _ _ _ s5 τ H5 x u _ I5' r5 (step x H5 y5)) (fun _ s6 ⟨τ6,H6,I6,q6⟩=>?_) fun _ _ z=>False.elim z
   refine wpAny_mono (hf _ _ _ _ _ _ _ s6 τ6 H6 _ _ I6 q6) (fun b s7 ⟨H7,I7,q7⟩=>?_) fun _ _ z=>False.elim z
   have again:∀ {τ7:St} {H7:Hp} {s7:Shared} {ys:List V},Inv (cxC X NB csc cl s₀.heap.objs.size s₀ (upd H2 s2.heap.objs.size (.lst [])) fp (X.pn++pins)) ([]++pinsAt fp s5.heap) τ7 H7 s7→(∃ m',m' < n∧W (i+1) m' τ7 ys H7) →
     ∃ m,m < n∧∃ i τ xs H',Inv (cxC X NB csc cl s₀.heap.objs.size s₀ (upd H2 s2.heap.objs.size (.lst [])) fp (X.pn++pins)) [] τ H' s7∧tn i s7.heap∧(∀ b∈fp,H' b=none)∧W i m τ xs H':=fun {τ7 H7 s7 ys} I7 w7=>by
    obtain ⟨m',hm,w7⟩:=w7
    refine ⟨m',hm,i+1,τ7,ys,H7,I7.unpinned,T.keep _ _ _ st5 fun b hb o e=>(I7.pin (b,o) (List.mem_append_right _ (List.mem_append_right _ (mem_pinsAt hb e)))).1,fun b hb=>?_,w7⟩
    obtain ⟨o,e,d⟩:=T.obj _ _ st5 b hb
    exact (I7.pin (b,o) (List.mem_append_right _ (List.mem_append_right _ (mem_pinsAt hb e)))).2.1
   cases b with
   | false=>exact again I7 q7
   | true =>
    have q7':te τ6 H7 _:=q7
    refine wpAny_mono (he _ _ _ _ _ _ _ s7 τ6 H7 _ I7 q7') (fun y s8 ⟨v8,H8,I8,r8,hl8,hz8,w8⟩=>?_) fun _ _ z=>False.elim z
    refine wpAny_mono (mt_append (X:=(cxC X NB csc cl s₀.heap.objs.size s₀ (upd H2 s2.heap.objs.size (.lst [])) fp (X.pn++pins))) _ s8 τ6 H8 (.ref s2.heap.objs.size) [v8] (.ref s2.heap.objs.size) [y] (fun _ H9=>H9=upd H8 s2.heap.objs.size (.lst (xs++[v8]))) I8 rfl (.cons r8 .nil) ⟨_,xs,v8,rfl,rfl,hl8,hz8,rfl⟩) (fun _ s9 ⟨_,H9,I9,_,e9⟩=>?_) fun _ _ z=>False.elim z
    subst e9
    exact again I9 w8
 exact codeAny_compStart_list (loop _ (by rw [← hs0])) (T.self _ _ _ _ _ st1 (loop _ (by rw [← hs0])))
theorem PCp.pe {e:Expr} {t:TE} (h:PCp X e t):PE X e t:=by
 obtain ⟨elt,tg,iter,ifs,csc,pos,rfl,h⟩:=h
 intro pins s σ H Q I hw
 rw [eval_ListComp]
 refine h _ none (EP X pins σ Q) pins s σ H Q I hw fun D C s' H' IX fpC ⟨m,hn⟩ q=>⟨m,hn,fun h' hs=>?_⟩
 exact ⟨.ref D,H',IX.turned (t':=s'.toks) (fun b o hb e=>(hs.2 b hb).trans e) fpC.1 fpC.2.1 fpC.2.2.2.1 fpC.2.2.2.2.1 fpC.2.2.2.2.2,rfl,q⟩
theorem ps_setC {i:Nat} {x:Str} {e:Expr} {te:TE} {pos' pos:Pos} (hN:X.N.Nodup) (hi:X.N[i]?=some x) (hx:Loc X.env.scope x) (he:PCp X e te) (hsw:swapsWith e (some (.Name x pos')) pos.line X.env=pure true:=by rfl)
  (hf:X.fn x=true∨X.env.scope.names.lookup x=some .local:=by first | exact .inl rfl | exact .inr rfl | assumption):PS X (.Assign [.Name x pos'] e pos) (tAsg te (gName i)):=by
 obtain ⟨elt,tg,iter,ifs,csc,cpos,rfl,h⟩:=he
 intro pins s σ H D I hw
 rw [exec_Assign_Name_used _ _ _ _ hsw]
 refine wpAny_bind (wpAny_standAt (wpAny_bind ?_))
 show wpAny _ X.A (do let _ ← comprehension (.ListComp elt [⟨tg,iter,ifs,0⟩] csc cpos) csc X.env _ (newList []) false (eval iter X.env) (some (assign (.Name x pos') X.env))) _ _ s
 refine wpAny_bind (wpAny_mono (h _ (some (assign (.Name x pos') X.env)) (fun _ s'=>SP X pins D .next s') pins s σ H _ I hw ?_) (fun _ s' hq=>wpAny_pure (wpAny_pure hq)) fun _ _ e=>e)
 intro Dl C s' H' IX fpC ⟨m,hn⟩ q
 show wpAny _ X.A (assign (.Name x pos') X.env (.ref Dl)) _ _ s'
 refine wpAny_assign_Name (store_ok2 IX hN hi hx (v:=.ref Dl) rfl (fun s2 I2 ⟨a,sb,ha⟩=>?_) hf)
 have hne:C≠a:=by
  rcases ha with e | e
  ·rw [e]
   exact fpC.2.1
  ·exact Ne.symm (fpC.2.2.2.2.1 x a e)
 refine ⟨m,hn.sameBut sb hne,fun h' hs=>?_⟩
 exact ⟨_,H',I2.turned (t':=s2.toks) (fun b o hb e=>(hs.2 b hb).trans e) fpC.1 fpC.2.1 fpC.2.2.2.1 fpC.2.2.2.2.1 fpC.2.2.2.2.2,q⟩
end
end L2
namespace L2
open PySem PySem.Spec PyProof.Rows
structure QE (X:Cx) (e:Expr) (t:TE):Prop where
 u:PE X e t
structure QT (X:Cx) (e:Expr) (t:TT):Prop where
 u:PT X e t
structure QW (X:Cx) (e:Expr) (t:TT):Prop where
 u:PW X e t
structure QA (X:Cx) (es:List Expr) (t:TA):Prop where
 u:PA X es t
structure QS (X:Cx) (st:Stmt) (t:TS):Prop where
 u:PS X st t
structure QSs (X:Cx) (st:List Stmt) (t:TS):Prop where
 u:PSs X st t
structure QI (X:Cx) (tg iter:Expr) (t:TI):Prop where
 u:PI X tg iter t
structure QG (X:Cx) (tg:Expr) (t:TG):Prop where
 u:PG X tg t
structure QGs (X:Cx) (ts:List Expr) (t:TGs):Prop where
 u:PGs X ts t
structure QO (X:Cx) (e:Option Expr) (t:TO):Prop where
 u:PO X e t
structure QF (X:Cx) (ifs:List Expr) (t:TF):Prop where
 u:PF X ifs t
structure QC (X:Cx) (e:Expr) (t:TE):Prop where
 u:PCp X e t
section
variable {X:Cx} {st:Stmt} {rest:List Stmt} {t u:TS} {a b c e o i:Expr} {ta tb tc te to ti:TE} {es:List Expr} {tA:TA} {tT tU:TT} {pos pos' p p2 apos cpos:Pos} {x name:Str} {n:Nat}
theorem qss_nil:QSs X [] tNext:=⟨pss_nil⟩
theorem qss_one (h:QS X st t):QSs X [st] t:=⟨pss_one h.u⟩
theorem qss_cons (h:QS X st t) (r:QSs X rest u):QSs X (st :: rest) (tSeq t u):=⟨pss_cons h.u r.u⟩
theorem qs_expr (h:QE X e te) (hs:swapsWith e none pos.line X.env=pure false:=by rfl):QS X (.Expr e pos) (tDrop te):=⟨ps_expr h.u hs⟩
theorem qs_ret (h:QE X e te):QS X (.Return (some e) pos) (tRet te):=⟨ps_ret h.u⟩
theorem qs_if {a b:List Stmt} (hc:QT X c tT) (ha:QSs X a t) (hb:QSs X b u):QS X (.If c a b pos) (tIfS tT t u):=⟨ps_if hc.u ha.u hb.u⟩
theorem qs_set {i:Nat} (hN:X.N.Nodup) (hi:X.N[i]?=some x) (hx:Loc X.env.scope x) (h:QE X e te) (hs:swapsWith e (some (.Name x pos')) pos.line X.env=pure false:=by rfl)
  (hf:X.fn x=true∨X.env.scope.names.lookup x=some .local:=by first | exact .inl rfl | exact .inr rfl | assumption):QS X (.Assign [.Name x pos'] e pos) (tAsg te (gName i)):=⟨ps_set hN hi hx h.u hs hf⟩
theorem qs_setC {i:Nat} (hN:X.N.Nodup) (hi:X.N[i]?=some x) (hx:Loc X.env.scope x) (h:QC X e te) (hs:swapsWith e (some (.Name x pos')) pos.line X.env=pure true:=by rfl)
  (hf:X.fn x=true∨X.env.scope.names.lookup x=some .local:=by first | exact .inl rfl | exact .inr rfl | assumption):QS X (.Assign [.Name x pos'] e pos) (tAsg te (gName i)):=⟨ps_setC hN hi hx h.u hs hf⟩
theorem qs_asg {tg:Expr} {g:TG} (h:QE X e te) (hg:QG X tg g) (hs:swapsWithSole [tg] e pos.line X.env=pure false:=by rfl) (hw:swappedStores [tg] e X.env=pure none:=by rfl)
  (h1:(assignEach [tg] X.env).map (·.2)=[assign tg X.env]:=by rfl):QS X (.Assign [tg] e pos) (tAsg te g):=⟨ps_asg h.u hg.u hs hw h1⟩
theorem qs_for {tg iter:Expr} {body:List Stmt} {wi:TI} {g:TG} (hp:PassesOwn (model X.prog X.w) X.A X.env X.xe) (hc:X.calm=true) (hi:QI X tg iter wi) (hg:QG X tg g) (hb:QSs X body t)
  (hs:∀ x,foldedSetIterable iter X.env x=pure x:=by intro _; rfl):QS X (.For tg iter body [] pos) (tFor wi g t):=⟨ps_for hp hc hi.u hg.u hb.u hs⟩
theorem qe_int {k:Int} {j:Nat}:QE X (.Constant (.int k) j pos) (tC (.int k)):=⟨pe_int⟩
theorem qe_bl {k:Bool} {j:Nat}:QE X (.Constant (.bool k) j pos) (tC (.bl k)):=⟨pe_bl⟩
theorem qe_non {j:Nat}:QE X (.Constant .none j pos) (tC .non):=⟨pe_non⟩
theorem qe_str {z:Str} {j:Nat}:QE X (.Constant (.str z) j pos) (tC (.str z)):=⟨pe_str⟩
theorem qv (i:Nat) (hN:X.N[i]?=some x:=by rfl) (hv:Vis X.env.scope x:=by first | exact Or.inl rfl | exact Or.inr (Or.inl rfl) | exact Or.inr (Or.inr rfl)) (hd:(x == ("__debug__" : Str))=false:=by decide)
  (hcd:(x == ("__classdict__" : Str))=false:=by decide):QE X (.Name x pos) (tVar i):=⟨pe_var hN hv hd hcd⟩
theorem qe_bltn {v:V} {w:Value} (hg:Gl X x) (hm:X.mg x=none) (hv:bootBuiltins x=some w) (r:RelV v w) (hn:x≠"__name__" := by decide) (hd:(x == ("__debug__" : Str))=false:=by decide):QE X (.Name x pos) (tC v):=⟨pe_bltn hg hm hv r hn hd⟩
theorem qe_op {op:Operator} {r:R2} (ho:OpR X (binaryOp op) r) (ha:QE X a ta) (hb:QE X b tb):QE X (.BinOp a op b pos) (tOp r ta tb):=⟨pe_op ho ha.u hb.u⟩
theorem qe_un {op:UnaryOp} {r:V→Hp→VK→Prop} (ho:UnR X (unaryOp op) r) (ha:QE X a ta):QE X (.UnaryOp op a pos) (tUn r ta):=⟨pe_un ho ha.u⟩
theorem qe_cmpR {op:CmpOp} {r:R2} (ho:OpR X (compareOp op) r) (ha:QE X a ta) (hb:QE X b tb) (hm:behindInMarks op b=false):QE X (.Compare a [op] [b] pos) (tOp r ta tb):=⟨pe_cmpR ho ha.u hb.u hm⟩
theorem qe_one {op:BoolOp} (h:QE X a ta):QE X (.BoolOp op [a] pos) ta:=⟨pe_one h.u⟩
theorem qe_and (ha:QE X a ta) (hb:QE X (.BoolOp .And (b :: es) pos) tb):QE X (.BoolOp .And (a :: b :: es) pos) (tAndV ta tb):=⟨pe_and ha.u hb.u⟩
theorem qe_or (ha:QE X a ta) (hb:QE X (.BoolOp .Or (b :: es) pos) tb):QE X (.BoolOp .Or (a :: b :: es) pos) (tOrV ta tb):=⟨pe_or ha.u hb.u⟩
theorem qe_not (ha:QE X a ta):QE X (.UnaryOp .Not a pos) (tNotV ta):=⟨pe_not ha.u⟩
theorem qe_ifExp (hc:QT X c tT) (ha:QE X a ta) (hb:QE X b tb):QE X (.IfExp c a b pos) (tIf tT ta tb):=⟨pe_ifExp hc.u ha.u hb.u⟩
theorem qe_tup {k:Nat} (h:QA X es tA):QE X (.Tuple es k pos) (tTup tA):=⟨pe_tup h.u⟩
theorem qe_lst (h:QA X es tA):QE X (.List es pos) (tLst tA):=⟨pe_lst h.u⟩
theorem qe_slice {lo hi:Option Expr} {tl th:TO} {r:V→Option Int→Option Int→Hp→VK→Prop} (hr:SlR X r) (he:QE X e te) (hl:QO X lo tl) (hu:QO X hi th):QE X (.Subscript e (.Slice lo hi none p2) pos) (tSl r te tl th):=⟨pe_slice hr he.u hl.u hu.u⟩
theorem qe_ix {r:R2} (hr:IxR X r) (ha:QE X a ta) (hb:QE X b tb) (hs:PlainIx b):QE X (.Subscript a b pos) (tOp r ta tb):=⟨pe_ix hr ha.u hb.u hs⟩
theorem qo_none:QO X none tNoPart:=⟨po_none⟩
theorem qo_some (h:QE X e te):QO X (some e) (tPart te):=⟨po_some h.u⟩
theorem qa_nil:QA X [] tNil:=⟨pa_nil⟩
theorem qac (ha:QE X e te) (hr:QA X es tA) (hs:plainE e=true:=by rfl):QA X (e :: es) (tCons te tA):=⟨pac ha.u hr.u hs⟩
theorem qe_cal {k:Nat} {ps:List Str} {sp:Sp} (C:Cal X.prog X.w X.K X.mg X.base k x ps sp) (hr:Room k X.A) (hg:Gl X x) (ha:QA X (e :: es) tA) (hp:(e :: es).all plainE=true:=by rfl) (hdb:(x == ("__debug__" : Str))=false:=by decide) :
  QE X (.Call (.Name x p) (e :: es) [] pos) (tCall sp [] E0 tA):=⟨pe_cal C hr hg ha.u hp hdb⟩
theorem qcb {id:String} {r:List V→Hp→VK→Prop} (hc:CallR X (.builtin id) r) (hg:Gl X x) (hm:X.mg x=none) (hv:bootBuiltins x=some (.builtin id)) (ha:QA X (e :: es) tA) (hp:(e :: es).all plainE=true:=by rfl) (hn:x≠"__name__" := by decide)
  (hdb:(x == ("__debug__" : Str))=false:=by decide):QE X (.Call (.Name x p) (e :: es) [] pos) (tCB r tA):=⟨pcb hc hg hm hv ha.u hp hn hdb⟩
theorem qct {T:String} {r:List V→Hp→VK→Prop} (hc:CallR X (.type T) r) (hg:Gl X x) (hm:X.mg x=none) (hv:bootBuiltins x=some (.type T)) (ha:QA X (e :: es) tA) (hp:(e :: es).all plainE=true:=by rfl) (hn:x≠"__name__" := by decide)
  (hdb:(x == ("__debug__" : Str))=false:=by decide):QE X (.Call (.Name x p) (e :: es) [] pos) (tCB r tA):=⟨pct hc hg hm hv ha.u hp hn hdb⟩
theorem qbm {T id:String} {r:V→List V→Hp→VK→Prop} (pa:PlainAttrs T) (slot:Slot T name id) (hty:typeOf (.builtin id)=pure (.type "method_descriptor")) (hm:MtR X id r) (ho:QE X o to) (ha:QA X (e :: es) tA) (hp:(e :: es).all plainE=true:=by rfl)
  (hfew:decide ((e :: es).length < 30)=true:=by rfl) (hbase:attributeBase o name X.env (eval o X.env)=eval o X.env:=by rfl) (hline:(apos.endLine == cpos.line)=true:=by rfl) :
  QE X (.Call (.Attribute o name apos) (e :: es) [] cpos) (tBM X.K T r to tA):=⟨pbm pa slot hty hm ho.u ha.u hp hfew hbase hline⟩
theorem qt_cmpR {op:CmpOp} {r:R2} (ho:OpR X (compareOp op) r) (ha:QE X a ta) (hb:QE X b tb) (hm:behindInMarks op b=false):QT X (.Compare a [op] [b] pos) (tTest (tOp r ta tb)):=⟨pt_cmpR ho ha.u hb.u hm⟩
theorem qt_not (h:QT X a tT):QT X (.UnaryOp .Not a pos) (tNot tT):=⟨pt_not h.u⟩
theorem qt_val (h:QE X e te) (he:∀ whole,isTrue e X.env whole=(do let v ← whole; standAt e.pos; holding [v] (truthy v)):=by intro _; rfl):QT X e (tB te):=⟨pt_val h.u he⟩
theorem qw_and1 (h:QT X a tT):QW X (.BoolOp .And [a] pos) tT:=⟨pw_and1 h.u⟩
theorem qw_or1 (h:QT X a tT):QW X (.BoolOp .Or [a] pos) tT:=⟨pw_or1 h.u⟩
theorem qw_and (ha:QT X a tT) (hb:QW X (.BoolOp .And (b :: es) pos) tU):QW X (.BoolOp .And (a :: b :: es) pos) (tAnd tT tU):=⟨pw_and ha.u hb.u⟩
theorem qw_or (ha:QT X a tT) (hb:QW X (.BoolOp .Or (b :: es) pos) tU):QW X (.BoolOp .Or (a :: b :: es) pos) (tOr tT tU):=⟨pw_or ha.u hb.u⟩
theorem qw_t (h:QW X e tT):QT X e tT:=⟨h.u.pt⟩
theorem qrng1 {tg:Expr} (hg:Gl X "range") (hm:X.mg "range" = none) (ha:QA X [a] tA) (hp:plainE a=true:=by rfl):QI X tg (.Call (.Name "range" p) [a] [] pos) (iRng1 tA):=⟨prng1 hg hm ha.u hp⟩
theorem qrng2 {tg:Expr} (hg:Gl X "range") (hm:X.mg "range" = none) (ha:QA X [a,b] tA) (hp:plainE a=true:=by rfl) (hp2:plainE b=true:=by rfl):QI X tg (.Call (.Name "range" p) [a,b] [] pos) (iRng2 tA):=⟨prng2 hg hm ha.u hp hp2⟩
theorem qg_name {i:Nat} (hN:X.N.Nodup) (hi:X.N[i]?=some x) (hx:Loc X.env.scope x) (hf:X.fn x=true∨X.env.scope.names.lookup x=some .local:=by first | exact .inl rfl | exact .inr rfl | assumption):QG X (.Name x pos) (gName i):=⟨pg_name hN hi hx hf⟩
theorem qgs_nil:QGs X [] gNil:=⟨pgs_nil⟩
theorem qgs_cons {g:TG} {gs:TGs} (h1:QG X e g) (h2:QGs X es gs) (hs:(assignEach (e :: es) X.env).map (·.2)=assign e X.env :: (assignEach es X.env).map (·.2):=by rfl):QGs X (e :: es) (gCons g gs):=⟨pgs_cons h1.u h2.u hs⟩
theorem qg_tup {k:Nat} {gs:TGs} {n:Nat} (hc:X.calm=true) (h:QGs X es gs) (hn:(assignEach es X.env).length=n:=by rfl) (hst:(assignEach es X.env).findIdx? (·.1)=none:=by rfl):QG X (.Tuple es k pos) (gTup X.K n gs):=⟨pg_tup hc h.u hn hst⟩
theorem qif_nil:QF X [] fNil:=⟨pif_nil⟩
theorem qc_comp {tg iter elt:Expr} {ifs:List Expr} {csc:Scope} {NB M:List Str} {wi:TI} {g:TG} {ti:TF} (hi:QI X tg iter wi) (hc:X.calm=true) (S:CompScope X.env.scope X.N NB M csc)
  (hg:∀ cl C s₀ H₀ fp pn,QG (cxC X NB csc cl C s₀ H₀ fp pn) tg g) (hf:∀ cl C s₀ H₀ fp pn,QF (cxC X NB csc cl C s₀ H₀ fp pn) ifs ti) (he:∀ cl C s₀ H₀ fp pn,QE (cxC X NB csc cl C s₀ H₀ fp pn) elt te)
  (hs:∀ x,foldedSetIterable iter X.env x=pure x:=by intro _; rfl):QC X (.ListComp elt [⟨tg,iter,ifs,0⟩] csc pos) (tComp wi g ti te M.length) :=
 ⟨pc_comp hi.u hc S (fun cl C s₀ H₀ fp pn=>(hg cl C s₀ H₀ fp pn).u) (fun cl C s₀ H₀ fp pn=>(hf cl C s₀ H₀ fp pn).u) (fun cl C s₀ H₀ fp pn=>(he cl C s₀ H₀ fp pn).u) hs⟩
theorem qc_e (h:QC X e te):QE X e te:=⟨h.u.pe⟩
end
theorem Fun.okQ {P:Program} {w:World} {K:PySem.W.Frag} {mg:Str→Option Value} {base:Heap} {x qual:Str} {st:Stmt} {f:Addr} {fd:FuncData} {N ps:List Str} {k:Nat} {sp:Sp} (F:Fun K x qual st f fd) (S:FnScope N ps (defScope st)) (len:∀ vs H Q E,sp vs H Q E→vs.length=ps.length)
  (hbody:∀ (cdv:Value) (A:Around) (outer:List Env) (s:Shared) (H:Hp) (vs:List V) (Q:VK) (E:XK),Room k (A.deeper (envOfC qual (defScope st) s.heap.objs.size f cdv))→sp vs H Q E →
   ∃ t,QSs (cxOf CX0 P w K mg base N qual (defScope st) f cdv A outer s H E).nox (defBody st) t∧t { nx:=fun _ H'=>Q .non H',rt:=Q } (start N vs) H):FnOk P w K mg base CX0 (k+1) f fd ps sp :=
 F.ok S len fun cdv A outer s H vs Q E hr hsp=>let ⟨t,h,q⟩:=hbody cdv A outer s H vs Q E hr hsp; ⟨t,h.u,q⟩
end L2
namespace L2
open PySem PySem.Spec PyProof.Rows
def FlT (h:Heap) (a:Addr) (C:Value) (T:Addr) (fl:Value):Prop :=
 ∃ oa vs oT ts,h.get? a=some oa∧(oa.cls=C∧oa.dict=none)∧oa.data=.fields vs∧vs[1]?=some (.ref T)∧T≠a∧h.get? T=some oT∧oT.data=.fields ts∧ts[3]?=some fl
structure Nk (fs ch:List Addr) (h g:Heap):Prop where
 keep:∀ b o,b∉fs→b∉ch→h.get? b=some o→g.get? b=some o
 slot:∀ b o,b∈fs→b∉ch→h.get? b=some o→∃ sl,g.get? b=some { o with slots:=sl }
 there:∀ b o,h.get? b=some o→∃ u,g.get? b=some u
section
variable {M:Model} {A:Around} {E:Value→Shared→Prop} {s:Shared} {base:Heap} {env:Env} {outer:List Env} {L a T:Addr} {C:Value}
end
section
variable {X:Cx} {pins:List (Addr × Obj)} {σ:St} {H:Hp} {s:Shared} {a:Addr} {ts:List Addr} {C:Addr}
def FpN (X:Cx) (pins:List (Addr × Obj)) (H:Hp) (b:Addr):Prop :=
 H b=none∧b≠X.env.locals∧b∉X.fs∧X.s₀.heap.get? b=none∧(∀ x c,X.env.cells.lookup x=some c→c≠b)∧∀ p∈X.pn++pins,p.1≠b
end
def CXR (P:Program) (w:World):CXT:=fun outer H s E e s'=>∃ a C H' T,e=.ref a∧s'.os=s.os∧AllBare s'.gens∧Un (frs outer) [] H H' s.heap s'.heap∧HOk P w H' s'.heap∧FlT s'.heap a (.ref C) T .none ∧
 s.heap.get? a=none∧s.heap.get? T=none∧H' a=none∧H' T=none∧E (.ref C) none H'
section
variable {P:Program} {w:World} {K:PySem.W.Frag} {mg:Str→Option Value} {base:Heap}
end
inductive CalX (P:Program) (w:World) (K:PySem.W.Frag) (mg:Str→Option Value) (base:Heap) (k:Nat) (x:Str) (ps:List Str) (sp:Sp):Prop where
 | mk {f:Addr} {fd:FuncData} (F:FnOk P w K mg base (CXR P w) k f fd ps sp) (hm:mg x=some (.ref f)) (hk:PySem.W.keepIn K (.ref f)=true) (hb:Binds K fd ps [])
section
variable {X:Cx} {k:Nat} {ps:List Str} {sp:Sp} {x:Str} {p pos:Pos} {e:Expr} {es:List Expr} {t:TA} {EX:St→XK}
end
section
variable {X:Cx} {pins:List (Addr × Obj)} {σ:St} {H:Hp} {s:Shared}
end
section
variable {X:Cx} {pins pins':List (Addr × Obj)} {σ:St} {H:Hp} {s:Shared} {E:Value→Shared→Prop} {e:Value}
end
abbrev TH:=Value→TS
def PH (X:Cx) (hs:List ExceptHandler) (th:TH):Prop :=
 ∀ (pins:List (Addr × Obj)) (s:Shared) (σ:St) (H:Hp) (D:Ends) (a C U:Addr),Inv X pins σ H s→FlT s.heap a (.ref C) U .none→FpN X pins H a→FpN X pins H U→th (.ref C) D σ H →
  wpAny (model X.prog X.w) X.A (handleBy (.ref a) X.env hs) (SP X pins D) X.xe s
structure QH (X:Cx) (hs:List ExceptHandler) (th:TH):Prop where
 u:PH X hs th
section
variable {X:Cx} {x:Str} {c:Value} {t:TS} {th:TH} {np pos:Pos} {b0:Stmt} {suite body:List Stmt} {rest:List ExceptHandler}
end
def excO (a C:Addr):HO:=.ext fun h=>∃ o,h.get? a=some o∧(o.cls=.ref C∧o.dict=none)∧PySem.W.notCls o=true
section
variable {X:Cx} {pins:List (Addr × Obj)} {σ:St} {H:Hp} {s:Shared} {a C:Addr}
end
section
variable {X:Cx} {x n:Str} {i:Nat} {c:Value} {t:TS} {th:TH} {np pos:Pos} {b0:Stmt} {suite body:List Stmt} {rest:List ExceptHandler}
end
open PySem.W
structure ExcK (K:Frag) (C:Addr):Prop where
 ga:findIn K (.ref C) "__getattribute__" = some (some (.builtin "BaseException.__getattribute__"))
 gn:findIn K (.ref C) "__getattr__" = some none
 gc:findIn K (.ref C) "__class__" = some (some (.builtin "object.__class__"))
 mo:mroIn K C (.type "object")=some true
 mb:mroIn K C (.type "BaseException")=some true
 hd:hasDictIn K C=true
section
variable {prog:Program} {w:World} {A:Around} {E:Value→Shared→Prop} {h:Heap} {g:Array GenState} {d:Drawn} {t:Nat} {os:OsState} {K:Frag} {a C:Addr} {o:Obj}
end
section
variable {X:Cx}
end
structure RoomH (k:Nat) (A:Around):Prop where
 dp:A.depth+3 * k+5 < recursionLimit
 un:A.units+16 * k+200 < cLine
structure FnOkH (P:Program) (w:World) (K:Frag) (mg:Str→Option Value) (base:Heap) (CX:CXT) (k:Nat) (f:Addr) (fd:FuncData) (ps:List Str) (sp:Sp):Prop where
 len:∀ vs H Q E,sp vs H Q E→vs.length=ps.length
 run:∀ (A:Around) (outer:List Env) (s:Shared) (H:Hp) (args:Args) (us:List Value) (vs:List V) (Q:VK) (E:XK),RoomH k A→Env0 P w K mg base A outer s H→BindsTo s fd args (ps.zip us)→Vals vs us→sp vs H Q E →
  codeAny (model P w) A (.call (.ref f) args) (CR CX outer P w H s Q E) s
section
variable {P:Program} {w:World} {K:Frag} {mg:Str→Option Value} {base:Heap} {CX:CXT} {k:Nat} {f:Addr}
end
inductive CalH (P:Program) (w:World) (K:Frag) (mg:Str→Option Value) (base:Heap) (k:Nat) (x:Str) (ps:List Str) (sp:Sp):Prop where
 | mk {f:Addr} {fd:FuncData} (F:FnOkH P w K mg base CX0 k f fd ps sp) (hm:mg x=some (.ref f)) (hk:keepIn K (.ref f)=true) (hb:Binds K fd ps [])
section
variable {X:Cx} {k:Nat} {ps:List Str} {sp:Sp} {x:Str} {p pos:Pos} {e:Expr} {es:List Expr} {t:TA}
end
end L2
namespace L2
open PySem PySem.Spec PyProof.Rows
section
variable {X:Cx} {o i e f value a b:Expr} {pos pos' tpos apos cpos:Pos} {td ty tv tx:TE}
theorem qe_dget (hu:X.A.units+1 < cLine) (ho:QE X o td) (hi:QE X i ty) (hs:NoSl i:=by exact fun _ _=>rfl):QE X (.Subscript o i pos) (tDGet td ty):=⟨pe_dget hu ho.u hi.u hs⟩
theorem qt_din (hu:X.A.units+1 < cLine) (hi:QE X i ty) (ho:QE X o td) (hm:behindInMarks .In o=false:=by with_unfolding_all rfl):QT X (.Compare i [.In] [o] pos) (tB (tDIn ty td)):=⟨pt_cmp (pc_din hu hi.u ho.u) hm⟩
theorem qt_dnotin (hu:X.A.units+1 < cLine) (hi:QE X i ty) (ho:QE X o td) (hm:behindInMarks .NotIn o=false:=by with_unfolding_all rfl):QT X (.Compare i [.NotIn] [o] pos) (tB (tDNotIn ty td)):=⟨pt_cmp (pc_dnotin hu hi.u ho.u) hm⟩
theorem qs_dput (hu:X.A.units+1 < cLine) (ho:QE X o td) (hi:QE X i ty) (hv:QE X value tv) (hs:swapsWith value (some (.Subscript o i pos')) pos.line X.env=pure false:=by rfl) :
  QS X (.Assign [.Subscript o i pos'] value pos) (sDPut td ty tv):=⟨ps_dput hu ho.u hi.u hv.u hs⟩
theorem qe_dnewT:QE X (.Dict [] [] pos) tDNewT:=⟨pe_dnewT⟩
theorem qe_dget1 (hu:X.A.units+1 < cLine) (ho:QE X o td) (he:QE X e ty) (m:M1 X o "get" apos e cpos):QE X (.Call (.Attribute o "get" apos) [e] [] cpos) (tDGet1 td ty):=⟨pe_dget1 hu ho.u he.u m⟩
end
end L2
namespace L2
open PySem PySem.Spec PyProof.Rows
inductive D where
 | non
 | bl (b:Bool)
 | int (i:Int)
 | str (x:Str)
 | tup (xs:List D)
 | lst (xs:List D)
 | dT (ks:List (List Str)) (ds:List D)
 | dK (ks:List Str) (ds:List D)
 | scr (ns:List Int)
 | kt (ss:List Str)
 | exc (n:Str)
 | io (c:Addr) (ds:List D)
 | ioT (c:Addr) (ks:List (List Str)) (ds:List D)
def clsOf (K:PySem.W.Frag) (n:Str) (C:Addr):Prop:=PySem.W.nsIn K mainGlobals n=some (some (.ref C))
def wK (ws:List Str):List Key:=ws.map Sum.inr
def TupAt (K:PySem.W.Frag) (H:Hp) (a:Addr) (ds:List D) (xs:List V):Prop:=H a=some (.tup xs)∨(SqT K (fun _=>none) a xs∧ds=[.str "folder",.str ""])
mutual
def Rep (K:PySem.W.Frag) (H:Hp):D→V→Prop
 | .non,v=>v=.non
 | .bl b,v=>v=.bl b
 | .int i,v=>v=.int i
 | .str x,v=>v=.str x
 | .tup ds,v=>∃ a xs,v=.ref a∧TupAt K H a ds xs∧Reps K H ds xs
 | .lst ds,v=>∃ a xs,v=.ref a∧H a=some (.lst xs)∧Reps K H ds xs
 | .dT ks ds,v=>∃ a kvs,v=.ref a∧Rd H a (.dT kvs)∧kvs.map (·.1)=ks.map wK∧Reps K H ds (kvs.map (·.2))
 | .dK ks ds,v=>∃ a kvs,v=.ref a∧H a=some (.dK kvs)∧kvs.map (·.1)=ks.map Sum.inr∧Reps K H ds (kvs.map (·.2))
 | .scr ns,v=>∃ a,v=.ref a∧SqL K H a (ns.map V.int)
 | .kt ss,v=>∃ a,v=.ref a∧SqT K (fun _=>none) a (ss.map V.str)
 | .exc n,v=>∃ a C,v=.ref a∧H a=some (excO a C)∧clsOf K n C
 | .io c ds,v=>∃ xs,v=.ref c∧H c=some (.lst xs)∧Reps K H ds xs
 | .ioT c ks ds,v=>∃ kvs,v=.ref c∧H c=some (.dT kvs)∧kvs.map (·.1)=ks.map wK∧Reps K H ds (kvs.map (·.2))
def Reps (K:PySem.W.Frag) (H:Hp):List D→List V→Prop
 | [],xs=>xs=[]
 | d :: ds,xs=>∃ x r,xs=x :: r∧Rep K H d x∧Reps K H ds r
end
noncomputable def eqD (d e:D):Bool:=@decide (d=e) (Classical.propDecidable _)
noncomputable def eqDs (d e:List D):Bool:=@decide (d=e) (Classical.propDecidable _)
theorem eqD_iff {d e:D}:eqD d e=true↔d=e:=@decide_eq_true_iff _ (Classical.propDecidable _)
theorem eqDs_iff {d e:List D}:eqDs d e=true↔d=e:=@decide_eq_true_iff _ (Classical.propDecidable _)
theorem eqD_eq {d e:D} (h:eqD d e=true):d=e:=eqD_iff.mp h
theorem eqDs_eq {d e:List D} (h:eqDs d e=true):d=e:=eqDs_iff.mp h
theorem eqD_refl (d:D):eqD d d=true:=eqD_iff.mpr rfl
theorem eqDs_refl (d:List D):eqDs d d=true:=eqDs_iff.mpr rfl
theorem bool_iff {a b:Bool} (h:a=true↔b=true):a=b:=by cases a <;> cases b <;> simp_all
theorem eqD_tup (ds es:List D):eqD (.tup ds) (.tup es)=eqDs ds es:=bool_iff (by rw [eqD_iff,eqDs_iff]; exact ⟨fun h=>D.tup.inj h,fun h=>h ▸ rfl⟩)
theorem eqD_lst (ds es:List D):eqD (.lst ds) (.lst es)=eqDs ds es:=bool_iff (by rw [eqD_iff,eqDs_iff]; exact ⟨fun h=>D.lst.inj h,fun h=>h ▸ rfl⟩)
def dV:D→Option V
 | .non=>some .non
 | .bl b=>some (.bl b)
 | .int i=>some (.int i)
 | .str x=>some (.str x)
 | _=>none
theorem dV_inj {d e:D} {v:V} (h:dV d=some v) (h':dV e=some v):d=e:=by
 cases d <;> cases e <;> simp_all [dV] <;> (subst h; simp_all)
theorem eqD_scal {d e:D} {v z:V} (h:dV d=some v) (h':dV e=some z):eqD d e=decide (v=z):=bool_iff (by
 rw [eqD_iff,decide_eq_true_iff]
 exact ⟨fun q=>by subst q; exact Option.some.inj (h.symm.trans h'),fun q=>by subst q; exact dV_inj h h'⟩)
mutual
def cmpD:D→D→Bool
 | .tup a,.tup b=>cmpDs a b
 | .lst a,.lst b=>cmpDs a b
 | .non,.non=>true | .non,.int _=>true | .int _,.non=>true | .non,.bl _=>true | .bl _,.non=>true | .non,.str _=>true | .str _,.non=>true
 | .int _,.int _=>true | .bl _,.bl _=>true | .str _,.str _=>true | .int _,.str _=>true | .str _,.int _=>true | .bl _,.str _=>true | .str _,.bl _=>true
 | _,_=>false
def cmpDs:List D→List D→Bool
 | x :: xs,y :: ys=>cmpD x y && cmpDs xs ys
 | _,_=>true
end
mutual
def depD:D→Nat
 | .tup a=>depDs a+1
 | .lst a=>depDs a+1
 | _=>0
def depDs:List D→Nat
 | []=>0
 | x :: xs=>max (depD x) (depDs xs)
end
theorem Same.emp (H:Hp):Same (fun _=>none) H:=fun _ _ h=>by cases h
theorem Same.sqT {K:PySem.W.Frag} {H H':Hp} (sm:Same H H') {a:Addr} {xs:List V} (h:SqT K H a xs):SqT K H' a xs:=by
 rcases h with (h | ⟨o,h⟩) | h
 ·exact .inl (.inl (sm _ _ h))
 ·exact .inl (.inr ⟨o,sm _ _ h⟩)
 ·exact .inr h
theorem TupAt.sq {K:PySem.W.Frag} {H:Hp} {a:Addr} {ds:List D} {xs:List V} (h:TupAt K H a ds xs):SqT K H a xs:=h.elim SqT.of fun q=>(Same.emp H).sqT q.1
theorem TupAt.same {K:PySem.W.Frag} {H H':Hp} {a:Addr} {ds:List D} {xs:List V} (h:TupAt K H a ds xs) (sm:Same H H'):TupAt K H' a ds xs:=h.elim (fun q=>.inl (sm _ _ q)) .inr
section
variable {X:Cx} {pins:List (Addr × Obj)} {σ:St} {H:Hp} {s:Shared}
mutual
theorem Rep.inj (I:Inv X pins σ H s):∀ {d e:D} {v:V},Rep X.K H d v→Rep X.K H e v→cmpD d e=true→d=e
 | .non,e,v,h,h',hc=>by
  unfold Rep at h
  subst h
  cases e <;> unfold Rep at h' <;> first | rfl | (obtain ⟨_,_,z,_⟩:=h'; cases z; done) | (obtain ⟨_,z,_⟩:=h'; cases z; done) | (cases h'; done)
 | .bl i,e,v,h,h',hc=>by
  unfold Rep at h
  subst h
  cases e <;> unfold Rep at h' <;> first | rfl | (obtain ⟨_,_,z,_⟩:=h'; cases z; done) | (obtain ⟨_,z,_⟩:=h'; cases z; done) | (cases h'; rfl) | (cases h'; done)
 | .int i,e,v,h,h',hc=>by
  unfold Rep at h
  subst h
  cases e <;> unfold Rep at h' <;> first | rfl | (obtain ⟨_,_,z,_⟩:=h'; cases z; done) | (obtain ⟨_,z,_⟩:=h'; cases z; done) | (cases h'; rfl) | (cases h'; done)
 | .str i,e,v,h,h',hc=>by
  unfold Rep at h
  subst h
  cases e <;> unfold Rep at h' <;> first | rfl | (obtain ⟨_,_,z,_⟩:=h'; cases z; done) | (obtain ⟨_,z,_⟩:=h'; cases z; done) | (cases h'; rfl) | (cases h'; done)
 | .tup ds,e,v,h,h',hc=>by
  cases e with
  | tup es =>
   unfold Rep at h h'
   obtain ⟨a,xs,rfl,ha,hr⟩:=h
   obtain ⟨b,ys,z,hb,hs⟩:=h'
   cases z
   cases I.tuple_inj ha.sq hb.sq
   unfold cmpD at hc
   rw [Reps.inj I hr hs hc]
  | _=>unfold cmpD at hc; cases hc
 | .lst ds,e,v,h,h',hc=>by
  cases e with
  | lst es =>
   unfold Rep at h h'
   obtain ⟨a,xs,rfl,ha,hr⟩:=h
   obtain ⟨b,ys,z,hb,hs⟩:=h'
   cases z
   rw [ha] at hb
   cases hb
   unfold cmpD at hc
   rw [Reps.inj I hr hs hc]
  | _=>unfold cmpD at hc; cases hc
 | .dT _ _,e,_,_,_,h=>by cases e <;> (unfold cmpD at h; cases h)
 | .dK _ _,e,_,_,_,h=>by cases e <;> (unfold cmpD at h; cases h)
 | .scr _,e,_,_,_,h=>by cases e <;> (unfold cmpD at h; cases h)
 | .kt _,e,_,_,_,h=>by cases e <;> (unfold cmpD at h; cases h)
 | .exc _,e,_,_,_,h=>by cases e <;> (unfold cmpD at h; cases h)
 | .io _ _,e,_,_,_,h=>by cases e <;> (unfold cmpD at h; cases h)
 | .ioT _ _ _,e,_,_,_,h=>by cases e <;> (unfold cmpD at h; cases h)
theorem Reps.inj (I:Inv X pins σ H s):∀ {ds es:List D} {xs:List V},Reps X.K H ds xs→Reps X.K H es xs→cmpDs ds es=true→ds=es
 | [],es,xs,h,h',_=>by
  unfold Reps at h
  subst h
  cases es with
  | nil=>rfl
  | cons e es=>unfold Reps at h'; obtain ⟨_,_,z,_⟩:=h'; cases z
 | d :: ds,es,xs,h,h',hc=>by
  unfold Reps at h
  obtain ⟨x,r,rfl,h1,h2⟩:=h
  cases es with
  | nil=>unfold Reps at h'; cases h'
  | cons e es =>
   unfold Reps at h'
   obtain ⟨x',r',z,h3,h4⟩:=h'
   cases z
   unfold cmpDs at hc
   rw [Bool.and_eq_true] at hc
   rw [Rep.inj I h1 h3 hc.1,Reps.inj I h2 h4 hc.2]
end
end
mutual
theorem Rep.same {K:PySem.W.Frag} {H H':Hp} (sm:Same H H'):∀ {d:D} {v:V},Rep K H d v→Rep K H' d v
 | .non,_,h=>h
 | .bl _,_,h=>h
 | .int _,_,h=>h
 | .str _,_,h=>h
 | .tup _,_,h=>by
  unfold Rep at h ⊢
  obtain ⟨a,xs,e,ha,r⟩:=h
  exact ⟨a,xs,e,ha.same sm,Reps.same sm r⟩
 | .lst _,_,h=>by
  unfold Rep at h ⊢
  obtain ⟨a,xs,e,ha,r⟩:=h
  exact ⟨a,xs,e,sm _ _ ha,Reps.same sm r⟩
 | .dT _ _,_,h=>by
  unfold Rep at h ⊢
  obtain ⟨a,xs,e,ha,k,r⟩:=h
  exact ⟨a,xs,e,ha.elim (fun q=>.inl (sm _ _ q)) fun ⟨o,q⟩=>.inr ⟨o,sm _ _ q⟩,k,Reps.same sm r⟩
 | .dK _ _,_,h=>by
  unfold Rep at h ⊢
  obtain ⟨a,xs,e,ha,k,r⟩:=h
  exact ⟨a,xs,e,sm _ _ ha,k,Reps.same sm r⟩
 | .scr _,_,h=>by
  unfold Rep at h ⊢
  obtain ⟨a,e,ha⟩:=h
  exact ⟨a,e,sm.seq ha⟩
 | .kt _,_,h=>h
 | .exc _,_,h=>by
  unfold Rep at h ⊢
  obtain ⟨a,C,e,ha,hc⟩:=h
  exact ⟨a,C,e,sm _ _ ha,hc⟩
 | .io _ _,_,h=>by
  unfold Rep at h ⊢
  obtain ⟨xs,e,ha,r⟩:=h
  exact ⟨xs,e,sm _ _ ha,Reps.same sm r⟩
 | .ioT _ _ _,_,h=>by
  unfold Rep at h ⊢
  obtain ⟨kvs,e,ha,k,r⟩:=h
  exact ⟨kvs,e,sm _ _ ha,k,Reps.same sm r⟩
theorem Reps.same {K:PySem.W.Frag} {H H':Hp} (sm:Same H H'):∀ {ds:List D} {xs:List V},Reps K H ds xs→Reps K H' ds xs
 | [],_,h=>h
 | _ :: _,_,h=>by
  unfold Reps at h ⊢
  obtain ⟨x,r,e,h1,h2⟩:=h
  exact ⟨x,r,e,Rep.same sm h1,Reps.same sm h2⟩
end
theorem Reps.length {K:PySem.W.Frag} {H:Hp}:∀ {ds:List D} {xs:List V},Reps K H ds xs→ds.length=xs.length
 | [],xs,h=>by unfold Reps at h; rw [h]; rfl
 | d :: ds,xs,h=>by
  unfold Reps at h
  obtain ⟨x,r,rfl,h1,h2⟩:=h
  rw [List.length_cons,List.length_cons,Reps.length h2]
theorem Reps.at {K:PySem.W.Frag} {H:Hp}:∀ {ds:List D} {xs:List V} {j:Nat} {d:D},Reps K H ds xs→ds[j]?=some d→∃ x,xs[j]?=some x∧Rep K H d x
 | [],xs,j,d,h,e=>by simp at e
 | d0 :: ds,xs,0,d,h,e=>by
  unfold Reps at h
  obtain ⟨x,r,rfl,h1,h2⟩:=h
  have e':d0=d:=by simpa using e
  subst e'
  exact ⟨x,rfl,h1⟩
 | d0 :: ds,xs,j+1,d,h,e=>by
  unfold Reps at h
  obtain ⟨x,r,rfl,h1,h2⟩:=h
  obtain ⟨y,h3,h4⟩:=Reps.at (j:=j) (d:=d) h2 (by simpa using e)
  exact ⟨y,by simpa using h3,h4⟩
theorem eqDs_range:∀ (ds es:List D),((List.range (min ds.length es.length)).all (fun j=>eqD (ds.getD j .non) (es.getD j .non)) && ds.length == es.length)=eqDs ds es:=by
 intro ds es
 cases h:eqDs ds es with
 | true =>
  have e:=eqDs_eq h
  subst e
  rw [Bool.and_eq_true]
  refine ⟨?_,by simp⟩
  rw [List.all_eq_true]
  intro j _
  exact eqD_refl _
 | false =>
  apply Classical.byContradiction
  intro hn
  have ht:=eq_true_of_ne_false hn
  rw [Bool.and_eq_true,List.all_eq_true] at ht
  obtain ⟨h1,h2⟩:=ht
  have hl:ds.length=es.length:=by simpa using h2
  have e:ds=es:=by
   apply List.ext_getElem hl
   intro i hi1 hi2
   have:=eqD_eq (h1 i (by rw [List.mem_range]; lia))
   simpa [List.getD_eq_getElem?_getD,hi1,hi2] using this
  rw [e,eqDs_refl] at h
  cases h
theorem cmpDs_at:∀ {ds es:List D} {j:Nat} {d e:D},cmpDs ds es=true→ds[j]?=some d→es[j]?=some e→cmpD d e=true
 | [],_,j,d,e,_,h,_=>by simp at h
 | _ :: _,[],j,d,e,_,_,h=>by simp at h
 | d0 :: ds,e0 :: es,0,d,e,h,h1,h2=>by
  unfold cmpDs at h
  rw [Bool.and_eq_true] at h
  have q1:d0=d:=by simpa using h1
  have q2:e0=e:=by simpa using h2
  subst q1 q2
  exact h.1
 | d0 :: ds,e0 :: es,j+1,d,e,h,h1,h2=>by
  unfold cmpDs at h
  rw [Bool.and_eq_true] at h
  exact cmpDs_at (j:=j) h.2 (by simpa using h1) (by simpa using h2)
theorem depDs_at:∀ {ds:List D} {j:Nat} {d:D},ds[j]?=some d→depD d≤depDs ds
 | [],j,d,h=>by simp at h
 | d0 :: ds,0,d,h=>by
  have q:d0=d:=by simpa using h
  subst q
  unfold depDs
  exact Nat.le_max_left _ _
 | d0 :: ds,j+1,d,h=>by
  have:=depDs_at (j:=j) (d:=d) (ds:=ds) (by simpa using h)
  unfold depDs
  exact Nat.le_trans this (Nat.le_max_right _ _)
section
variable {X:Cx} {pins:List (Addr × Obj)} {σ:St} {H:Hp} {s:Shared}
theorem rep_scal {d:D} {v:V} (h:Rep X.K H d v) {z:V} (e:dV d=some z):v=z:=by
 cases d <;> first | (unfold Rep at h; subst h; exact Option.some.inj e) | (cases e; done)
theorem scal_of {d e:D} (h:cmpD d e=true) (h0:∀ ds,d≠.tup ds) (h1:∀ ds,d≠.lst ds):∃ v z,dV d=some v∧dV e=some z∧scal v z=true:=by
 cases d <;> cases e <;> first | exact ⟨_,_,rfl,rfl,rfl⟩ | exact absurd rfl (h0 _) | exact absurd rfl (h1 _) | (unfold cmpD at h; cases h; done)
theorem flat_dV {d:D} {v:V} (h:dV d=some v):flatV v=true:=by
 cases d <;> first | (cases h; rfl) | (cases h; done)
theorem eqV_scal {v z:V} (h:scal v z=true) (hv:flatV v=true):eqV v z=decide (v=z):=by
 cases v <;> cases z <;> first | (cases h; done) | (cases hv; done) | rfl | (simp [eqV]; done) | (unfold eqV; exact bool_iff (by simp))
theorem items_D {A':Around} {ds es:List D} {xs ys:List V} {its its2:List Value} (r1:Reps X.K H ds xs) (r2:Reps X.K H es ys) (v1:Vals xs its) (v2:Vals ys its2) (hc:cmpDs ds es=true)
  (ih:∀ d∈ds,∀ (e:D) (v z:V) (u w:Value),Rep X.K H d v→Rep X.K H e z→RelV v u→RelV z w→cmpD d e=true→SeqAt.EqAt A' s u w (eqD d e)) :
  ∀ j (h1:j < its.toArray.size) (h2:j < its2.toArray.size),SeqAt.EqAt A' s its.toArray[j] its2.toArray[j] (eqD (ds.getD j .non) (es.getD j .non)):=fun j h1 h2=>by
 have l1:j < ds.length:=by rw [r1.length,v1.length]; simpa using h1
 have l2:j < es.length:=by rw [r2.length,v2.length]; simpa using h2
 have q1:ds[j]?=some ds[j]:=List.getElem?_eq_getElem l1
 have q2:es[j]?=some es[j]:=List.getElem?_eq_getElem l2
 obtain ⟨x,hx,rx⟩:=r1.at q1
 obtain ⟨y,hy,ry⟩:=r2.at q2
 obtain ⟨ux,hux,rux⟩:=v1.get hx
 obtain ⟨uy,huy,ruy⟩:=v2.get hy
 have e1:its.toArray[j]=ux:=by
  have:its[j]?=some its.toArray[j]:=by simp
  rw [hux] at this
  exact (Option.some.inj this).symm
 have e2:its2.toArray[j]=uy:=by
  have:its2[j]?=some its2.toArray[j]:=by simp
  rw [huy] at this
  exact (Option.some.inj this).symm
 have e3:ds.getD j .non=ds[j]:=by simp [List.getD_eq_getElem?_getD,l1]
 have e4:es.getD j .non=es[j]:=by simp [List.getD_eq_getElem?_getD,l2]
 rw [e1,e2,e3,e4]
 exact ih ds[j] (List.getElem_mem l1) es[j] x y ux uy rx ry rux ruy (cmpDs_at hc q1 q2)
theorem rc_tup {A:Around} (I:Inv X pins σ H s) {a b:Addr} {ds es:List D} {xs ys:List V} (ha:SqT X.K H a xs) (hb:SqT X.K H b ys) (r1:Reps X.K H ds xs) (r2:Reps X.K H es ys) (hc:cmpDs ds es=true) (hu:A.units < cLine)
  (ih:∀ d∈ds,∀ (e:D) (v z:V) (u w:Value),Rep X.K H d v→Rep X.K H e z→RelV v u→RelV z w→cmpD d e=true→SeqAt.EqAt A.in1 s u w (eqD d e)):SeqAt.RcAt A s (.ref a) (.ref b) (eqD (.tup ds) (.tup es)):=by
 obtain ⟨its,v1,p1,_⟩:=I.tuple ha
 obtain ⟨its2,v2,p2,_⟩:=I.tuple hb
 have:=SeqAt.RcAt.tuples (A:=A) (s:=s) (e:=fun j=>eqD (ds.getD j .non) (es.getD j .non)) (show s.heap.IsTuple a its.toArray from p1) (show s.heap.IsTuple b its2.toArray from p2) hu (items_D r1 r2 v1 v2 hc ih)
 rw [List.size_toArray,List.size_toArray,← v1.length,← v2.length,← r1.length,← r2.length,eqDs_range] at this
 rw [eqD_tup]
 exact this
theorem rc_lst {A:Around} (I:Inv X pins σ H s) {a b:Addr} {ds es:List D} {xs ys:List V} (ha:H a=some (.lst xs)) (hb:H b=some (.lst ys)) (r1:Reps X.K H ds xs) (r2:Reps X.K H es ys) (hc:cmpDs ds es=true) (hu:A.units < cLine)
  (ih:∀ d∈ds,∀ (e:D) (v z:V) (u w:Value),Rep X.K H d v→Rep X.K H e z→RelV v u→RelV z w→cmpD d e=true→SeqAt.EqAt A.in1 s u w (eqD d e)):SeqAt.RcAt A s (.ref a) (.ref b) (eqD (.lst ds) (.lst es)):=by
 obtain ⟨its,v1,p1,_⟩:=I.list (SqL.of ha)
 obtain ⟨its2,v2,p2,_⟩:=I.list (SqL.of hb)
 have er:=eqDs_range ds es
 rw [eqD_lst]
 by_cases hl:ds.length=es.length
 ·have hz:its.toArray.size=its2.toArray.size:=by rw [List.size_toArray,List.size_toArray,← v1.length,← v2.length,← r1.length,← r2.length,hl]
  have:=SeqAt.RcAt.lists (A:=A) (s:=s) (e:=fun j=>eqD (ds.getD j .non) (es.getD j .non)) p1.isList p2.isList hz hu (items_D r1 r2 v1 v2 hc ih)
  rw [List.size_toArray,← v1.length,← r1.length] at this
  rw [← hl,Nat.min_self] at er
  have e2:(ds.length == ds.length)=true:=by simp
  rw [e2,Bool.and_true] at er
  rw [er] at this
  exact this
 ·have e2:(ds.length == es.length)=false:=by simpa using hl
  rw [e2,Bool.and_false] at er
  rw [← er]
  refine SeqAt.RcAt.lists_lengths p1.isList p2.isList ?_ hu
  rw [List.size_toArray,List.size_toArray,← v1.length,← v2.length,← r1.length,← r2.length]
  simpa using hl
theorem depD_mem {ds:List D} {d:D} (h:d∈ds):depD d≤depDs ds:=by
 obtain ⟨j,hj⟩:=List.mem_iff_getElem?.mp h
 exact depDs_at hj
theorem eqAt_D (I:Inv X pins σ H s):∀ (n:Nat) (A:Around) (d e:D) (v z:V) (u w:Value),sizeOf d≤n→Rep X.K H d v→Rep X.K H e z→RelV v u→RelV z w→cmpD d e=true→A.units+depD d < cLine→SeqAt.EqAt A s u w (eqD d e)
 | 0,_,d,_,_,_,_,_,hn,_,_,_,_,_,_=>by cases d <;> simp at hn
 | n+1,A,d,e,v,z,u,w,hn,hd,he,ru,rw',hc,hu=>by
  have un:A.in1.units=A.units+1:=rfl
  cases d with
  | tup ds =>
   cases e with
   | tup es =>
    have hd':=hd
    have he':=he
    unfold Rep at hd he
    obtain ⟨a,xs,rfl,ha,r1⟩:=hd
    obtain ⟨b,ys,rfl,hb,r2⟩:=he
    cases ru
    cases rw'
    unfold depD at hu
    by_cases hab:a=b
    ·subst hab
     rw [Rep.inj I hd' he' hc,eqD_refl]
     exact SeqAt.EqAt.same _
    ·unfold cmpD at hc
     refine SeqAt.EqAt.of_refs hab (rc_tup I ha.sq hb.sq r1 r2 hc (by lia) fun d hd e v z u w h1 h2 h3 h4 h5=>eqAt_D I n A.in1 d e v z u w ?_ h1 h2 h3 h4 h5 ?_)
     ·have:=List.sizeOf_lt_of_mem hd
      simp at hn
      lia
     ·have:=depD_mem hd
      lia
   | _=>unfold cmpD at hc; cases hc
  | lst ds =>
   cases e with
   | lst es =>
    have hd':=hd
    have he':=he
    unfold Rep at hd he
    obtain ⟨a,xs,rfl,ha,r1⟩:=hd
    obtain ⟨b,ys,rfl,hb,r2⟩:=he
    cases ru
    cases rw'
    unfold depD at hu
    by_cases hab:a=b
    ·subst hab
     rw [Rep.inj I hd' he' hc,eqD_refl]
     exact SeqAt.EqAt.same _
    ·unfold cmpD at hc
     refine SeqAt.EqAt.of_refs hab (rc_lst I ha hb r1 r2 hc (by lia) fun d hd e v z u w h1 h2 h3 h4 h5=>eqAt_D I n A.in1 d e v z u w ?_ h1 h2 h3 h4 h5 ?_)
     ·have:=List.sizeOf_lt_of_mem hd
      simp at hn
      lia
     ·have:=depD_mem hd
      lia
   | _=>unfold cmpD at hc; cases hc
  | _ =>
   obtain ⟨v',z',q1,q2,q3⟩:=scal_of hc (fun _ h=>by cases h) (fun _ h=>by cases h)
   have e1:=rep_scal hd q1
   have e2:=rep_scal he q2
   subst e1 e2
   rw [eqD_scal q1 q2,← eqV_scal q3 (flat_dV q1)]
   exact eqAt_V ru rw' (flat_dV q1) (flat_dV q2)
def rEqD (K:PySem.W.Frag) (g:Bool→Bool):R2:=fun x y H Q=>∃ d e,Rep K H d x∧Rep K H e y∧cmpD d e=true∧depD d≤50∧Q (.bl (g (eqD d e))) H
theorem op_eqD (hu:X.A.units+60 < cLine):OpR X (compareOp .Eq) (rEqD X.K id):=by
 intro pins s σ H x y v u Q I rx ry h
 obtain ⟨d,e,hd,he,hc,hn,q⟩:=h
 have fin:EP X pins σ Q (.bool (eqD d e)) s:=⟨.bl (eqD d e),H,I,rfl,q⟩
 have un:X.A.in1.units=X.A.units+1:=rfl
 cases d with
 | tup ds =>
  cases e with
  | tup es =>
   unfold Rep at hd he
   obtain ⟨a,xs,rfl,ha,r1⟩:=hd
   obtain ⟨b,ys,rfl,hb,r2⟩:=he
   cases rx
   cases ry
   unfold cmpD at hc
   unfold depD at hn
   exact rc_tup I ha.sq hb.sq r1 r2 hc (by lia) (fun d hd e v z u w h1 h2 h3 h4 h5=>eqAt_D I _ X.A.in1 d e v z u w (Nat.le_refl _) h1 h2 h3 h4 h5 (by have:=depD_mem hd; lia)) _ _ _ _ fin
  | _=>unfold cmpD at hc; cases hc
 | lst ds =>
  cases e with
  | lst es =>
   unfold Rep at hd he
   obtain ⟨a,xs,rfl,ha,r1⟩:=hd
   obtain ⟨b,ys,rfl,hb,r2⟩:=he
   cases rx
   cases ry
   unfold cmpD at hc
   unfold depD at hn
   exact rc_lst I ha hb r1 r2 hc (by lia) (fun d hd e v z u w h1 h2 h3 h4 h5=>eqAt_D I _ X.A.in1 d e v z u w (Nat.le_refl _) h1 h2 h3 h4 h5 (by have:=depD_mem hd; lia)) _ _ _ _ fin
  | _=>unfold cmpD at hc; cases hc
 | _ =>
  obtain ⟨v',z',q1,q2,q3⟩:=scal_of hc (fun _ h=>by cases h) (fun _ h=>by cases h)
  have e1:=rep_scal hd q1
  have e2:=rep_scal he q2
  subst e1 e2
  have q':Q (.bl (eqD _ _)) H:=q
  rw [eqD_scal q1 q2] at q'
  exact op_eq pins s σ H _ _ v u Q I rx ry ⟨q3,q'⟩
end
end L2
namespace L2
open PySem PySem.Spec PyProof.Rows
inductive R where
 | val (d:D)
 | own (d:D)
 | peek (d:D)
 | exc (n:Str)
def R.d:R→D
 | .val d=>d
 | .own d=>d
 | .peek d=>d
 | .exc _=>.scr []
abbrev VSt:=List (Option R)
def ioA:D→Option Addr
 | .io c _=>some c
 | .ioT c _ _=>some c
 | _=>none
def OwnAt (K:PySem.W.Frag) (B H:Hp) (d:D) (a:Addr):Prop:=match d with
 | .lst ds=>∃ xs,H a=some (.lst xs)∧Reps K B ds xs
 | .dT ks ds=>∃ kvs,H a=some (.dT kvs)∧kvs.map (·.1)=ks.map wK∧Reps K B ds (kvs.map (·.2))
 | .dK ks ds=>∃ kvs,H a=some (.dK kvs)∧kvs.map (·.1)=ks.map Sum.inr∧Reps K B ds (kvs.map (·.2))
 | .io c ds=>∃ xs,H a=some (.lst xs)∧a=c∧Reps K B ds xs
 | .ioT c ks ds=>∃ kvs,H a=some (.dT kvs)∧a=c∧kvs.map (·.1)=ks.map wK∧Reps K B ds (kvs.map (·.2))
 | _=>False
def Pk (K:PySem.W.Frag) (B H:Hp) (r:R) (v:V):Prop:=match r with
 | .val d=>Rep K B d v
 | .own d=>∃ a,v=.ref a∧B a=none∧OwnAt K B H d a
 | .peek d=>∃ a,v=.ref a∧B a=none∧OwnAt K B H d a
 | .exc _=>False
def RepR (K:PySem.W.Frag) (B H0 H:Hp) (r:R) (v:V):Prop:=match r with
 | .val d=>Rep K B d v
 | .own d=>∃ a,v=.ref a∧H0 a=none∧B a=none∧OwnAt K B H d a
 | .peek d=>∃ a,v=.ref a∧B a=none∧OwnAt K B H d a
 | .exc _=>False
structure Stp (B H B' H':Hp):Prop where
 b:Same B B'
 h:Same H H'
 s:Same B' H'
 d:∀ a,B' a≠none→B a≠none∨H a=none∨∃ xs,H a=some (.tup xs)
theorem Stp.refl {B H:Hp} (s:Same B H):Stp B H B H:=⟨Same.refl _,Same.refl _,s,fun _ h=>.inl h⟩
theorem Stp.trans {B H B1 H1 B2 H2:Hp} (p:Stp B H B1 H1) (q:Stp B1 H1 B2 H2):Stp B H B2 H2 :=
 ⟨p.b.trans q.b,p.h.trans q.h,q.s,fun a h=>by
  rcases q.d a h with z | z | ⟨xs,z⟩
  ·exact p.d a z
  ·exact .inr (.inl (p.h.free z))
  ·cases e:H a with
   | none=>exact .inr (.inl rfl)
   | some o =>
    rw [p.h _ _ e] at z
    exact .inr (.inr ⟨xs,z⟩)⟩
theorem Stp.keep {B H B' H':Hp} (p:Stp B H B' H') {a:Addr} (hb:B a=none) (hh:H a≠none) (nt:∀ xs,H a≠some (.tup xs)):B' a=none:=by
 cases e:B' a with
 | none=>rfl
 | some o =>
  rcases p.d a (by rw [e]; exact fun z=>by cases z) with z | z | ⟨xs,z⟩
  ·exact absurd hb z
  ·exact absurd z hh
  ·exact absurd z (nt xs)
theorem Stp.grow {B H H':Hp} (s:Same B H) (h:Same H H'):Stp B H B H':=⟨Same.refl _,h,s.trans h,fun _ z=>.inl z⟩
theorem Stp.new {B H:Hp} {p:Addr} {o:HO} (s:Same B H) (hp:H p=none):Stp B H (upd B p o) (upd H p o) :=
 ⟨same_upd (s.free hp) o,same_upd hp o,fun b u e=>by
  unfold upd at e ⊢
  by_cases z:b=p
  ·rw [if_pos z] at e ⊢
   exact e
  ·rw [if_neg z] at e ⊢
   exact s _ _ e,fun a h=>by
  by_cases z:a=p
  ·exact .inr (.inl (z ▸ hp))
  ·rw [upd_ne z] at h
   exact .inl h⟩
section
variable {K:PySem.W.Frag} {B H B' H' H0:Hp} {d:D} {a:Addr} {r:R} {v:V}
theorem OwnAt.some (h:OwnAt K B H d a):H a≠none:=by
 unfold OwnAt at h
 split at h
 ·obtain ⟨xs,e,_⟩:=h; rw [e]; exact fun z=>by cases z
 ·obtain ⟨xs,e,_⟩:=h; rw [e]; exact fun z=>by cases z
 ·obtain ⟨xs,e,_⟩:=h; rw [e]; exact fun z=>by cases z
 ·obtain ⟨xs,e,_⟩:=h; rw [e]; exact fun z=>by cases z
 ·obtain ⟨xs,e,_⟩:=h; rw [e]; exact fun z=>by cases z
 ·exact h.elim
theorem OwnAt.nt (h:OwnAt K B H d a):∀ xs,H a≠Option.some (.tup xs):=by
 intro ys
 unfold OwnAt at h
 split at h
 ·obtain ⟨xs,e,_⟩:=h; rw [e]; exact fun z=>by cases z
 ·obtain ⟨xs,e,_⟩:=h; rw [e]; exact fun z=>by cases z
 ·obtain ⟨xs,e,_⟩:=h; rw [e]; exact fun z=>by cases z
 ·obtain ⟨xs,e,_⟩:=h; rw [e]; exact fun z=>by cases z
 ·obtain ⟨xs,e,_⟩:=h; rw [e]; exact fun z=>by cases z
 ·exact h.elim
theorem OwnAt.step (h:OwnAt K B H d a) (b:Same B B') (e:H' a=H a):OwnAt K B' H' d a:=by
 unfold OwnAt at h ⊢
 split at h
 ·obtain ⟨xs,q,r⟩:=h; exact ⟨xs,by rw [e,q],r.same b⟩
 ·obtain ⟨xs,q,k,r⟩:=h; exact ⟨xs,by rw [e,q],k,r.same b⟩
 ·obtain ⟨xs,q,k,r⟩:=h; exact ⟨xs,by rw [e,q],k,r.same b⟩
 ·obtain ⟨xs,q,k,r⟩:=h; exact ⟨xs,by rw [e,q],k,r.same b⟩
 ·obtain ⟨xs,q,z,k,r⟩:=h; exact ⟨xs,by rw [e,q],z,k,r.same b⟩
 ·exact h.elim
theorem Same.at {a:Addr} (h:Same H H') (n:H a≠none):H' a=H a:=by
 cases e:H a with
 | none=>exact absurd e n
 | some o=>exact h _ _ e
theorem Pk.step (h:Pk K B H r v) (p:Stp B H B' H'):Pk K B' H' r v:=by
 cases r with
 | val d=>exact Rep.same p.b h
 | own d =>
  obtain ⟨a,e,q,o⟩:=h
  exact ⟨a,e,p.keep q o.some o.nt,o.step p.b (p.h.at o.some)⟩
 | peek d =>
  obtain ⟨a,e,q,o⟩:=h
  exact ⟨a,e,p.keep q o.some o.nt,o.step p.b (p.h.at o.some)⟩
 | exc n=>exact h.elim
theorem RepR.pk (h:RepR K B H0 H r v):Pk K B H r v:=by
 cases r with
 | val d=>exact h
 | own d =>
  obtain ⟨a,e,_,q,o⟩:=h
  exact ⟨a,e,q,o⟩
 | peek d=>exact h
 | exc n=>exact h
theorem OwnAt.rep (s:Same B H) (h:OwnAt K B H d a):Rep K H d (.ref a):=by
 unfold OwnAt at h
 split at h
 ·obtain ⟨xs,q,r⟩:=h; unfold Rep; exact ⟨a,xs,rfl,q,r.same s⟩
 ·obtain ⟨xs,q,k,r⟩:=h; unfold Rep; exact ⟨a,xs,rfl,.inl q,k,r.same s⟩
 ·obtain ⟨xs,q,k,r⟩:=h; unfold Rep; exact ⟨a,xs,rfl,q,k,r.same s⟩
 ·obtain ⟨xs,q,rfl,r⟩:=h; unfold Rep; exact ⟨xs,rfl,q,r.same s⟩
 ·obtain ⟨xs,q,rfl,k,r⟩:=h; unfold Rep; exact ⟨xs,rfl,q,k,r.same s⟩
 ·exact h.elim
theorem Pk.rep (s:Same B H) (h:Pk K B H r v):Rep K H r.d v:=by
 cases r with
 | val d=>exact Rep.same s h
 | own d =>
  obtain ⟨a,rfl,_,o⟩:=h
  exact o.rep s
 | peek d =>
  obtain ⟨a,rfl,_,o⟩:=h
  exact o.rep s
 | exc n=>exact h.elim
theorem OwnAt.pub (h:OwnAt K B H d a) (hb:B a=none):∃ o,H a=Option.some o∧Rep K (upd B a o) d (.ref a):=by
 unfold OwnAt at h
 split at h
 ·obtain ⟨xs,q,r⟩:=h
  refine ⟨_,q,?_⟩
  unfold Rep
  exact ⟨a,xs,rfl,upd_same,r.same (same_upd hb _)⟩
 ·obtain ⟨xs,q,k,r⟩:=h
  refine ⟨_,q,?_⟩
  unfold Rep
  exact ⟨a,xs,rfl,.inl upd_same,k,r.same (same_upd hb _)⟩
 ·obtain ⟨xs,q,k,r⟩:=h
  refine ⟨_,q,?_⟩
  unfold Rep
  exact ⟨a,xs,rfl,upd_same,k,r.same (same_upd hb _)⟩
 ·obtain ⟨xs,q,rfl,r⟩:=h
  refine ⟨_,q,?_⟩
  unfold Rep
  exact ⟨xs,rfl,upd_same,r.same (same_upd hb _)⟩
 ·obtain ⟨xs,q,rfl,k,r⟩:=h
  refine ⟨_,q,?_⟩
  unfold Rep
  exact ⟨xs,rfl,upd_same,k,r.same (same_upd hb _)⟩
 ·exact h.elim
theorem same_updL {o:HO} (s:Same B H) (e:H a=Option.some o):Same (upd B a o) H:=fun b u q=>by
 unfold upd at q
 by_cases z:b=a
 ·rw [if_pos z] at q
  rw [z,e]
  exact q
 ·rw [if_neg z] at q
  exact s _ _ q
def pubR:R→(D→Prop)→Prop
 | .val d,Q=>Q d
 | .own d,Q=>Q d
 | .peek _,_=>False
 | .exc _,_=>False
def exR:R→(R→Prop)→Prop→Prop
 | .exc n,Q,_=>Q (.exc n)
 | .val _,_,k=>k
 | .own _,_,k=>k
 | .peek _,_,k=>k
theorem pub {Q:D→Prop} (p:Stp B H B' H') (h:RepR K B' H H' r v) (q:pubR r Q):∃ d B2,Stp B H B2 H'∧Same B' B2∧Rep K B2 d v∧Q d:=by
 cases r with
 | val d=>exact ⟨d,B',p,Same.refl _,h,q⟩
 | own d =>
  obtain ⟨a,rfl,h0,hb,o⟩:=h
  obtain ⟨u,e,rp⟩:=o.pub hb
  refine ⟨d,upd B' a u,⟨p.b.trans (same_upd hb _),p.h,same_updL p.s e,fun c z=>?_⟩,same_upd hb _,rp,q⟩
  by_cases w:c=a
  ·exact .inr (.inl (w ▸ h0))
  ·rw [upd_ne w] at z
   exact p.d c z
 | peek d=>exact q.elim
 | exc n=>exact q.elim
def FzAt (K:PySem.W.Frag) (B:Hp) (d:D) (v:V):Prop:=∃ a ks ds kvs o,d=.dT ks ds∧v=.ref a∧B a=some (.frz o (.dT kvs))∧kvs.map (·.1)=ks.map wK∧Reps K B ds (kvs.map (·.2))
theorem FzAt.same (h:FzAt K B d v) (s:Same B B'):FzAt K B' d v:=by
 obtain ⟨a,ks,ds,kvs,o,e1,e2,e3,e4,e5⟩:=h
 exact ⟨a,ks,ds,kvs,o,e1,e2,s _ _ e3,e4,e5.same s⟩
theorem FzAt.rep (h:FzAt K B d v):Rep K B d v:=by
 obtain ⟨a,ks,ds,kvs,o,rfl,e2,e3,e4,e5⟩:=h
 unfold Rep
 exact ⟨a,kvs,e2,.inr ⟨o,e3⟩,e4,e5⟩
structure Slots (K:PySem.W.Frag) (H0 B H:Hp) (τ:VSt) (σ:St):Prop where
 len:σ.length=τ.length
 val:∀ (i:Nat) (d:D),τ[i]?=some (some (R.val d))→∃ v,σ[i]?=some (some v)∧Rep K B d v
 fz:∀ (i:Nat) (d:D),τ[i]?=some (some (R.peek d))→∃ v,σ[i]?=some (some v)∧FzAt K B d v
 own:∀ (i:Nat) (d:D),τ[i]?=some (some (R.own d))→∃ a,σ[i]?=some (some (.ref a))∧H0 a=none∧B a=none∧OwnAt K B H d a
 sep:∀ (i j:Nat) (d e:D) (a:Addr),τ[i]?=some (some (R.own d))→τ[j]?=some (some (R.own e))→σ[i]?=some (some (.ref a))→σ[j]?=some (some (.ref a))→i=j
variable {τ:VSt} {σ:St}
theorem Slots.step (S:Slots K H0 B H τ σ) (p:Stp B H B' H'):Slots K H0 B' H' τ σ where
 len:=S.len
 val:=fun i d e=>let ⟨v,q,r⟩:=S.val i d e; ⟨v,q,r.same p.b⟩
 fz:=fun i d e=>let ⟨v,q,r⟩:=S.fz i d e; ⟨v,q,r.same p.b⟩
 own:=fun i d e=>let ⟨a,q,h0,hb,o⟩:=S.own i d e; ⟨a,q,h0,p.keep hb o.some o.nt,o.step p.b (p.h.at o.some)⟩
 sep:=S.sep
theorem getSet {α:Type} {xs:List α} {i j:Nat} {x y:α} (h:(xs.set i x)[j]?=some y):(i=j∧x=y∧i < xs.length)∨(i≠j∧xs[j]?=some y):=by
 by_cases e:i=j
 ·subst e
  by_cases l:i < xs.length
  ·rw [List.getElem?_set_self l] at h
   exact .inl ⟨rfl,Option.some.inj h,l⟩
  ·rw [List.getElem?_eq_none (by rw [List.length_set]; lia)] at h
   cases h
 ·rw [List.getElem?_set_ne e] at h
  exact .inr ⟨e,h⟩
theorem Slots.setVal (S:Slots K H0 B H τ σ) (i:Nat) (h:Rep K B d v):Slots K H0 B H (τ.set i (some (.val d))) (σ.set i (some v)) where
 len:=by rw [List.length_set,List.length_set,S.len]
 val:=fun j e q=>by
  rcases getSet q with ⟨rfl,z,l⟩ | ⟨n,q⟩
  ·cases z
   exact ⟨v,List.getElem?_set_self (by rw [S.len]; exact l),h⟩
  ·obtain ⟨w,q,r⟩:=S.val j e q
   exact ⟨w,by rw [List.getElem?_set_ne n]; exact q,r⟩
 fz:=fun j e q=>by
  rcases getSet q with ⟨rfl,z,l⟩ | ⟨n,q⟩
  ·cases z
  ·obtain ⟨w,q,r⟩:=S.fz j e q
   exact ⟨w,by rw [List.getElem?_set_ne n]; exact q,r⟩
 own:=fun j e q=>by
  rcases getSet q with ⟨rfl,z,l⟩ | ⟨n,q⟩
  ·cases z
  ·obtain ⟨w,q,r⟩:=S.own j e q
   exact ⟨w,by rw [List.getElem?_set_ne n]; exact q,r⟩
 sep:=fun j k e f c q1 q2 q3 q4=>by
  rcases getSet q1 with ⟨rfl,z,l⟩ | ⟨n,q1⟩
  ·cases z
  rcases getSet q2 with ⟨rfl,z,l⟩ | ⟨n2,q2⟩
  ·cases z
  rw [List.getElem?_set_ne n] at q3
  rw [List.getElem?_set_ne n2] at q4
  exact S.sep j k e f c q1 q2 q3 q4
theorem Slots.setOwn (S:Slots K H0 B H τ σ) (i:Nat) (h0:H0 a=none) (hb:B a=none) (o:OwnAt K B H d a) (nw:∀ (j:Nat) (e:D),τ[j]?=some (some (.own e))→σ[j]?≠some (some (.ref a))) :
  Slots K H0 B H (τ.set i (some (.own d))) (σ.set i (some (.ref a))) where
 len:=by rw [List.length_set,List.length_set,S.len]
 val:=fun j e q=>by
  rcases getSet q with ⟨rfl,z,l⟩ | ⟨n,q⟩
  ·cases z
  ·obtain ⟨w,q,r⟩:=S.val j e q
   exact ⟨w,by rw [List.getElem?_set_ne n]; exact q,r⟩
 fz:=fun j e q=>by
  rcases getSet q with ⟨rfl,z,l⟩ | ⟨n,q⟩
  ·cases z
  ·obtain ⟨w,q,r⟩:=S.fz j e q
   exact ⟨w,by rw [List.getElem?_set_ne n]; exact q,r⟩
 own:=fun j e q=>by
  rcases getSet q with ⟨rfl,z,l⟩ | ⟨n,q⟩
  ·cases z
   exact ⟨a,List.getElem?_set_self (by rw [S.len]; exact l),h0,hb,o⟩
  ·obtain ⟨w,q,r⟩:=S.own j e q
   exact ⟨w,by rw [List.getElem?_set_ne n]; exact q,r⟩
 sep:=fun j k e f c q1 q2 q3 q4=>by
  rcases getSet q1 with ⟨rfl,z,l⟩ | ⟨n,q1⟩
  ·rcases getSet q2 with ⟨rfl,z,l2⟩ | ⟨n2,q2⟩
   ·rfl
   ·rw [List.getElem?_set_self (by rw [S.len]; exact l)] at q3
    cases q3
    rw [List.getElem?_set_ne n2] at q4
    exact absurd q4 (nw k f q2)
  ·rcases getSet q2 with ⟨rfl,z,l2⟩ | ⟨n2,q2⟩
   ·rw [List.getElem?_set_self (by rw [S.len]; exact l2)] at q4
    cases q4
    rw [List.getElem?_set_ne n] at q3
    exact absurd q3 (nw j e q1)
   ·rw [List.getElem?_set_ne n] at q3
    rw [List.getElem?_set_ne n2] at q4
    exact S.sep j k e f c q1 q2 q3 q4
theorem Slots.upd (S:Slots K H0 B H τ σ) {i:Nat} {e:D} {o:HO} (hi:τ[i]?=some (some (.own e))) (ha:σ[i]?=some (some (.ref a))) (n:OwnAt K B (upd H a o) d a) :
  Slots K H0 B (upd H a o) (τ.set i (some (.own d))) σ where
 len:=by rw [List.length_set,S.len]
 val:=fun j f q=>by
  rcases getSet q with ⟨rfl,z,l⟩ | ⟨n,q⟩
  ·cases z
  ·exact S.val j f q
 fz:=fun j f q=>by
  rcases getSet q with ⟨rfl,z,l⟩ | ⟨n,q⟩
  ·cases z
  ·exact S.fz j f q
 own:=fun j f q=>by
  rcases getSet q with ⟨rfl,z,l⟩ | ⟨ne,q⟩
  ·cases z
   obtain ⟨c,q1,h0,hb,_⟩:=S.own i e hi
   rw [ha] at q1
   cases q1
   exact ⟨a,ha,h0,hb,n⟩
  ·obtain ⟨c,q1,h0,hb,w⟩:=S.own j f q
   refine ⟨c,q1,h0,hb,w.step (Same.refl _) (upd_ne fun z=>?_)⟩
   subst z
   exact ne (S.sep i j e f c hi q ha q1)
 sep:=fun j k e' f c q1 q2 q3 q4=>by
  have hj:∃ e',τ[j]?=some (some (.own e')):=by
   rcases getSet q1 with ⟨rfl,z,l⟩ | ⟨_,q⟩
   ·exact ⟨e,hi⟩
   ·exact ⟨_,q⟩
  have hk:∃ e',τ[k]?=some (some (.own e')):=by
   rcases getSet q2 with ⟨rfl,z,l⟩ | ⟨_,q⟩
   ·exact ⟨e,hi⟩
   ·exact ⟨_,q⟩
  obtain ⟨_,hj⟩:=hj
  obtain ⟨_,hk⟩:=hk
  exact S.sep j k _ _ c hj hk q3 q4
theorem Stp.upd (p:Stp B H B' H') {o:HO} (h0:H a=none) (hb:B' a=none):Stp B H B' (L2.upd H' a o) :=
 ⟨p.b,p.h.put h0,fun b u q=>by
  rw [upd_ne (fun z=>by rw [z,hb] at q; cases q)]
  exact p.s _ _ q,p.d⟩
def frz (i:Nat) (τ:VSt):VSt:=match τ[i]? with
 | some (some (.own d))=>τ.set i (some (.val d))
 | _=>τ
theorem Slots.frz (S:Slots K H0 B' H' τ σ) (p:Stp B H0 B' H') (i:Nat):∃ B2,Stp B H0 B2 H'∧Same B' B2∧Slots K H0 B2 H' (frz i τ) σ:=by
 unfold L2.frz
 split
 ·rename_i d e
  obtain ⟨a,q,h0,hb,o⟩:=S.own i d e
  obtain ⟨u,eu,rp⟩:=o.pub hb
  refine ⟨L2.upd B' a u,⟨p.b.trans (same_upd hb _),p.h,same_updL p.s eu,fun c z=>?_⟩,same_upd hb _,?_⟩
  ·by_cases w:c=a
   ·exact .inr (.inl (w ▸ h0))
   ·rw [upd_ne w] at z
    exact p.d c z
  ·refine ⟨by rw [List.length_set,S.len],fun j f q'=>?_,fun j f q'=>?_,fun j f q'=>?_,fun j k f g c q1 q2 q3 q4=>?_⟩
   ·rcases getSet q' with ⟨rfl,z,l⟩ | ⟨n,q'⟩
    ·cases z
     exact ⟨_,q,rp⟩
    ·obtain ⟨w,q1,r⟩:=S.val j f q'
     exact ⟨w,q1,r.same (same_upd hb _)⟩
   ·rcases getSet q' with ⟨rfl,z,l⟩ | ⟨n,q'⟩
    ·cases z
    ·obtain ⟨w,q1,r⟩:=S.fz j f q'
     exact ⟨w,q1,r.same (same_upd hb _)⟩
   ·rcases getSet q' with ⟨rfl,z,l⟩ | ⟨n,q'⟩
    ·cases z
    ·obtain ⟨c,q1,h0',hb',w⟩:=S.own j f q'
     have ne:c≠a:=fun z=>by subst z; exact n (S.sep i j d f c e q' q q1)
     exact ⟨c,q1,h0',by rw [upd_ne ne]; exact hb',w.step (same_upd hb _) rfl⟩
   ·rcases getSet q1 with ⟨rfl,z,l⟩ | ⟨n,q1⟩
    ·cases z
    rcases getSet q2 with ⟨rfl,z,l⟩ | ⟨n2,q2⟩
    ·cases z
    exact S.sep j k f g c q1 q2 q3 q4
 ·exact ⟨B',p,Same.refl _,S⟩
end
end L2
namespace L2
open PySem PySem.Spec PyProof.Rows
abbrev TV:=VSt→(R→Prop)→Prop
abbrev TVT:=VSt→(Bool→Prop)→Prop
inductive AR where
 | ok (ds:List D)
 | exc (n:Str)
abbrev TVA:=VSt→(AR→Prop)→Prop
abbrev TVG:=D→VSt→(VSt→Prop)→Prop
structure VEnds where
 nx:VSt→Prop
 rt:R→Prop
 bk:VSt→Prop:=fun _=>False
 ct:VSt→Prop:=fun _=>False
 xc:VSt→Str→Prop:=fun _ _=>False
 ro:VSt→R→Prop:=fun _ _=>False
abbrev TVS:=VEnds→VSt→Prop
section
variable (K:PySem.W.Frag) (EX:St→XK)
def RfE (te:TE) (t:TV):Prop:=∀ (H0 B H:Hp) (τ:VSt) (σ:St) (Q:VK) (Qd:R→Prop),Same B H→Slots K H0 B H τ σ→t τ Qd→(∀ n C B' H',Stp B H B' H'→clsOf K n C→Qd (.exc n)→EX σ (.ref C) none H')→(∀ r v B' H',Stp B H B' H'→RepR K B' H H' r v→Qd r→Q v H')→te σ H Q
def RfT (te:TT) (t:TVT):Prop:=∀ (H0 B H:Hp) (τ:VSt) (σ:St) (Q:Bool→Hp→Prop) (Qd:Bool→Prop),Same B H→Slots K H0 B H τ σ→t τ Qd→(∀ b B' H',Stp B H B' H'→Qd b→Q b H')→te σ H Q
def RfA (te:TA) (t:TVA):Prop:=∀ (H0 B H:Hp) (τ:VSt) (σ:St) (Q:List V→Hp→Prop) (Qd:AR→Prop),Same B H→Slots K H0 B H τ σ→t τ Qd→(∀ n C B' H',Stp B H B' H'→clsOf K n C→Qd (.exc n)→EX σ (.ref C) none H')→(∀ ds vs B' H',Stp B H B' H'→Reps K B' ds vs→Qd (.ok ds)→Q vs H')→te σ H Q
def RfO (r:R2) (rd:R→R→(R→Prop)→Prop):Prop:=∀ (B H:Hp) (x y:V) (rx ry:R) (Q:VK) (Qd:R→Prop),Same B H→Pk K B H rx x→Pk K B H ry y→rd rx ry Qd→(∀ r v B' H',Stp B H B' H'→RepR K B' H H' r v→Qd r→Q v H')→r x y H Q
def RfC (r:List V→Hp→VK→Prop) (rd:R→(R→Prop)→Prop):Prop:=∀ (B H:Hp) (x:V) (rx:R) (Q:VK) (Qd:R→Prop),Same B H→Pk K B H rx x→rd rx Qd→(∀ r v B' H',Stp B H B' H'→RepR K B' H H' r v→Qd r→Q v H')→r [x] H Q
def Kp (τ:VSt) (σ:St) (τ':VSt) (σ':St):Prop:=∀ (j:Nat) (e:D),τ'[j]?=some (some (R.own e))→τ[j]?=some (some (R.own e))∧σ'[j]?=σ[j]?
def RfG (g:TG) (t:TVG):Prop:=∀ (H0 B H:Hp) (τ:VSt) (σ:St) (x:V) (d:D) (Q:St→Hp→Prop) (Qd:VSt→Prop),Same B H→Slots K H0 B H τ σ→Rep K B d x→t d τ Qd→(∀ τ' σ',Slots K H0 B H τ' σ'→Kp τ σ τ' σ'→Qd τ'→Q σ' H)→g x σ H Q
def RfGs (g:TGs) (t:List D→VSt→(VSt→Prop)→Prop):Prop:=∀ (H0 B H:Hp) (τ:VSt) (σ:St) (xs:List V) (ds:List D) (Q:St→Hp→Prop) (Qd:VSt→Prop),Same B H→Slots K H0 B H τ σ→Reps K B ds xs→t ds τ Qd→(∀ τ' σ',Slots K H0 B H τ' σ'→Kp τ σ τ' σ'→Qd τ'→Q σ' H)→g xs σ H Q
def ItOk (B:Hp) (J:It) (ds:List D):Prop:=∀ (i:Nat) (B2 H:Hp),Same B B2→Same B2 H→(∀ d,ds[i]?=some d→J.go i H∧∀ x H',J.yld i H x H'→∃ B3,Stp B2 H B3 H'∧Rep K B3 d x)∧(ds[i]?=none→J.stop i H)
def RfI (wi:TI) (vi:TVA):Prop:=∀ (H0 B H:Hp) (τ:VSt) (σ:St) (Q:It→Hp→Prop) (Qd:AR→Prop),Same B H→Slots K H0 B H τ σ→vi τ Qd→(∀ n C B' H',Stp B H B' H'→clsOf K n C→Qd (.exc n)→EX σ (.ref C) none H')→(∀ J ds B' H',Stp B H B' H'→ItOk K B' J ds→Qd (.ok ds)→Q J H')→wi σ H Q
def RfF (ti:TF) (t:TVT):Prop:=∀ (H0 B H:Hp) (τ:VSt) (σ:St) (Y N:Hp→Prop) (Qd:Bool→Prop),Same B H→Slots K H0 B H τ σ→t τ Qd→(∀ b B' H',Stp B H B' H'→Qd b→if b=true then Y H' else N H')→ti σ H Y N
structure EndsOk (B0 H0:Hp) (Dv:VEnds) (Dh:Ends):Prop where
 nx:∀ B H τ σ,Stp B0 H0 B H→Slots K H0 B H τ σ→Dv.nx τ→Dh.nx σ H
 rt:∀ r v B H,Stp B0 H0 B H→RepR K B H0 H r v→Dv.rt r→Dh.rt v H
 bk:∀ B H τ σ,Stp B0 H0 B H→Slots K H0 B H τ σ→Dv.bk τ→Dh.bk σ H
 ct:∀ B H τ σ,Stp B0 H0 B H→Slots K H0 B H τ σ→Dv.ct τ→Dh.ct σ H
 xc:∀ B H τ σ n C,Stp B0 H0 B H→Slots K H0 B H τ σ→clsOf K n C→Dv.xc τ n→EX σ (.ref C) none H
 ro:∀ r v B H τ σ,Stp B0 H0 B H→Slots K H0 B H τ σ→RepR K B H0 H r v→(∀ (d e:D) (i:Nat) (c:Addr),r=R.own d→τ[i]?=some (some (R.own e))→ioA e=some c→v≠.ref c)→Dv.ro τ r→Dh.rt v H
def RfS (ts:TS) (t:TVS):Prop:=∀ (B0 H0 B H:Hp) (τ:VSt) (σ:St) (Dv:VEnds) (Dh:Ends),Stp B0 H0 B H→Slots K H0 B H τ σ→t Dv τ→EndsOk K EX B0 H0 Dv Dh→ts Dh σ H
end
section
structure VE (X:Cx) (EX:St→XK) (e:Expr) (t:TV):Prop where
 u:∃ te,QE X e te∧RfE X.K EX te t
structure VC (X:Cx) (EX:St→XK) (e:Expr) (t:TV):Prop where
 u:∃ te,QC X e te∧RfE X.K EX te t
structure VT (X:Cx) (EX:St→XK) (e:Expr) (t:TVT):Prop where
 u:∃ te,QT X e te∧RfT X.K te t
structure VW (X:Cx) (EX:St→XK) (e:Expr) (t:TVT):Prop where
 u:∃ te,QW X e te∧RfT X.K te t
structure VA (X:Cx) (EX:St→XK) (es:List Expr) (t:TVA):Prop where
 u:∃ te,QA X es te∧RfA X.K EX te t
structure VI (X:Cx) (EX:St→XK) (tg e:Expr) (t:TVA):Prop where
 u:∃ wi,QI X tg e wi∧RfI X.K EX wi t
structure VFs (X:Cx) (EX:St→XK) (ifs:List Expr) (t:TVT):Prop where
 u:∃ ti,QF X ifs ti∧RfF X.K ti t
structure VS (X:Cx) (EX:St→XK) (st:Stmt) (t:TVS):Prop where
 u:∃ ts,QS X st ts∧RfS X.K EX ts t
structure VSs (X:Cx) (EX:St→XK) (st:List Stmt) (t:TVS):Prop where
 u:∃ ts,QSs X st ts∧RfS X.K EX ts t
end
section
variable (X:Cx)
structure VO (f:Value→Value→Sem Value) (rd:R→R→(R→Prop)→Prop):Prop where
 u:∃ r,OpR X f r∧RfO X.K r rd
structure VX (rd:R→R→(R→Prop)→Prop):Prop where
 u:∃ r,IxR X r∧RfO X.K r rd
structure VF (f:Value) (rd:R→(R→Prop)→Prop):Prop where
 u:∃ r,CallR X f r∧RfC X.K r rd
structure VG (tg:Expr) (t:TVG):Prop where
 u:∃ g,QG X tg g∧RfG X.K g t
structure VGs (ts:List Expr) (t:List D→VSt→(VSt→Prop)→Prop):Prop where
 u:∃ g,QGs X ts g∧RfGs X.K g t
end
section
variable {X:Cx} {EX:St→XK} {K:PySem.W.Frag} {a b c e o i:Expr} {es:List Expr} {pos pos' p p2 apos cpos:Pos} {x:Str} {ta tb tc te:TV} {tA:TVA} {tT tU:TVT} {B H B' H' H0 H1 H2:Hp} {r:R} {v:V}
theorem RepR.back (h:RepR K B H1 H2 r v) (s:Same H H1):RepR K B H H2 r v:=by
 cases r with
 | val d=>exact h
 | own d =>
  obtain ⟨a,e,h0,q⟩:=h
  exact ⟨a,e,s.free h0,q⟩
 | peek d=>exact h
 | exc n=>exact h
theorem Pk.scal {z:V} (h:Pk K B H r v) (e:dV r.d=some z):v=z:=by
 cases r with
 | val d =>
  have e':dV d=some z:=e
  have h':Rep K B d v:=h
  cases d <;> first | (unfold Rep at h'; subst h'; exact Option.some.inj e') | (cases e'; done)
 | own d =>
  obtain ⟨a,_,_,q⟩:=h
  have e':dV d=some z:=e
  cases d <;> first | (cases e'; done) | exact q.elim
 | peek d =>
  obtain ⟨a,_,_,q⟩:=h
  have e':dV d=some z:=e
  cases d <;> first | (cases e'; done) | exact q.elim
 | exc n=>exact h.elim
theorem Pk.tup {ds:List D} (h:Pk K B H r v) (e:r.d=.tup ds):∃ a xs,v=.ref a∧TupAt K B a ds xs∧Reps K B ds xs:=by
 cases r with
 | val d =>
  cases (show d=_ from e)
  have h':Rep K B (.tup ds) v:=h
  unfold Rep at h'
  exact h'
 | own d=>cases (show d=_ from e); obtain ⟨_,_,_,q⟩:=h; exact q.elim
 | peek d=>cases (show d=_ from e); obtain ⟨_,_,_,q⟩:=h; exact q.elim
 | exc n=>exact h.elim
theorem Pk.lst {ds:List D} (s:Same B H) (h:Pk K B H r v) (e:r.d=.lst ds):∃ a xs,v=.ref a∧H a=some (.lst xs)∧Reps K B ds xs:=by
 cases r with
 | val d =>
  cases (show d=_ from e)
  have h':Rep K B (.lst ds) v:=h
  unfold Rep at h'
  obtain ⟨a,xs,rfl,q,rp⟩:=h'
  exact ⟨a,xs,rfl,s _ _ q,rp⟩
 | own d=>cases (show d=_ from e); obtain ⟨a,rfl,_,xs,q,rp⟩:=h; exact ⟨a,xs,rfl,q,rp⟩
 | peek d=>cases (show d=_ from e); obtain ⟨a,rfl,_,xs,q,rp⟩:=h; exact ⟨a,xs,rfl,q,rp⟩
 | exc n=>exact h.elim
theorem Pk.scr {ns:List Int} (s:Same B H) (h:Pk K B H r v) (e:r.d=.scr ns):∃ a,v=.ref a∧SqL K H a (ns.map V.int):=by
 cases r with
 | val d =>
  cases (show d=_ from e)
  have h':Rep K B (.scr ns) v:=h
  unfold Rep at h'
  obtain ⟨a,rfl,q⟩:=h'
  exact ⟨a,rfl,s.seq q⟩
 | own d=>cases (show d=_ from e); obtain ⟨_,_,_,q⟩:=h; exact q.elim
 | peek d=>cases (show d=_ from e); obtain ⟨_,_,_,q⟩:=h; exact q.elim
 | exc n=>exact h.elim
theorem rep_dV {d:D} {z:V} (e:dV d=some z):Rep K B d z:=by
 cases d <;> first | (cases e; done) | (unfold Rep; exact (Option.some.inj e).symm)
theorem repV {d:D} {z:V} (e:dV d=some z):RepR K B H0 H (.val d) z:=rep_dV e
theorem xst {B1:Hp} {σ:St} {P:Str→Prop} (x:∀ n C B' H',Stp B H B' H'→clsOf K n C→P n→EX σ (.ref C) none H') (p:Stp B H B1 H1):∀ n C B' H',Stp B1 H1 B' H'→clsOf K n C→P n→EX σ (.ref C) none H':=fun n C B' H' q c h=>x n C B' H' (p.trans q) c h
theorem xno {σ:St} {P:Str→Prop} (h:∀ n,¬ P n):∀ n C B' H',Stp B H B' H'→clsOf K n C→P n→EX σ (.ref C) none H':=fun n _ _ _ _ _ q=>absurd q (h n)
def vVar (i:Nat):TV:=fun τ Q=>match τ[i]? with
 | some (some (.val d))=>Q (.val d)
 | some (some (.own d))=>Q (.peek d)
 | some (some (.peek d))=>Q (.val d)
 | _=>False
theorem rf_var {i:Nat}:RfE K EX (tVar i) (vVar i):=fun H0 B H τ σ Q Qd s S h _ k=>by
 unfold vVar at h
 split at h
 ·rename_i d e
  obtain ⟨v,q,rp⟩:=S.val i d e
  exact ⟨v,q,k (.val d) v B H (.refl s) rp h⟩
 ·rename_i d e
  obtain ⟨a,q,_,hb,ow⟩:=S.own i d e
  exact ⟨.ref a,q,k (.peek d) (.ref a) B H (.refl s) ⟨a,rfl,hb,ow⟩ h⟩
 ·rename_i d e
  obtain ⟨v,q,rp⟩:=S.fz i d e
  exact ⟨v,q,k (.val d) v B H (.refl s) rp.rep h⟩
 ·exact h.elim
theorem vv (i:Nat) (hN:X.N[i]?=some x:=by rfl) (hv:Vis X.env.scope x:=by first | exact Or.inl rfl | exact Or.inr (Or.inl rfl) | exact Or.inr (Or.inr rfl)) (hd:(x == ("__debug__" : Str))=false:=by decide)
  (hcd:(x == ("__classdict__" : Str))=false:=by decide):VE X EX (.Name x pos) (vVar i):=⟨_,qv i hN hv hd hcd,rf_var⟩
def vC (d:D):TV:=fun _ Q=>Q (.val d)
theorem rf_c {d:D} {z:V} (e:dV d=some z):RfE K EX (tC z) (vC d):=fun _ B H _ _ _ _ s _ h _ k=>k (.val d) z B H (.refl s) (rep_dV e) h
theorem ve_int {k:Int} {j:Nat}:VE X EX (.Constant (.int k) j pos) (vC (.int k)):=⟨_,qe_int,rf_c rfl⟩
theorem ve_bl {k:Bool} {j:Nat}:VE X EX (.Constant (.bool k) j pos) (vC (.bl k)):=⟨_,qe_bl,rf_c rfl⟩
theorem ve_non {j:Nat}:VE X EX (.Constant .none j pos) (vC .non):=⟨_,qe_non,rf_c rfl⟩
theorem ve_str {z:Str} {j:Nat}:VE X EX (.Constant (.str z) j pos) (vC (.str z)):=⟨_,qe_str,rf_c rfl⟩
theorem RepR.ok {Q:R→Prop} {k:Prop} (h:RepR K B H0 H r v) (q:exR r Q k):k:=by
 cases r with
 | exc n=>exact h.elim
 | val d=>exact q
 | own d=>exact q
 | peek d=>exact q
def vOp (rd:R→R→(R→Prop)→Prop) (ta tb:TV):TV:=fun τ Q=>ta τ fun rx=>exR rx Q (tb τ fun ry=>exR ry Q (rd rx ry Q))
theorem rf_op {rr:R2} {rd:R→R→(R→Prop)→Prop} {ea eb:TE} (hr:RfO K rr rd) (ha:RfE K EX ea ta) (hb:RfE K EX eb tb):RfE K EX (tOp rr ea eb) (vOp rd ta tb):=fun H0 B H τ σ Q Qd s S h xc k =>
 ha H0 B H τ σ _ _ s S h xc fun rx x B1 H1 p1 q1 h1=>hb H0 B1 H1 τ σ _ _ p1.s (S.step p1) (q1.ok h1) (xst xc p1) fun ry y B2 H2 p2 q2 h2 =>
  hr B2 H2 x y rx ry _ _ p2.s (q1.pk.step p2) q2.pk (q2.ok h2) fun r v B3 H3 p3 q3 h3=>k r v B3 H3 (p1.trans (p2.trans p3)) (q3.back (p1.trans p2).h) h3
theorem ve_op {op:Operator} {rd:R→R→(R→Prop)→Prop} (hr:VO X (binaryOp op) rd) (ha:VE X EX a ta) (hb:VE X EX b tb):VE X EX (.BinOp a op b pos) (vOp rd ta tb) :=
 let ⟨_,h1,h2⟩:=hr.u; let ⟨_,a1,a2⟩:=ha.u; let ⟨_,b1,b2⟩:=hb.u; ⟨_,qe_op h1 a1 b1,rf_op h2 a2 b2⟩
theorem ve_cmp {op:CmpOp} {rd:R→R→(R→Prop)→Prop} (hr:VO X (compareOp op) rd) (ha:VE X EX a ta) (hb:VE X EX b tb) (hm:behindInMarks op b=false:=by with_unfolding_all rfl):VE X EX (.Compare a [op] [b] pos) (vOp rd ta tb) :=
 let ⟨_,h1,h2⟩:=hr.u; let ⟨_,a1,a2⟩:=ha.u; let ⟨_,b1,b2⟩:=hb.u; ⟨_,qe_cmpR h1 a1 b1 hm,rf_op h2 a2 b2⟩
theorem ve_ix {rd:R→R→(R→Prop)→Prop} (hr:VX X rd) (ha:VE X EX a ta) (hb:VE X EX b tb) (hs:PlainIx b:=by exact fun _ _=>rfl):VE X EX (.Subscript a b pos) (vOp rd ta tb) :=
 let ⟨_,h1,h2⟩:=hr.u; let ⟨_,a1,a2⟩:=ha.u; let ⟨_,b1,b2⟩:=hb.u; ⟨_,qe_ix h1 a1 b1 hs,rf_op h2 a2 b2⟩
def vBl (t:TV):TVT:=fun τ Q=>t τ fun r=>match r.d with
 | .bl b=>Q b
 | _=>False
theorem rf_bl {ea:TE} (ha:RfE K EX ea ta):RfT K (tB ea) (vBl ta):=fun H0 B H τ σ Q Qd s S h k=>ha H0 B H τ σ _ _ s S h (xno fun _ q=>q) fun r v B' H' p q h1=>by
 split at h1
 ·rename_i bb e
  exact ⟨bb,q.pk.scal (by rw [e]; rfl),k bb B' H' p h1⟩
 ·exact h1.elim
theorem vt_val (ha:VE X EX e ta) (he:∀ whole,isTrue e X.env whole=(do let v ← whole; standAt e.pos; holding [v] (truthy v)):=by intro _; rfl):VT X EX e (vBl ta) :=
 let ⟨_,a1,a2⟩:=ha.u; ⟨_,qt_val a1 he,rf_bl a2⟩
theorem vt_cmp {op:CmpOp} {rd:R→R→(R→Prop)→Prop} (hr:VO X (compareOp op) rd) (ha:VE X EX a ta) (hb:VE X EX b tb) (hm:behindInMarks op b=false:=by with_unfolding_all rfl):VT X EX (.Compare a [op] [b] pos) (vBl (vOp rd ta tb)) :=
 let ⟨_,h1,h2⟩:=hr.u; let ⟨_,a1,a2⟩:=ha.u; let ⟨_,b1,b2⟩:=hb.u; ⟨_,qt_cmpR h1 a1 b1 hm,rf_bl (rf_op h2 a2 b2)⟩
def vAndT (t u:TVT):TVT:=fun τ Q=>t τ fun c=>if c=true then u τ Q else Q false
def vOrT (t u:TVT):TVT:=fun τ Q=>t τ fun c=>if c=true then Q true else u τ Q
def vNotT (t:TVT):TVT:=fun τ Q=>t τ fun c=>Q (!c)
theorem rf_not {e1:TT} (h1:RfT K e1 tT):RfT K (tNot e1) (vNotT tT):=fun H0 B H τ σ Q Qd s S h k=>h1 H0 B H τ σ _ _ s S h fun b B' H' p q=>k _ B' H' p q
theorem rf_and {e1 e2:TT} (h1:RfT K e1 tT) (h2:RfT K e2 tU):RfT K (tAnd e1 e2) (vAndT tT tU):=fun H0 B H τ σ Q Qd s S h k=>h1 H0 B H τ σ _ _ s S h fun b B' H' p q=>by
 cases b with
 | true=>exact iteT (h2 H0 B' H' τ σ _ _ p.s (S.step p) (by rw [if_pos rfl] at q; exact q) fun b2 B2 H2 p2 q2=>k b2 B2 H2 (p.trans p2) q2)
 | false=>exact iteF (k false B' H' p (by rw [if_neg Bool.false_ne_true] at q; exact q))
theorem rf_or {e1 e2:TT} (h1:RfT K e1 tT) (h2:RfT K e2 tU):RfT K (tOr e1 e2) (vOrT tT tU):=fun H0 B H τ σ Q Qd s S h k=>h1 H0 B H τ σ _ _ s S h fun b B' H' p q=>by
 cases b with
 | true=>exact iteT (k true B' H' p (by rw [if_pos rfl] at q; exact q))
 | false=>exact iteF (h2 H0 B' H' τ σ _ _ p.s (S.step p) (by rw [if_neg Bool.false_ne_true] at q; exact q) fun b2 B2 H2 p2 q2=>k b2 B2 H2 (p.trans p2) q2)
theorem vt_not (h:VT X EX a tT):VT X EX (.UnaryOp .Not a pos) (vNotT tT):=let ⟨_,a1,a2⟩:=h.u; ⟨_,qt_not a1,rf_not a2⟩
theorem vw_and1 (h:VT X EX a tT):VW X EX (.BoolOp .And [a] pos) tT:=let ⟨_,a1,a2⟩:=h.u; ⟨_,qw_and1 a1,a2⟩
theorem vw_or1 (h:VT X EX a tT):VW X EX (.BoolOp .Or [a] pos) tT:=let ⟨_,a1,a2⟩:=h.u; ⟨_,qw_or1 a1,a2⟩
theorem vw_and (ha:VT X EX a tT) (hb:VW X EX (.BoolOp .And (b :: es) pos) tU):VW X EX (.BoolOp .And (a :: b :: es) pos) (vAndT tT tU):=let ⟨_,a1,a2⟩:=ha.u; let ⟨_,b1,b2⟩:=hb.u; ⟨_,qw_and a1 b1,rf_and a2 b2⟩
theorem vw_or (ha:VT X EX a tT) (hb:VW X EX (.BoolOp .Or (b :: es) pos) tU):VW X EX (.BoolOp .Or (a :: b :: es) pos) (vOrT tT tU):=let ⟨_,a1,a2⟩:=ha.u; let ⟨_,b1,b2⟩:=hb.u; ⟨_,qw_or a1 b1,rf_or a2 b2⟩
theorem vw_t (h:VW X EX e tT):VT X EX e tT:=let ⟨_,a1,a2⟩:=h.u; ⟨_,qw_t a1,a2⟩
def vAndE (ta tb:TV):TV:=fun τ Q=>ta τ fun r=>match r.d with
 | .bl c=>if c=true then tb τ Q else Q (.val (.bl false))
 | _=>False
def vOrE (ta tb:TV):TV:=fun τ Q=>ta τ fun r=>match r.d with
 | .bl c=>if c=true then Q (.val (.bl true)) else tb τ Q
 | _=>False
def vNotE (ta:TV):TV:=fun τ Q=>ta τ fun r=>match r.d with
 | .bl c=>Q (.val (.bl (!c)))
 | _=>False
theorem ve_one {op:BoolOp} (h:VE X EX a ta):VE X EX (.BoolOp op [a] pos) ta:=let ⟨_,a1,a2⟩:=h.u; ⟨_,qe_one a1,a2⟩
theorem ve_and (ha:VE X EX a ta) (hb:VE X EX (.BoolOp .And (b :: es) pos) tb):VE X EX (.BoolOp .And (a :: b :: es) pos) (vAndE ta tb) :=
 let ⟨_,a1,a2⟩:=ha.u; let ⟨_,b1,b2⟩:=hb.u; ⟨_,qe_and a1 b1,fun H0 B H τ σ Q Qd s S h xc k=>a2 H0 B H τ σ _ _ s S h (xno fun _ q=>q) fun r v B' H' p q h1=>by
  split at h1
  ·rename_i c e
   refine ⟨c,q.pk.scal (by rw [e]; rfl),?_⟩
   cases c with
   | true=>exact iteT (b2 H0 B' H' τ σ _ _ p.s (S.step p) (by rw [if_pos rfl] at h1; exact h1) (xst xc p) fun r2 v2 B2 H2 p2 q2 h2=>k r2 v2 B2 H2 (p.trans p2) (q2.back p.h) h2)
   | false=>exact iteF (k (.val (.bl false)) _ B' H' p (repV (d:=.bl false) rfl) (by rw [if_neg Bool.false_ne_true] at h1; exact h1))
  ·exact h1.elim⟩
theorem ve_or (ha:VE X EX a ta) (hb:VE X EX (.BoolOp .Or (b :: es) pos) tb):VE X EX (.BoolOp .Or (a :: b :: es) pos) (vOrE ta tb) :=
 let ⟨_,a1,a2⟩:=ha.u; let ⟨_,b1,b2⟩:=hb.u; ⟨_,qe_or a1 b1,fun H0 B H τ σ Q Qd s S h xc k=>a2 H0 B H τ σ _ _ s S h (xno fun _ q=>q) fun r v B' H' p q h1=>by
  split at h1
  ·rename_i c e
   refine ⟨c,q.pk.scal (by rw [e]; rfl),?_⟩
   cases c with
   | true=>exact iteT (k (.val (.bl true)) _ B' H' p (repV (d:=.bl true) rfl) (by rw [if_pos rfl] at h1; exact h1))
   | false=>exact iteF (b2 H0 B' H' τ σ _ _ p.s (S.step p) (by rw [if_neg Bool.false_ne_true] at h1; exact h1) (xst xc p) fun r2 v2 B2 H2 p2 q2 h2=>k r2 v2 B2 H2 (p.trans p2) (q2.back p.h) h2)
  ·exact h1.elim⟩
theorem ve_not (ha:VE X EX a ta):VE X EX (.UnaryOp .Not a pos) (vNotE ta) :=
 let ⟨_,a1,a2⟩:=ha.u; ⟨_,qe_not a1,fun H0 B H τ σ Q Qd s S h xc k=>a2 H0 B H τ σ _ _ s S h (xno fun _ q=>q) fun r v B' H' p q h1=>by
  split at h1
  ·rename_i c e
   exact ⟨c,q.pk.scal (by rw [e]; rfl),k (.val (.bl (!c))) _ B' H' p (repV (d:=.bl (!c)) rfl) h1⟩
  ·exact h1.elim⟩
def vIfE (tT:TVT) (ta tb:TV):TV:=fun τ Q=>tT τ fun c=>if c=true then ta τ Q else tb τ Q
theorem ve_ifExp (hc:VT X EX c tT) (ha:VE X EX a ta) (hb:VE X EX b tb):VE X EX (.IfExp c a b pos) (vIfE tT ta tb) :=
 let ⟨_,c1,c2⟩:=hc.u; let ⟨_,a1,a2⟩:=ha.u; let ⟨_,b1,b2⟩:=hb.u; ⟨_,qe_ifExp c1 a1 b1,fun H0 B H τ σ Q Qd s S h xc k=>c2 H0 B H τ σ _ _ s S h fun cb B' H' p q=>by
  cases cb with
  | true=>exact iteT (a2 H0 B' H' τ σ _ _ p.s (S.step p) (by rw [if_pos rfl] at q; exact q) (xst xc p) fun r2 v2 B2 H2 p2 q2 h2=>k r2 v2 B2 H2 (p.trans p2) (q2.back p.h) h2)
  | false=>exact iteF (b2 H0 B' H' τ σ _ _ p.s (S.step p) (by rw [if_neg Bool.false_ne_true] at q; exact q) (xst xc p) fun r2 v2 B2 H2 p2 q2 h2=>k r2 v2 B2 H2 (p.trans p2) (q2.back p.h) h2)⟩
def exA:AR→(R→Prop)→(List D→Prop)→Prop
 | .ok ds,_,k=>k ds
 | .exc n,Q,_=>Q (.exc n)
def vNil:TVA:=fun _ Q=>Q (.ok [])
def moreA (d:D):AR→AR
 | .ok ds=>.ok (d :: ds)
 | .exc n=>.exc n
def excA:R→(AR→Prop)→Prop→Prop
 | .exc n,Q,_=>Q (.exc n)
 | .val _,_,k=>k
 | .own _,_,k=>k
 | .peek _,_,k=>k
theorem RepR.okA {Q:AR→Prop} {k:Prop} (h:RepR K B H0 H r v) (q:excA r Q k):k:=by
 cases r with
 | exc n=>exact h.elim
 | val d=>exact q
 | own d=>exact q
 | peek d=>exact q
def vCons (te:TV) (tA:TVA):TVA:=fun τ Q=>te τ fun r=>excA r Q (pubR r fun d=>tA τ fun a=>Q (moreA d a))
theorem va_nil:VA X EX [] vNil:=⟨_,qa_nil,fun _ B H _ _ _ _ s _ h _ k=>k [] [] B H (.refl s) (by unfold Reps; rfl) h⟩
theorem vac (ha:VE X EX e te) (hr:VA X EX es tA) (hs:plainE e=true:=by rfl):VA X EX (e :: es) (vCons te tA) :=
 let ⟨_,a1,a2⟩:=ha.u; let ⟨_,b1,b2⟩:=hr.u; ⟨_,qac a1 b1 hs,fun H0 B H τ σ Q Qd s S h xc k=>a2 H0 B H τ σ _ _ s S h xc fun r v B1 H1 p q h1=>by
  obtain ⟨d,B2,p2,_,rp,h2⟩:=pub p q (q.okA h1)
  exact b2 H0 B2 H1 τ σ _ _ p2.s (S.step p2) h2 (xst xc p2) fun ds vs B3 H3 p3 q3 h3=>k (d :: ds) (v :: vs) B3 H3 (p2.trans p3) (by unfold Reps; exact ⟨v,vs,rfl,rp.same p3.b,q3⟩) h3⟩
def vTup (tA:TVA):TV:=fun τ Q=>tA τ fun a=>exA a Q fun ds=>ds.length≤sizeLine∧Q (.val (.tup ds))
def vLst (tA:TVA):TV:=fun τ Q=>tA τ fun a=>exA a Q fun ds=>ds.length≤sizeLine∧Q (.own (.lst ds))
theorem rep_newT {ds:List D} {xs:List V} {q:Addr} (h:Reps K B ds xs) (hb:B q=none):Rep K (upd B q (.tup xs)) (.tup ds) (.ref q):=by
 unfold Rep
 exact ⟨q,xs,rfl,.inl upd_same,h.same (same_upd hb _)⟩
theorem own_newL {ds:List D} {xs:List V} {q:Addr} (h:Reps K B ds xs):OwnAt K B (upd H q (.lst xs)) (.lst ds) q:=⟨xs,upd_same,h⟩
theorem ve_tup {k:Nat} (h:VA X EX es tA):VE X EX (.Tuple es k pos) (vTup tA) :=
 let ⟨_,a1,a2⟩:=h.u; ⟨_,qe_tup a1,fun H0 B H τ σ Q Qd s S h xc k=>a2 H0 B H τ σ _ _ s S h xc fun ds vs B1 H1 p q h1 =>
  ⟨by rw [← q.length]; exact h1.1,fun ad had=>k (.val (.tup ds)) _ (upd B1 ad (.tup vs)) _ (p.trans (.new p.s had)) (rep_newT q (p.s.free had)) h1.2⟩⟩
theorem ve_lst (h:VA X EX es tA):VE X EX (.List es pos) (vLst tA) :=
 let ⟨_,a1,a2⟩:=h.u; ⟨_,qe_lst a1,fun H0 B H τ σ Q Qd s S h xc k=>a2 H0 B H τ σ _ _ s S h xc fun ds vs B1 H1 p q h1 =>
  ⟨by rw [← q.length]; exact h1.1,fun ad had=>k (.own (.lst ds)) _ B1 _ (p.trans (.grow p.s (same_upd had _))) ⟨ad,rfl,p.h.free had,p.s.free had,own_newL q⟩ h1.2⟩⟩
abbrev DP:=List D→(R→Prop)→Prop
def spOf (K:PySem.W.Frag) (g:DP):Sp:=fun vs H Q E=>∃ ds B Qd,Same B H∧Reps K B ds vs∧g ds Qd∧(∀ n C B' H',Qd (.exc n)→Stp B H B' H'→clsOf K n C→E (.ref C) none H')∧∀ r v B' H',Qd r→Stp B H B' H'→RepR K B' H H' r v→Q v H'
def vCall (g:DP) (tA:TVA):TV:=fun τ Q=>tA τ fun a=>exA a Q fun ds=>g ds Q
def vCallN (g:DP) (tA:TVA):TV:=fun τ Q=>tA τ fun a=>exA a Q fun ds=>g ds fun r=>exR r (fun _=>False) (Q r)
theorem ve_cal {k:Nat} {ps:List Str} {g:DP} (C:Cal X.prog X.w X.K X.mg X.base k x ps (spOf X.K g)) (hr:Room k X.A) (hg:Gl X x) (ha:VA X EX (e :: es) tA) (hp:(e :: es).all plainE=true:=by rfl) (hdb:(x == ("__debug__" : Str))=false:=by decide) :
  VE X EX (.Call (.Name x p) (e :: es) [] pos) (vCallN g tA) :=
 let ⟨_,a1,a2⟩:=ha.u; ⟨_,qe_cal C hr hg a1 hp hdb,fun H0 B H τ σ Q Qd s S h xc k=>a2 H0 B H τ σ _ _ s S h xc fun ds vs B1 H1 p q h1 =>
  ⟨ds,B1,_,p.s,by rw [List.append_nil]; exact q,h1,fun n C B' H' hq _ _=>hq.elim,fun r v B2 H2 hq p2 q2=>k r v B2 H2 (p.trans p2) (q2.back p.h) (q2.ok hq)⟩⟩
def vF1 (rd:R→(R→Prop)→Prop) (te:TV):TV:=fun τ Q=>te τ fun r=>exR r Q (rd r Q)
theorem rf_f1 {rr:List V→Hp→VK→Prop} {rd:R→(R→Prop)→Prop} {ea:TE} (hr:RfC K rr rd) (ha:RfE K EX ea te):RfE K EX (tCB rr (tCons ea tNil)) (vF1 rd te):=fun H0 B H τ σ Q Qd s S h xc k =>
 ha H0 B H τ σ _ _ s S h xc fun rx x B1 H1 p1 q1 h1=>hr B1 H1 x rx _ _ p1.s q1.pk (q1.ok h1) fun r v B2 H2 p2 q2 h2=>k r v B2 H2 (p1.trans p2) (q2.back p1.h) h2
theorem ve_fb {id:String} {rd:R→(R→Prop)→Prop} (hc:VF X (.builtin id) rd) (hg:Gl X x) (hm:X.mg x=none) (hv:bootBuiltins x=some (.builtin id)) (ha:VE X EX e te) (hp:plainE e=true:=by rfl) (hn:x≠"__name__" := by decide)
  (hdb:(x == ("__debug__" : Str))=false:=by decide):VE X EX (.Call (.Name x p) [e] [] pos) (vF1 rd te) :=
 let ⟨_,c1,c2⟩:=hc.u; let ⟨_,a1,a2⟩:=ha.u; ⟨_,qcb c1 hg hm hv (qac a1 qa_nil hp) (by simp [hp]) hn hdb,rf_f1 c2 a2⟩
theorem ve_ft {T:String} {rd:R→(R→Prop)→Prop} (hc:VF X (.type T) rd) (hg:Gl X x) (hm:X.mg x=none) (hv:bootBuiltins x=some (.type T)) (ha:VE X EX e te) (hp:plainE e=true:=by rfl) (hn:x≠"__name__" := by decide)
  (hdb:(x == ("__debug__" : Str))=false:=by decide):VE X EX (.Call (.Name x p) [e] [] pos) (vF1 rd te) :=
 let ⟨_,c1,c2⟩:=hc.u; let ⟨_,a1,a2⟩:=ha.u; ⟨_,qct c1 hg hm hv (qac a1 qa_nil hp) (by simp [hp]) hn hdb,rf_f1 c2 a2⟩
end
end L2
namespace L2
open PySem PySem.Spec PyProof.Rows
section
variable {X:Cx} {EX:St→XK} {K:PySem.W.Frag} {B H B' H' H0:Hp}
theorem op_catP:OpR X (binaryOp .Add) (fun x y H Q=>∃ a b xs ys,x=.ref a∧y=.ref b∧SqT X.K H a xs∧SqT X.K H b ys∧xs.length+ys.length≤sizeLine∧(xs=[]→Q (.ref b) H)∧(xs≠[]→ys=[]→Q (.ref a) H) ∧
  (xs≠[]→ys≠[]→∀ p,H p=none→Q (.ref p) (upd H p (.tup (xs++ys))))):=by
 intro pins s σ H x y v u Q I rx ry h
 obtain ⟨a,b,xs,ys,rfl,rfl,ha,hb,hz,q1,q2,q3⟩:=h
 by_cases hx:xs=[]
 ·subst hx
  cases rx
  cases ry
  obtain ⟨its,r1,p1,_⟩:=I.tuple ha
  obtain ⟨its2,r2,p2,_⟩:=I.tuple hb
  obtain ⟨⟨cls,dd,data,sl⟩,ho,hc,n,hd⟩:=id p1
  obtain ⟨⟨cls2,dd2,data2,sl2⟩,ho2,hc2,n2,hd2⟩:=id p2
  simp only at hc hd hc2 hd2
  subst hc hd hc2 hd2
  have e1:its=[]:=r1.nil_iff.mpr rfl
  exact concat_meets ⟨_,ho,rfl⟩ ⟨_,ho2,rfl⟩ noFill_tuple_add seq_tuple_add PySem.F.slot_tuple_add PySem.F.entry_tuple_add (PySem.F.args_tuple_add_2 _ _)
   (tuple_addW0 a b its.toArray its2.toArray n n2 dd dd2 sl sl2 (by simp [e1])) ⟨ho,ho2,⟨.ref b,H,I,rfl,q1 rfl⟩⟩
 ·exact op_catT pins s σ H (.ref a) (.ref b) v u Q I rx ry ⟨a,b,xs,ys,rfl,rfl,ha,hb,hx,hz,fun e=>q2 hx e,fun e p hp=>q3 hx e p hp⟩
theorem sl_tupP:SlR X (fun x lo hi H Q=>∃ a xs,x=.ref a∧SqT X.K H a xs∧((HT.sIx xs.length 0 lo=0∧HT.sIx xs.length xs.length hi=xs.length)→Q (.ref a) H) ∧
  (¬ (HT.sIx xs.length 0 lo=0∧HT.sIx xs.length xs.length hi=xs.length)→∀ p,H p=none→Q (.ref p) (upd H p (.tup (cutV xs lo hi))))):=by
 intro pins s σ H x v vl vu lo hi sl Q I rx hs pl pu h
 obtain ⟨a,xs,rfl,hx,q1,q2⟩:=h
 by_cases hw:HT.sIx xs.length 0 lo=0∧HT.sIx xs.length xs.length hi=xs.length
 ·cases rx
  obtain ⟨its,r,ht,hz⟩:=I.tuple hx
  have hlen:its.toArray.size=xs.length:=by rw [List.size_toArray]; exact r.length.symm
  refine ⟨"tuple",_,PyProof.Rows.slot_tuple_getitem.lookup,ht.typeIs,?_⟩
  exact HT.getItem_tuple_whole ht hs pl pu (by rw [hlen]; exact hw) ⟨.ref a,H,I,rfl,q1 hw⟩
 ·exact sl_tup pins s σ H (.ref a) v vl vu lo hi sl Q I rx hs pl pu ⟨a,xs,rfl,hx,hw,q2 hw⟩
theorem Reps.append {ds es:List D} {xs ys:List V} (h1:Reps K B ds xs) (h2:Reps K B es ys):Reps K B (ds++es) (xs++ys):=by
 induction ds generalizing xs with
 | nil=>unfold Reps at h1; subst h1; exact h2
 | cons d ds ih =>
  unfold Reps at h1
  obtain ⟨x,r,rfl,q1,q2⟩:=h1
  show Reps K B (d :: (ds++es)) (x :: (r++ys))
  unfold Reps
  exact ⟨x,r++ys,rfl,q1,ih q2⟩
theorem Reps.nil:Reps K B [] []:=by unfold Reps; rfl
theorem Reps.cons {d:D} {ds:List D} {x:V} {xs:List V} (h1:Rep K B d x) (h2:Reps K B ds xs):Reps K B (d :: ds) (x :: xs):=by unfold Reps; exact ⟨x,xs,rfl,h1,h2⟩
theorem Reps.one {d:D} {x:V} (h:Rep K B d x):Reps K B [d] [x]:=.cons h .nil
theorem Reps.drop:∀ (n:Nat) {ds:List D} {xs:List V},Reps K B ds xs→Reps K B (ds.drop n) (xs.drop n)
 | 0,_,_,h=>h
 | n+1,[],_,h=>by unfold Reps at h; subst h; exact .nil
 | n+1,d :: ds,_,h=>by
  unfold Reps at h
  obtain ⟨x,r,rfl,q1,q2⟩:=h
  exact Reps.drop n q2
theorem Reps.take:∀ (n:Nat) {ds:List D} {xs:List V},Reps K B ds xs→Reps K B (ds.take n) (xs.take n)
 | 0,_,_,_=>.nil
 | n+1,[],_,h=>by unfold Reps at h; subst h; exact .nil
 | n+1,d :: ds,_,h=>by
  unfold Reps at h
  obtain ⟨x,r,rfl,q1,q2⟩:=h
  exact .cons q1 (Reps.take n q2)
theorem Reps.cut {ds:List D} {xs:List V} (lo hi:Option Int) (h:Reps K B ds xs):Reps K B (cutL ds lo hi) (cutV xs lo hi):=by
 unfold cutL cutV
 rw [h.length]
 exact (h.drop _).take _
theorem Reps.ints (ns:List Int):Reps K B (ns.map D.int) (ns.map V.int):=by
 induction ns with
 | nil=>exact .nil
 | cons n ns ih=>exact .cons (rep_dV (d:=.int n) rfl) ih
theorem Reps.strs:∀ {ss:List Str} {xs:List V},Reps K B (ss.map D.str) xs→xs=ss.map V.str
 | [],_,h=>by unfold Reps at h; exact h
 | s :: ss,_,h=>by
  have h':Reps K B (.str s :: ss.map D.str) _:=h
  unfold Reps at h'
  obtain ⟨x,r,rfl,q1,q2⟩:=h'
  unfold Rep at q1
  rw [q1,Reps.strs q2]
  rfl
theorem Reps.atI {ds:List D} {xs:List V} {i:Int} {d:D} (h:Reps K B ds xs) (e:L2.atI ds i=some d):∃ x,L2.atI xs i=some x∧Rep K B d x:=by
 unfold L2.atI at e ⊢
 rw [← h.length]
 cases q:ixN ds.length i with
 | none=>rw [q] at e; cases e
 | some j =>
  rw [q] at e
  exact h.at e
def vAdd (rx ry:R) (Q:R→Prop):Prop:=match rx.d,ry.d with
 | .int i,.int j=>Q (.val (.int (i+j)))
 | .str a,.str b=>a.length+b.length≤sizeLine∧Q (.val (.str (a++b)))
 | .tup a,.tup b=>a.length+b.length≤sizeLine∧Q (.val (.tup (a++b)))
 | .lst a,.lst b=>a.length+b.length≤sizeLine∧Q (.own (.lst (a++b)))
 | _,_=>False
theorem vo_add:VO X (binaryOp .Add) vAdd:=by
 refine ⟨_,op_add.or (op_add_str.or (op_catP.or op_cat)),fun B H x y rx ry Q Qd s px py h k=>?_⟩
 unfold vAdd at h
 split at h
 ·rename_i i j e1 e2
  exact .inl ⟨i,j,px.scal (by rw [e1]; rfl),py.scal (by rw [e2]; rfl),k _ _ B H (.refl s) (repV rfl) h⟩
 ·rename_i i j e1 e2
  exact .inr (.inl ⟨i,j,px.scal (by rw [e1]; rfl),py.scal (by rw [e2]; rfl),h.1,k _ _ B H (.refl s) (repV rfl) h.2⟩)
 ·rename_i ds es e1 e2
  obtain ⟨a,xs,rfl,h1,r1⟩:=px.tup e1
  obtain ⟨b,ys,rfl,h2,r2⟩:=py.tup e2
  refine .inr (.inr (.inl ⟨a,b,xs,ys,rfl,rfl,s.sqT h1.sq,s.sqT h2.sq,by rw [← r1.length,← r2.length]; exact h.1,fun z=>?_,fun _ z=>?_,fun _ _ p hp=>?_⟩))
  ·refine k _ _ B H (.refl s) ?_ h.2
   show Rep X.K B (.tup (ds++es)) _
   have e:ds=[]:=List.eq_nil_of_length_eq_zero (by rw [r1.length,z]; rfl)
   unfold Rep
   exact ⟨b,ys,rfl,by rw [e]; exact h2,by rw [e]; exact r2⟩
  ·refine k _ _ B H (.refl s) ?_ h.2
   show Rep X.K B (.tup (ds++es)) _
   have e:es=[]:=List.eq_nil_of_length_eq_zero (by rw [r2.length,z]; rfl)
   unfold Rep
   exact ⟨a,xs,rfl,by rw [e,List.append_nil]; exact h1,by rw [e,List.append_nil]; exact r1⟩
  ·exact k (.val (.tup (ds++es))) _ (upd B p (.tup (xs++ys))) _ (.new s hp) (rep_newT (r1.append r2) (s.free hp)) h.2
 ·rename_i ds es e1 e2
  obtain ⟨a,xs,rfl,h1,r1⟩:=px.lst s e1
  obtain ⟨b,ys,rfl,h2,r2⟩:=py.lst s e2
  exact .inr (.inr (.inr ⟨a,b,xs,ys,rfl,rfl,h1,h2,by rw [← r1.length,← r2.length]; exact h.1,fun p hp=>k (.own (.lst (ds++es))) _ B _ (.grow s (same_upd hp _)) ⟨p,rfl,hp,s.free hp,own_newL (r1.append r2)⟩ h.2⟩))
 ·exact h.elim
def vI2 (C:Int→Int→Prop) (f:Int→Int→D) (rx ry:R) (Q:R→Prop):Prop:=match rx.d,ry.d with
 | .int i,.int j=>C i j∧Q (.val (f i j))
 | _,_=>False
def vI2' (f:Int→Int→D) (rx ry:R) (Q:R→Prop):Prop:=match rx.d,ry.d with
 | .int i,.int j=>Q (.val (f i j))
 | _,_=>False
theorem vo_i2 {g:Value→Value→Sem Value} {C:Int→Int→Prop} {f:Int→Int→D} {f':Int→Int→V} (hf:∀ i j,dV (f i j)=some (f' i j)) (h:OpR X g (rI C f')):VO X g (vI2 C f):=by
 refine ⟨_,h,fun B H x y rx ry Q Qd s px py h k=>?_⟩
 unfold vI2 at h
 split at h
 ·rename_i i j e1 e2
  exact ⟨i,j,px.scal (by rw [e1]; rfl),py.scal (by rw [e2]; rfl),h.1,k _ _ B H (.refl s) (repV (hf i j)) h.2⟩
 ·exact h.elim
theorem vo_i2' {g:Value→Value→Sem Value} {f:Int→Int→D} {f':Int→Int→V} (hf:∀ i j,dV (f i j)=some (f' i j)) (h:OpR X g (rI0 f')):VO X g (vI2' f):=by
 refine ⟨_,h,fun B H x y rx ry Q Qd s px py h k=>?_⟩
 unfold vI2' at h
 split at h
 ·rename_i i j e1 e2
  exact ⟨i,j,px.scal (by rw [e1]; rfl),py.scal (by rw [e2]; rfl),k _ _ B H (.refl s) (repV (hf i j)) h⟩
 ·exact h.elim
abbrev vSub:=vI2' fun i j=>.int (i - j)
abbrev vMul:=vI2 CMul fun i j=>.int (i * j)
abbrev vDiv:=vI2 CDiv fun i j=>.int (i / j)
abbrev vMod:=vI2 (fun _ j=>0 < j) fun i j=>.int (i % j)
abbrev vPow:=vI2 CPow fun i j=>.int (i ^ j.toNat)
abbrev vLt:=vI2' fun i j=>.bl (decide (i < j))
abbrev vLe:=vI2' fun i j=>.bl (decide (i≤j))
abbrev vGt:=vI2' fun i j=>.bl (decide (j < i))
abbrev vGe:=vI2' fun i j=>.bl (decide (j≤i))
theorem vo_sub:VO X (binaryOp .Sub) vSub:=vo_i2' (fun _ _=>rfl) op_sub
theorem vo_mul:VO X (binaryOp .Mult) vMul:=vo_i2 (fun _ _=>rfl) op_mul
theorem vo_div:VO X (binaryOp .FloorDiv) vDiv:=vo_i2 (fun _ _=>rfl) op_fdiv
theorem vo_mod:VO X (binaryOp .Mod) vMod:=vo_i2 (fun _ _=>rfl) op_mod
theorem vo_pow:VO X (binaryOp .Pow) vPow:=vo_i2 (fun _ _=>rfl) op_pow
theorem vo_lt:VO X (compareOp .Lt) vLt:=vo_i2' (fun _ _=>rfl) op_lt
theorem vo_le:VO X (compareOp .LtE) vLe:=vo_i2' (fun _ _=>rfl) op_le
theorem vo_gt:VO X (compareOp .Gt) vGt:=vo_i2' (fun _ _=>rfl) op_gt
def vEq (rx ry:R) (Q:R→Prop):Prop:=cmpD rx.d ry.d=true∧depD rx.d≤50∧Q (.val (.bl (eqD rx.d ry.d)))
theorem vo_eq (hu:X.A.units+64 < cLine):VO X (compareOp .Eq) vEq :=
 ⟨_,op_eqD (by lia),fun B H x y rx ry Q Qd s px py h k=>⟨rx.d,ry.d,px.rep s,py.rep s,h.1,h.2.1,k _ _ B H (.refl s) (repV rfl) h.2.2⟩⟩
def vNe (rx ry:R) (Q:R→Prop):Prop:=match dV rx.d,dV ry.d with
 | some u,some w=>scal u w=true∧Q (.val (.bl (!decide (u=w))))
 | _,_=>False
def vSlR (rx:R) (lo hi:Option Int) (Q:R→Prop):Prop:=match rx.d with
 | .str z=>z.length≤sizeLine∧Q (.val (.str (Txt.slice z lo hi)))
 | .tup ds=>Q (.val (.tup (cutL ds lo hi)))
 | .lst ds=>Q (.own (.lst (cutL ds lo hi)))
 | .scr ns=>Q (.own (.lst ((cutL ns lo hi).map D.int)))
 | _=>False
abbrev TVO:=VSt→(Option Int→Prop)→Prop
def vNoPart:TVO:=fun _ Q=>Q none
def vPart (te:TV):TVO:=fun τ Q=>te τ fun r=>match r.d with
 | .int i=>Q (some i)
 | _=>False
def RfOp (K:PySem.W.Frag) (to:TO) (t:TVO):Prop:=∀ (H0 B H:Hp) (τ:VSt) (σ:St) (Q:Option Int→Hp→Prop) (Qd:Option Int→Prop),Same B H→Slots K H0 B H τ σ→t τ Qd→(∀ o B' H',Stp B H B' H'→Qd o→Q o H')→to σ H Q
structure VPt (X:Cx) (EX:St→XK) (e:Option Expr) (t:TVO):Prop where
 u:∃ to,QO X e to∧RfOp X.K to t
variable {e:Expr} {te ta:TV} {es:List Expr} {lo hi:Option Expr} {tl th:TVO} {pos p p2 apos cpos:Pos} {x:Str}
theorem vp_none:VPt X EX none vNoPart:=⟨_,qo_none,fun _ B H _ _ _ _ s _ h k=>k _ B H (.refl s) h⟩
theorem vp_some (h:VE X EX e te):VPt X EX (some e) (vPart te):=let ⟨_,a1,a2⟩:=h.u; ⟨_,qo_some a1,fun H0 B H τ σ Q Qd s S h k=>a2 H0 B H τ σ _ _ s S h (xno fun _ q=>q) fun r v B' H' p q h1=>by
  split at h1
  ·rename_i i e
   exact ⟨i,q.pk.scal (by rw [e]; rfl),k _ B' H' p h1⟩
  ·exact h1.elim⟩
def vSlice (te:TV) (tl th:TVO):TV:=fun τ Q=>te τ fun r=>exR r Q (tl τ fun l=>th τ fun u=>vSlR r l u Q)
theorem ve_slice (he:VE X EX e te) (hl:VPt X EX lo tl) (hh:VPt X EX hi th):VE X EX (.Subscript e (.Slice lo hi none p2) pos) (vSlice te tl th) :=
 let ⟨_,a1,a2⟩:=he.u; let ⟨_,b1,b2⟩:=hl.u; let ⟨_,c1,c2⟩:=hh.u; ⟨_,qe_slice (sl_str.or (sl_tupP.or sl_list)) a1 b1 c1,fun H0 B H τ σ Q Qd s S h xc k =>
  a2 H0 B H τ σ _ _ s S h xc fun r v B1 H1 p1 q1 h1=>b2 H0 B1 H1 τ σ _ _ p1.s (S.step p1) (q1.ok h1) fun l B2 H2 p2 h2=>c2 H0 B2 H2 τ σ _ _ p2.s (S.step (p1.trans p2)) h2 fun u B3 H3 p3 h3=>by
   have p12:=p1.trans p2
   have pp:=p12.trans p3
   have pk:=(q1.pk.step p2).step p3
   unfold vSlR at h3
   split at h3
   ·rename_i z ez
    cases pk.scal (z:=.str z) (by rw [ez]; rfl)
    exact .inl ⟨z,rfl,h3.1,k _ _ B3 H3 pp (repV rfl) h3.2⟩
   ·rename_i ds ed
    obtain ⟨a,xs,rfl,h1,r1⟩:=pk.tup ed
    refine .inr (.inl ⟨a,xs,rfl,p3.s.sqT h1.sq,fun w=>?_,fun w p hp=>?_⟩)
    ·refine k _ _ B3 H3 pp ?_ h3
     show Rep X.K B3 (.tup (cutL ds l u)) _
     unfold Rep
     have hc:cutL ds l u=ds:=by
      unfold cutL
      rw [r1.length,w.1,w.2,List.drop_zero,Nat.sub_zero,← r1.length,List.take_length]
     rw [hc]
     exact ⟨a,xs,rfl,h1,r1⟩
    ·exact k (.val (.tup (cutL ds l u))) _ (upd B3 p (.tup (cutV xs l u))) _ (pp.trans (.new p3.s hp)) (rep_newT (r1.cut l u) (p3.s.free hp)) h3
   ·rename_i ds ed
    obtain ⟨a,xs,rfl,h1,r1⟩:=pk.lst p3.s ed
    exact .inr (.inr ⟨a,xs,rfl,SqL.of h1,fun p hp=>k (.own _) _ B3 _ (pp.trans (.grow p3.s (same_upd hp _))) ⟨p,rfl,pp.h.free hp,p3.s.free hp,own_newL (r1.cut l u)⟩ h3⟩)
   ·rename_i ns en
    obtain ⟨a,rfl,h1⟩:=pk.scr p3.s en
    refine .inr (.inr ⟨a,_,rfl,h1,fun p hp=>k (.own _) _ B3 _ (pp.trans (.grow p3.s (same_upd hp _))) ⟨p,rfl,pp.h.free hp,p3.s.free hp,?_⟩ h3⟩)
    rw [cutV_map]
    exact own_newL (.ints _)
   ·exact h3.elim⟩
def vIxR (rx ry:R) (Q:R→Prop):Prop:=match rx.d,ry.d with
 | .str z,.int i=>z.length≤sizeLine∧∃ c,atI z.cps.toList i=some c∧Q (.val (.str ⟨#[c]⟩))
 | .tup ds,.int i=>∃ d,atI ds i=some d∧Q (.val d)
 | .lst ds,.int i=>∃ d,atI ds i=some d∧Q (.val d)
 | .scr ns,.int i=>∃ n,atI ns i=some n∧Q (.val (.int n))
 | _,_=>False
theorem vx_seq:VX X vIxR:=by
 refine ⟨_,ix_str.or (ix_tup.or ix_list),fun B H x y rx ry Q Qd s px py h k=>?_⟩
 unfold vIxR at h
 split at h
 ·rename_i z i e1 e2
  obtain ⟨hz,c,hc,q⟩:=h
  exact .inl ⟨z,i,c,px.scal (by rw [e1]; rfl),py.scal (by rw [e2]; rfl),hz,hc,k _ _ B H (.refl s) (repV rfl) q⟩
 ·rename_i ds i e1 e2
  obtain ⟨d,hd,q⟩:=h
  obtain ⟨a,xs,rfl,h1,r1⟩:=px.tup e1
  obtain ⟨w,hw,rw'⟩:=r1.atI hd
  exact .inr (.inl ⟨a,xs,i,w,rfl,py.scal (by rw [e2]; rfl),s.sqT h1.sq,hw,k (.val d) _ B H (.refl s) rw' q⟩)
 ·rename_i ds i e1 e2
  obtain ⟨d,hd,q⟩:=h
  obtain ⟨a,xs,rfl,h1,r1⟩:=px.lst s e1
  obtain ⟨w,hw,rw'⟩:=r1.atI hd
  exact .inr (.inr ⟨a,xs,i,w,rfl,py.scal (by rw [e2]; rfl),SqL.of h1,hw,k (.val d) _ B H (.refl s) rw' q⟩)
 ·rename_i ns i e1 e2
  obtain ⟨n,hn,q⟩:=h
  obtain ⟨a,rfl,h1⟩:=px.scr s e1
  exact .inr (.inr ⟨a,_,i,_,rfl,py.scal (by rw [e2]; rfl),h1,at_map hn,k _ _ B H (.refl s) (repV rfl) q⟩)
 ·exact h.elim
def vLen (rx:R) (Q:R→Prop):Prop:=match rx.d with
 | .str z=>z.length≤sizeLine∧Q (.val (.int z.length))
 | .tup ds=>Q (.val (.int ds.length))
 | .lst ds=>Q (.val (.int ds.length))
 | .scr ns=>Q (.val (.int ns.length))
 | _=>False
theorem vf_len:VF X (.builtin "len") vLen:=by
 refine ⟨_,call_len_str.or call_len_seq,fun B H x rx Q Qd s px h k=>?_⟩
 unfold vLen at h
 split at h
 ·rename_i z e1
  exact .inl ⟨z,by rw [px.scal (z:=.str z) (by rw [e1]; rfl)],h.1,k _ _ B H (.refl s) (repV rfl) h.2⟩
 ·rename_i ds e1
  obtain ⟨a,xs,rfl,h1,r1⟩:=px.tup e1
  exact .inr ⟨a,xs,rfl,.inr (s.sqT h1.sq),k _ _ B H (.refl s) (repV rfl) (by rw [r1.length] at h; exact h)⟩
 ·rename_i ds e1
  obtain ⟨a,xs,rfl,h1,r1⟩:=px.lst s e1
  exact .inr ⟨a,xs,rfl,.inl (SqL.of h1),k _ _ B H (.refl s) (repV rfl) (by rw [r1.length] at h; exact h)⟩
 ·rename_i ns e1
  obtain ⟨a,rfl,h1⟩:=px.scr s e1
  exact .inr ⟨a,_,rfl,.inl h1,k (.val (.int ns.length)) _ B H (.refl s) (by rw [List.length_map]; exact repV rfl) h⟩
 ·exact h.elim
def vList (rx:R) (Q:R→Prop):Prop:=match rx.d with
 | .tup ds=>Q (.own (.lst ds))
 | .lst ds=>Q (.own (.lst ds))
 | .scr ns=>Q (.own (.lst (ns.map D.int)))
 | _=>False
theorem vf_list:VF X (.type "list") vList:=by
 refine ⟨_,call_list_of,fun B H x rx Q Qd s px h k=>?_⟩
 unfold vList at h
 split at h
 ·rename_i ds e1
  obtain ⟨a,xs,rfl,h1,r1⟩:=px.tup e1
  exact ⟨a,xs,rfl,.inr (s.sqT h1.sq),fun p hp=>k (.own _) _ B _ (.grow s (same_upd hp _)) ⟨p,rfl,hp,s.free hp,own_newL r1⟩ h⟩
 ·rename_i ds e1
  obtain ⟨a,xs,rfl,h1,r1⟩:=px.lst s e1
  exact ⟨a,xs,rfl,.inl (SqL.of h1),fun p hp=>k (.own _) _ B _ (.grow s (same_upd hp _)) ⟨p,rfl,hp,s.free hp,own_newL r1⟩ h⟩
 ·rename_i ns e1
  obtain ⟨a,rfl,h1⟩:=px.scr s e1
  exact ⟨a,_,rfl,.inl h1,fun p hp=>k (.own _) _ B _ (.grow s (same_upd hp _)) ⟨p,rfl,hp,s.free hp,own_newL (.ints ns)⟩ h⟩
 ·exact h.elim
def vTuple (rx:R) (Q:R→Prop):Prop:=match rx.d with
 | .tup ds=>Q (.val (.tup ds))
 | .lst ds=>Q (.val (.tup ds))
 | _=>False
def vStr (rx:R) (Q:R→Prop):Prop:=match rx.d with
 | .int i=>i.natAbs.log2 < 1920∧Q (.val (.str (toString i)))
 | _=>False
def vAll (g:List Bool→Bool) (rx:R) (Q:R→Prop):Prop:=∃ bs:List Bool,rx.d=.lst (bs.map D.bl)∧Q (.val (.bl (g bs)))
inductive Ty5 where
 | str | tuple | list | int | bool
def Ty5.nm:Ty5→String
 | .str=>"str" | .tuple=>"tuple" | .list=>"list" | .int=>"int" | .bool=>"bool"
def isTy:Ty5→D→Option Bool
 | _,.non=>some false
 | c,.bl _=>some (match c with | .bool=>true | .int=>true | _=>false)
 | c,.int _=>some (match c with | .int=>true | _=>false)
 | c,.str _=>some (match c with | .str=>true | _=>false)
 | c,.tup _=>some (match c with | .tuple=>true | _=>false)
 | c,.lst _=>some (match c with | .list=>true | _=>false)
 | _,_=>none
def nmTy:D→String
 | .non=>"NoneType" | .bl _=>"bool" | .int _=>"int" | .str _=>"str" | .tup _=>"tuple" | _=>"list"
theorem kit_isTy {d:D} {c:Ty5} {b:Bool} (h:isTy c d=some b):PySem.W.kitOne K (.type (nmTy d)) (.type c.nm)=some b:=by
 cases d <;> cases c <;> first | (cases h; with_unfolding_all rfl; done) | (cases h; exact kit_same; done) | (cases h; done)
theorem isinst_D {pins:List (Addr × Obj)} {s:Shared} {σ:St} {H:Hp} {v:V} {u:Value} {d:D} {c:Ty5} {b:Bool} {A:Around} {Q:Value→Shared→Prop} {E:Value→Shared→Prop} (I:Inv X pins σ H s) (rx:RelV v u) (h:Rep X.K H d v) (e:isTy c d=some b)
  (q:∀ tk,Q (.bool b) { s with toks:=tk }):wpAny (model X.prog X.w) A (call (.builtin "isinstance") [u,.type c.nm]) Q E s:=by
 have kt:=kit_isTy (K:=X.K) e
 cases d with
 | non=>unfold Rep at h; subst h; exact isinst_ok I rx .non kt q
 | bl b=>unfold Rep at h; subst h; exact isinst_ok I rx (.bl _) kt q
 | int b=>unfold Rep at h; subst h; exact isinst_ok I rx (.int _) kt q
 | str b=>unfold Rep at h; subst h; exact isinst_ok I rx (.str _) kt q
 | tup ds =>
  unfold Rep at h
  obtain ⟨a,xs,rfl,ha,_⟩:=h
  cases (show u=Value.ref a from rx)
  obtain ⟨its,_,⟨o,h1,h2,_⟩,_⟩:=I.tuple ha.sq
  exact PySem.W.kia_one PySem.W.kitx_tuple I.kIn ⟨o,h1,h2⟩ kt (fun z=>nomatch z) q
 | lst ds =>
  unfold Rep at h
  obtain ⟨a,xs,rfl,ha,_⟩:=h
  exact isinst_ok I rx (.lst ha) kt q
 | dT _ _=>cases e
 | dK _ _=>cases e
 | scr _=>cases e
 | kt _=>cases e
 | exc _=>cases e
 | io _ _=>cases e
 | ioT _ _ _=>cases e
theorem call_isD (c:Ty5):CallR X (.builtin "isinstance") (fun xs H Q=>∃ x d b,xs=[x,.ty c.nm]∧Rep X.K H d x∧isTy c d=some b∧Q (.bl b) H):=by
 intro pins s σ H xs us Q I r h
 obtain ⟨x,d,b,rfl,ty,e,q⟩:=h
 obtain ⟨u,v,rfl,ru,rv⟩:=vals2 r
 cases (show v=Value.type c.nm from rv)
 exact isinst_D I ru ty e fun tk=>⟨.bl b,H,I.tok tk,rfl,q⟩
def vIsin (c:Ty5) (ta:TV):TV:=fun τ Q=>ta τ fun r=>exR r (fun _=>False) <| match isTy c r.d with
 | some b=>Q (.val (.bl b))
 | none=>False
theorem ve_isin {a:Expr} {pb:Pos} {y:Str} (c:Ty5) (hg:Gl X "isinstance") (hm:X.mg "isinstance" = none) (hgy:Gl X y) (hmy:X.mg y=none) (hby:bootBuiltins y=some (.type c.nm)) (ha:VE X EX a ta) (hp:plainE a=true:=by rfl) (hny:y≠"__name__" := by decide) (hdy:(y == ("__debug__" : Str))=false:=by decide) :
  VE X EX (.Call (.Name "isinstance" p) [a,.Name y pb] [] pos) (vIsin c ta) :=
 let ⟨_,a1,a2⟩:=ha.u; ⟨_,qcb (call_isD c) hg hm PyProof.Rows.Boot.«isinstance» (qac a1 (qac (qe_bltn (v:=.ty c.nm) hgy hmy hby rfl hny hdy) qa_nil rfl) hp) (by rw [List.all_cons,hp]; rfl),fun H0 B H τ σ Q Qd s S h xc k=>a2 H0 B H τ σ _ _ s S h (xno fun _ q=>q) fun r v B1 H1 p1 q1 h1=>by
   have h1:=q1.ok h1
   split at h1
   ·rename_i b eb
    exact ⟨v,r.d,b,rfl,q1.pk.rep p1.s,eb,k _ _ B1 H1 p1 (repV rfl) h1⟩
   ·exact h1.elim⟩
end
end L2
namespace L2
open PySem PySem.Spec PyProof.Rows
section
variable {X:Cx} {EX:St→XK} {K:PySem.W.Frag} {B H B' H' H0 B0 B1 H1:Hp} {st:Stmt} {rest:List Stmt} {t u:TVS} {e a c o:Expr} {te ta:TV} {tT:TVT} {tA:TVA} {es:List Expr} {pos pos' p p2 apos cpos:Pos} {x:Str} {τ:VSt} {σ:St}
theorem Stp.base (p:Stp B0 H0 B1 H1) (q:Stp B1 H0 B' H'):Stp B0 H0 B' H':=⟨p.b.trans q.b,q.h,q.s,fun a h=>(q.d a h).elim (p.d a) .inr⟩
theorem Stp.here (p:Stp B0 H0 B1 H1):Stp B1 H0 B1 H1:=⟨Same.refl _,p.h,p.s,fun _ h=>.inl h⟩
theorem EndsOk.base {Dv:VEnds} {Dh:Ends} (E:EndsOk K EX B0 H0 Dv Dh) (p:Stp B0 H0 B1 H1):EndsOk K EX B1 H0 Dv Dh :=
 ⟨fun B H τ σ q=>E.nx B H τ σ (p.base q),fun r v B H q=>E.rt r v B H (p.base q),fun B H τ σ q=>E.bk B H τ σ (p.base q),fun B H τ σ q=>E.ct B H τ σ (p.base q),fun B H τ σ n C q=>E.xc B H τ σ n C (p.base q),fun r v B H τ σ q=>E.ro r v B H τ σ (p.base q)⟩
def exS (τ:VSt) (Dv:VEnds):R→Prop→Prop
 | .exc n,_=>Dv.xc τ n
 | .val _,k=>k
 | .own _,k=>k
 | .peek _,k=>k
theorem RepR.okS {r:R} {v:V} {τ:VSt} {Dv:VEnds} {k:Prop} (h:RepR K B H0 H r v) (q:exS τ Dv r k):k:=by
 cases r with
 | exc n=>exact h.elim
 | val d=>exact q
 | own d=>exact q
 | peek d=>exact q
theorem EndsOk.raised {Dv:VEnds} {Dh:Ends} (E:EndsOk K EX B0 H0 Dv Dh) (p:Stp B0 H0 B H) (S:Slots K H0 B H τ σ):∀ n C B' H',Stp B H B' H'→clsOf K n C→Dv.xc τ n→EX σ (.ref C) none H':=fun n C B' H' q c h=>E.xc B' H' τ σ n C (p.trans q) (S.step q) c h
def vNext:TVS:=fun Dv τ=>Dv.nx τ
def vSeq (t u:TVS):TVS:=fun Dv τ=>t { Dv with nx:=u Dv } τ
theorem vss_nil:VSs X EX [] vNext:=⟨_,qss_nil,fun B0 H0 B H τ σ Dv Dh p S h E=>E.nx B H τ σ p S h⟩
theorem vss_one (h:VS X EX st t):VSs X EX [st] t:=let ⟨_,a1,a2⟩:=h.u; ⟨_,qss_one a1,a2⟩
theorem vss_cons (h:VS X EX st t) (r:VSs X EX rest u):VSs X EX (st :: rest) (vSeq t u) :=
 let ⟨_,a1,a2⟩:=h.u; let ⟨_,b1,b2⟩:=r.u; ⟨_,qss_cons a1 b1,fun B0 H0 B H τ σ Dv Dh p S h E=>a2 B0 H0 B H τ σ _ _ p S h ⟨fun B H τ σ p S h=>b2 B0 H0 B H τ σ _ _ p S h E,E.rt,E.bk,E.ct,E.xc,E.ro⟩⟩
def vFrz (i:Nat) (t:TVS):TVS:=fun Dv τ=>t Dv (frz i τ)
theorem vss_frz (i:Nat) (h:VSs X EX rest t):VSs X EX rest (vFrz i t) :=
 let ⟨_,a1,a2⟩:=h.u; ⟨_,a1,fun B0 H0 B H τ σ Dv Dh p S h E=>by
  obtain ⟨B2,p2,_,S2⟩:=S.frz p i
  exact a2 B0 H0 B2 H _ σ _ _ p2 S2 h E⟩
def vIfS (c:TVT) (t u:TVS):TVS:=fun Dv τ=>c τ fun b=>if b=true then t Dv τ else u Dv τ
theorem vs_if {sa sb:List Stmt} (hc:VT X EX c tT) (ha:VSs X EX sa t) (hb:VSs X EX sb u):VS X EX (.If c sa sb pos) (vIfS tT t u) :=
 let ⟨_,c1,c2⟩:=hc.u; let ⟨_,a1,a2⟩:=ha.u; let ⟨_,b1,b2⟩:=hb.u; ⟨_,qs_if c1 a1 b1,fun B0 H0 B H τ σ Dv Dh p S h E=>c2 H0 B H τ σ _ _ p.s S h fun cb B' H' q hq=>by
  cases cb with
  | true=>exact iteT (a2 B0 H0 B' H' τ σ _ _ (p.trans q |> fun z=>⟨z.b,z.h,z.s,z.d⟩) (S.step q) (by rw [if_pos rfl] at hq; exact hq) E)
  | false=>exact iteF (b2 B0 H0 B' H' τ σ _ _ (p.trans q) (S.step q) (by rw [if_neg Bool.false_ne_true] at hq; exact hq) E)⟩
def vRet (te:TV):TVS:=fun Dv τ=>te τ fun r=>exS τ Dv r (pubR r fun _=>Dv.rt r)
theorem vs_ret (h:VE X EX e te):VS X EX (.Return (some e) pos) (vRet te) :=
 let ⟨_,a1,a2⟩:=h.u; ⟨_,qs_ret a1,fun B0 H0 B H τ σ Dv Dh p S h E=>a2 H0 B H τ σ _ _ p.s S h (E.raised p S) fun r v B' H' q hr hq=>by
  cases r with
  | val d=>exact E.rt (.val d) v B' H' (p.trans q) hr hq
  | own d=>exact E.rt (.own d) v B' H' (p.trans q) (hr.back p.h) hq
  | peek d=>exact hq.elim
  | exc n=>exact hr.elim⟩
def vRetO (i:Nat):TVS:=fun Dv τ=>match τ[i]? with
 | some (some (.own d))=>Dv.rt (.own d)
 | some (some (.val d))=>Dv.rt (.val d)
 | _=>False
theorem vs_retO (i:Nat) (hN:X.N[i]?=some x:=by rfl) (hv:Vis X.env.scope x:=by first | exact Or.inl rfl | exact Or.inr (Or.inl rfl) | exact Or.inr (Or.inr rfl)) (hd:(x == ("__debug__" : Str))=false:=by decide)
  (hcd:(x == ("__classdict__" : Str))=false:=by decide):VS X EX (.Return (some (.Name x pos')) pos) (vRetO i) :=
 ⟨_,qs_ret (qv i hN hv hd hcd),fun B0 H0 B H τ σ Dv Dh p S h E=>by
  unfold vRetO at h
  split at h
  ·rename_i d e
   obtain ⟨a,q,h0,hb,ow⟩:=S.own i d e
   exact ⟨.ref a,q,E.rt (.own d) _ B H p ⟨a,rfl,h0,hb,ow⟩ h⟩
  ·rename_i d e
   obtain ⟨v,q,rp⟩:=S.val i d e
   exact ⟨v,q,E.rt (.val d) _ B H p rp h⟩
  ·exact h.elim⟩
def vRetN:TVS:=fun Dv _=>Dv.rt (.val .non)
def vDrop (te:TV):TVS:=fun Dv τ=>te τ fun r=>exS τ Dv r (Dv.nx τ)
def vSet (i:Nat) (te:TV):TVS:=fun Dv τ=>te τ fun r=>exS τ Dv r (pubR r fun d=>Dv.nx (τ.set i (some (.val d))))
theorem rf_set {i:Nat} {ee:TE} (h:RfE K EX ee te):RfS K EX (tAsg ee (gName i)) (vSet i te):=fun B0 H0 B H τ σ Dv Dh p S hh E=>h H0 B H τ σ _ _ p.s S hh (E.raised p S) fun r v B' H' q hr hq=>by
 obtain ⟨d,B2,q2,_,rp,hd⟩:=pub q hr (hr.okS hq)
 exact E.nx B2 H' _ _ (p.trans q2) ((S.step q2).setVal i rp) hd
def vSetO (i:Nat) (te:TV):TVS:=fun Dv τ=>te τ fun r=>exS τ Dv r (pubR r fun _=>Dv.nx (τ.set i (some r)))
theorem rf_setO {i:Nat} {ee:TE} (h:RfE K EX ee te):RfS K EX (tAsg ee (gName i)) (vSetO i te):=fun B0 H0 B H τ σ Dv Dh p S hh E=>h H0 B H τ σ _ _ p.s S hh (E.raised p S) fun r v B' H' q hr hq=>by
 cases r with
 | val d=>exact E.nx B' H' _ _ (p.trans q) ((S.step q).setVal i hr) hq
 | own d =>
  obtain ⟨a,rfl,h0,hb,ow⟩:=hr
  refine E.nx B' H' _ _ (p.trans q) ((S.step q).setOwn i (p.h.free h0) hb ow fun j e he z=>?_) hq
  obtain ⟨c,qc,_,_,oc⟩:=S.own j e he
  rw [z] at qc
  cases qc
  exact oc.some h0
 | peek d=>exact hq.elim
 | exc n=>exact hr.elim
theorem vs_set {i:Nat} (hN:X.N.Nodup) (hi:X.N[i]?=some x) (hx:Loc X.env.scope x) (h:VE X EX e te) (hs:swapsWith e (some (.Name x pos')) pos.line X.env=pure false:=by rfl)
  (hf:X.fn x=true∨X.env.scope.names.lookup x=some .local:=by first | exact .inl rfl | exact .inr rfl | assumption):VS X EX (.Assign [.Name x pos'] e pos) (vSet i te):=let ⟨_,a1,a2⟩:=h.u; ⟨_,qs_set hN hi hx a1 hs hf,rf_set a2⟩
theorem vs_setO {i:Nat} (hN:X.N.Nodup) (hi:X.N[i]?=some x) (hx:Loc X.env.scope x) (h:VE X EX e te) (hs:swapsWith e (some (.Name x pos')) pos.line X.env=pure false:=by rfl)
  (hf:X.fn x=true∨X.env.scope.names.lookup x=some .local:=by first | exact .inl rfl | exact .inr rfl | assumption):VS X EX (.Assign [.Name x pos'] e pos) (vSetO i te):=let ⟨_,a1,a2⟩:=h.u; ⟨_,qs_set hN hi hx a1 hs hf,rf_setO a2⟩
theorem vs_setC {i:Nat} (hN:X.N.Nodup) (hi:X.N[i]?=some x) (hx:Loc X.env.scope x) (h:VC X EX e te) (hs:swapsWith e (some (.Name x pos')) pos.line X.env=pure true:=by rfl)
  (hf:X.fn x=true∨X.env.scope.names.lookup x=some .local:=by first | exact .inl rfl | exact .inr rfl | assumption):VS X EX (.Assign [.Name x pos'] e pos) (vSet i te):=let ⟨_,a1,a2⟩:=h.u; ⟨_,qs_setC hN hi hx a1 hs hf,rf_set a2⟩
def vgName (i:Nat):TVG:=fun d τ Q=>Q (τ.set i (some (.val d)))
theorem kp_set {i:Nat} {d:D} {v:V}:Kp τ σ (τ.set i (some (.val d))) (σ.set i (some v)):=fun j e h=>by
 rcases getSet h with ⟨rfl,z,l⟩ | ⟨n,h⟩
 ·cases z
 ·exact ⟨h,List.getElem?_set_ne n⟩
theorem Kp.trans {τ1 τ2 τ3:VSt} {σ1 σ2 σ3:St} (h1:Kp τ1 σ1 τ2 σ2) (h2:Kp τ2 σ2 τ3 σ3):Kp τ1 σ1 τ3 σ3:=fun j e h=>let ⟨a,b⟩:=h2 j e h; let ⟨c,d⟩:=h1 j e a; ⟨c,b.trans d⟩
theorem vg_name {i:Nat} (hN:X.N.Nodup) (hi:X.N[i]?=some x) (hx:Loc X.env.scope x) (hf:X.fn x=true∨X.env.scope.names.lookup x=some .local:=by first | exact .inl rfl | exact .inr rfl | assumption):VG X (.Name x pos) (vgName i) :=
 ⟨_,qg_name hN hi hx hf,fun H0 B H τ σ v d Q Qd s S rp h k=>k _ _ (S.setVal i rp) kp_set h⟩
def vgNil:List D→VSt→(VSt→Prop)→Prop:=fun ds τ Q=>ds=[]∧Q τ
def vgCons (g:TVG) (gs:List D→VSt→(VSt→Prop)→Prop):List D→VSt→(VSt→Prop)→Prop:=fun ds τ Q=>match ds with
 | d :: r=>g d τ fun τ'=>gs r τ' Q
 | []=>False
theorem vgs_nil:VGs X [] vgNil:=⟨_,qgs_nil,fun H0 B H τ σ xs ds Q Qd s S rp h k=>by
 obtain ⟨rfl,h⟩:=h
 unfold Reps at rp
 exact ⟨rp,k τ σ S (fun j e h=>⟨h,rfl⟩) h⟩⟩
theorem vgs_cons {g:TVG} {gs:List D→VSt→(VSt→Prop)→Prop} (h1:VG X e g) (h2:VGs X es gs) (hs:(assignEach (e :: es) X.env).map (·.2)=assign e X.env :: (assignEach es X.env).map (·.2):=by rfl):VGs X (e :: es) (vgCons g gs) :=
 let ⟨_,a1,a2⟩:=h1.u; let ⟨_,b1,b2⟩:=h2.u; ⟨_,qgs_cons a1 b1 hs,fun H0 B H τ σ xs ds Q Qd s S rp h k=>by
  cases ds with
  | nil=>exact h.elim
  | cons d ds =>
   unfold Reps at rp
   obtain ⟨v,r,rfl,r1,r2⟩:=rp
   exact ⟨v,r,rfl,a2 H0 B H τ σ v d _ _ s S r1 h fun τ' σ' S' kp h'=>b2 H0 B H τ' σ' r ds _ _ s S' r2 h' fun τ2 σ2 S2 kp2 h2=>k τ2 σ2 S2 (kp.trans kp2) h2⟩⟩
def vgTup (n:Nat) (gs:List D→VSt→(VSt→Prop)→Prop):TVG:=fun d τ Q=>match d with
 | .tup ds=>ds.length=n∧gs ds τ Q
 | _=>False
theorem vg_tup {k:Nat} {gs:List D→VSt→(VSt→Prop)→Prop} {n:Nat} (hc:X.calm=true) (h:VGs X es gs) (hn:(assignEach es X.env).length=n:=by rfl) (hst:(assignEach es X.env).findIdx? (·.1)=none:=by rfl):VG X (.Tuple es k pos) (vgTup n gs) :=
 let ⟨_,a1,a2⟩:=h.u; ⟨_,qg_tup hc a1 hn hst,fun H0 B H τ σ v d Q Qd s S rp h k=>by
  cases d with
  | tup ds =>
   unfold Rep at rp
   obtain ⟨a,xs,rfl,ha,r⟩:=rp
   exact ⟨a,xs,rfl,s.sqT ha.sq,by rw [← r.length]; exact h.1,a2 H0 B H τ σ xs ds _ _ s S r h.2 k⟩
  | _=>exact h.elim⟩
def vAsg (te:TV) (g:TVG):TVS:=fun Dv τ=>te τ fun r=>exS τ Dv r (pubR r fun d=>g d τ Dv.nx)
end
section
variable {X:Cx} {tg l e:Expr}
def iAny (K:PySem.W.Frag) (tl:TE):TI:=fun σ H R=>tl σ H fun x H1=>(∃ a,x=.ref a∧(∃ xs,SqL K H1 a xs)∧R (Itl K a) H1)∨(∃ a,x=.ref a∧(∃ xs,SqT K H1 a xs)∧R (Itt K a) H1)∨∃ z,x=.str z∧R (Its z) H1
theorem pi_any {tl:TE} (hl:PE X l tl):PI X tg l (iAny X.K tl):=by
 intro pins s σ H R I h
 refine thn (hl pins s σ H _ I h) fun v s1 ⟨x,H1,I1,r1,q1⟩=>?_
 rcases q1 with ⟨a,rfl,⟨xs,hq⟩,q⟩ | ⟨a,rfl,⟨xs,hq⟩,q⟩ | ⟨z,rfl,q⟩
 ·cases r1
  obtain ⟨its,rv,pl,hz⟩:=I1.list hq
  refine wpAny_pyIter_list pl.isList ⟨s1.heap.objs.size,[s1.heap.objs.size],_,_,H1,rfl,I1.kept (t':=s1.toks) fun b o e=>Heap.get?_push_of_some _ e,turn_list a _,⟨_,Heap.get?_push_size _ rfl,rfl,rfl⟩,fun b hb=>?_,q⟩
  cases (by simpa using hb:b=s1.heap.objs.size)
  exact I1.fpOk (Nat.le_refl _) (I1.hok.fresh (Nat.le_refl _))
 ·cases r1
  obtain ⟨its,rv,pl,hz⟩:=I1.tuple hq
  refine wpAny_pyIter_tuple (show s1.heap.IsTuple a its.toArray from pl) ⟨s1.heap.objs.size,[s1.heap.objs.size],_,_,H1,rfl,I1.kept (t':=s1.toks) fun b o e=>Heap.get?_push_of_some _ e,turn_tuple a _,⟨_,Heap.get?_push_size _ rfl,rfl,rfl⟩,fun b hb=>?_,q⟩
  cases (by simpa using hb:b=s1.heap.objs.size)
  exact I1.fpOk (Nat.le_refl _) (I1.hok.fresh (Nat.le_refl _))
 ·obtain ⟨t,rfl⟩:=r1
  have fp:∀ b∈[s1.heap.objs.size],FpOk X pins H1 b:=fun b hb=>by
   cases (by simpa using hb:b=s1.heap.objs.size)
   exact I1.fpOk (Nat.le_refl _) (I1.hok.fresh (Nat.le_refl _))
  cases ha:z.cps.all (· < 128)
  ·exact wpAny_pyIter_wide ha ⟨s1.heap.objs.size,[s1.heap.objs.size],_,_,H1,rfl,I1.kept (t':=s1.toks) fun b o e=>Heap.get?_push_of_some _ e,turn_wide _ z t,⟨_,Heap.get?_push_size _ rfl,rfl,rfl⟩,fp,q⟩
  ·exact wpAny_pyIter_ascii ha ⟨s1.heap.objs.size,[s1.heap.objs.size],_,_,H1,rfl,I1.kept (t':=s1.toks) fun b o e=>Heap.get?_push_of_some _ e,turn_ascii _ z t,⟨_,Heap.get?_push_size _ rfl,rfl,rfl⟩,fp,q⟩
theorem qi_any {tl:TE} (h:QE X e tl):QI X tg e (iAny X.K tl):=⟨pi_any h.u⟩
end
section
variable {X:Cx} {EX:St→XK} {K:PySem.W.Frag} {B H B' H' H0 B0 B1 H1:Hp} {st:Stmt} {rest:List Stmt} {t u:TVS} {e a c o:Expr} {te ta:TV} {tT:TVT} {tA:TVA} {es:List Expr} {pos pos' p p2 apos cpos:Pos} {x:Str} {τ:VSt} {σ:St}
def vItems (te:TV):TVA:=fun τ Q=>te τ fun r=>excA r Q <| pubR r fun d=>match d with
 | .lst ds=>Q (.ok ds)
 | .tup ds=>Q (.ok ds)
 | .scr ns=>Q (.ok (ns.map D.int))
 | .str z=>Q (.ok (z.cps.toList.map fun c=>.str ⟨#[c]⟩))
 | _=>False
theorem it_listV {ad:Addr} {ds:List D} {xs:List V} (h:SqL K B ad xs) (r:Reps K B ds xs):ItOk K B (Itl K ad) ds:=fun i B2 H sb s2=>by
 have s:=sb.trans s2
 refine ⟨fun d e=>?_,fun e=>⟨xs,s.seq h,by rw [← r.length]; exact List.getElem?_eq_none_iff.mp e⟩⟩
 obtain ⟨w,hw,rw'⟩:=r.at e
 refine ⟨⟨xs,w,s.seq h,hw⟩,fun y H' q=>⟨B2,by rw [q.1]; exact .refl s2,?_⟩⟩
 have:=q.2 xs (s.seq h)
 rw [hw] at this
 cases this
 exact rw'.same sb
theorem it_tup {ad:Addr} {ds:List D} {xs:List V} (h:SqT K B ad xs) (r:Reps K B ds xs):ItOk K B (Itt K ad) ds:=fun i B2 H sb s2=>by
 have s:=sb.trans s2
 refine ⟨fun d e=>?_,fun e=>⟨xs,s.sqT h,by rw [← r.length]; exact List.getElem?_eq_none_iff.mp e⟩⟩
 obtain ⟨w,hw,rw'⟩:=r.at e
 refine ⟨⟨xs,w,s.sqT h,hw⟩,fun y H' q=>⟨B2,by rw [q.1]; exact .refl s2,?_⟩⟩
 have:=q.2 xs (s.sqT h)
 rw [hw] at this
 cases this
 exact rw'.same sb
theorem it_str (z:Str):ItOk K B (Its z) (z.cps.toList.map fun c=>.str ⟨#[c]⟩):=fun i B2 H sb s2=>by
 have s:=sb.trans s2
 refine ⟨fun d e=>?_,fun e=>?_⟩
 ·rw [List.getElem?_map] at e
  cases hc:z.cps.toList[i]? with
  | none=>rw [hc] at e; cases e
  | some ch =>
   rw [hc] at e
   cases e
   have hc':z.cps[i]?=some ch:=by simpa using hc
   refine ⟨?_,fun y H' q=>⟨B2,by rw [q.1]; exact .refl s2,?_⟩⟩
   ·show i < z.cps.size
    exact (Array.getElem?_eq_some_iff.mp hc').1
   ·obtain ⟨c2,h2,rfl⟩:=q.2
    rw [hc'] at h2
    cases h2
    exact rep_dV (d:=.str ⟨#[ch]⟩) rfl
 ·show z.cps.size≤i
  have:=List.getElem?_eq_none_iff.mp e
  simpa using this
theorem vi_any {tg:Expr} (h:VE X EX e te):VI X EX tg e (vItems te) :=
 let ⟨_,a1,a2⟩:=h.u; ⟨_,qi_any a1,fun H0 B H τ σ Q Qd s S h xc k=>a2 H0 B H τ σ _ _ s S h xc fun r v B' H' q hr hq=>by
  obtain ⟨d,B2,q2,_,rp,hd⟩:=pub q hr (hr.okA hq)
  split at hd
  ·unfold Rep at rp
   obtain ⟨ad,xs,rfl,ha,r1⟩:=rp
   exact .inl ⟨ad,rfl,⟨xs,SqL.of (q2.s _ _ ha)⟩,k _ _ B2 H' q2 (it_listV (SqL.of ha) r1) hd⟩
  ·unfold Rep at rp
   obtain ⟨ad,xs,rfl,ha,r1⟩:=rp
   exact .inr (.inl ⟨ad,rfl,⟨xs,q2.s.sqT ha.sq⟩,k _ _ B2 H' q2 (it_tup ha.sq r1) hd⟩)
  ·unfold Rep at rp
   obtain ⟨ad,rfl,ha⟩:=rp
   exact .inl ⟨ad,rfl,⟨_,q2.s.seq ha⟩,k _ _ B2 H' q2 (it_listV ha (.ints _)) hd⟩
  ·rename_i z
   unfold Rep at rp
   exact .inr (.inr ⟨z,rp,k _ _ B2 H' q2 (it_str z) hd⟩)
  ·exact hd.elim⟩
def rngL (lo:Int) (n:Nat):List D:=(List.range n).map fun (i:Nat)=>.int (lo+i)
theorem it_rng (lo:Int) (n:Nat):ItOk K B (Itr lo n) (rngL lo n):=fun i B2 H sb s2=>by
 unfold rngL
 refine ⟨fun d e=>?_,fun e=>?_⟩
 ·rw [List.getElem?_map] at e
  by_cases hi:i < n
  ·rw [List.getElem?_range hi] at e
   cases e
   exact ⟨hi,fun y H' q=>⟨B2,by rw [q.1]; exact .refl s2,by rw [q.2]; exact rep_dV (d:=.int (lo+(i:Nat))) rfl⟩⟩
  ·rw [List.getElem?_eq_none (by rw [List.length_range]; lia)] at e
   cases e
 ·have:=List.getElem?_eq_none_iff.mp e
  rw [List.length_map,List.length_range] at this
  exact this
def vRng1 (te:TV):TVA:=fun τ Q=>te τ fun r=>match r.d with
 | .int j=>-(2 ^ 62)≤j∧j < 2 ^ 62∧Q (.ok (rngL 0 j.toNat))
 | _=>False
theorem vi_rng1 {tg:Expr} (hg:Gl X "range") (hm:X.mg "range" = none) (h:VE X EX a ta) (hp:plainE a=true:=by rfl):VI X EX tg (.Call (.Name "range" p) [a] [] pos) (vRng1 ta) :=
 let ⟨_,a1,a2⟩:=h.u; ⟨_,qrng1 hg hm (qac a1 qa_nil hp) hp,fun H0 B H τ σ Q Qd s S h xc k=>a2 H0 B H τ σ _ _ s S h (xno fun _ q=>q) fun r v B' H' q hr hq=>by
  split at hq
  ·rename_i j ej
   exact ⟨j,by rw [hr.pk.scal (z:=.int j) (by rw [ej]; rfl)],hq.1,hq.2.1,k _ _ B' H' q (it_rng 0 j.toNat) hq.2.2⟩
  ·exact hq.elim⟩
def vRng2 (ta tb:TV):TVA:=fun τ Q=>ta τ fun rx=>exR rx (fun _=>False) <| tb τ fun ry=>match rx.d,ry.d with
 | .int i,.int j=>(-(2 ^ 62)≤i∧i < 2 ^ 62∧-(2 ^ 62)≤j∧j < 2 ^ 62)∧Q (.ok (rngL i (j - i).toNat))
 | _,_=>False
theorem vi_rng2 {tg b:Expr} {tb:TV} (hg:Gl X "range") (hm:X.mg "range" = none) (h:VE X EX a ta) (hb:VE X EX b tb) (hp:plainE a=true:=by rfl) (hp2:plainE b=true:=by rfl):VI X EX tg (.Call (.Name "range" p) [a,b] [] pos) (vRng2 ta tb) :=
 let ⟨_,a1,a2⟩:=h.u; let ⟨_,b1,b2⟩:=hb.u; ⟨_,qrng2 hg hm (qac a1 (qac b1 qa_nil hp2) hp) hp hp2,fun H0 B H τ σ Q Qd s S h xc k=>a2 H0 B H τ σ _ _ s S h (xno fun _ q=>q) fun r v B' H' q hr hq=>b2 H0 B' H' τ σ _ _ q.s (S.step q) (hr.ok hq) (xno fun _ q=>by revert q; cases r.d <;> exact fun z=>z) fun r2 v2 B2 H2 q2 hr2 hq2=>by
  split at hq2
  ·rename_i i j ei ej
   exact ⟨i,j,by rw [hr.pk.scal (z:=.int i) (by rw [ei]; rfl),hr2.pk.scal (z:=.int j) (by rw [ej]; rfl)],hq2.1,k _ _ B2 H2 (q.trans q2) (it_rng i (j - i).toNat) hq2.2⟩
  ·exact hq2.elim⟩
def forW (g:TVG) (tb:TVS) (Dv:VEnds):List D→VSt→Prop
 | [],τ=>Dv.nx τ
 | d :: ds,τ=>g d τ fun τ'=>tb { Dv with nx:=forW g tb Dv ds,ct:=forW g tb Dv ds,bk:=Dv.nx } τ'
def exI (τ:VSt) (Dv:VEnds):AR→(List D→Prop)→Prop
 | .ok ds,k=>k ds
 | .exc n,_=>Dv.xc τ n
def vFor (vi:TVA) (g:TVG) (tb:TVS):TVS:=fun Dv τ=>vi τ fun a=>exI τ Dv a fun ds=>forW g tb Dv ds τ
theorem rf_for {wi:TI} {g:TG} {tb:TS} {vi:TVA} {gv:TVG} {bv:TVS} (hi:RfI K EX wi vi) (hg:RfG K g gv) (hb:RfS K EX tb bv):RfS K EX (tFor wi g tb) (vFor vi gv bv):=fun B0 H0 B H τ σ Dv Dh p S h E =>
 hi H0 B H τ σ _ _ p.s S h (E.raised p S) fun J ds B1 H1 q ok hw=>by
  have pq:=p.trans q
  have E1:=E.base pq
  refine ⟨fun i m σ H=>m=ds.length - i∧i≤ds.length∧∃ B2 τ,Stp B1 H0 B2 H∧Slots K H0 B2 H τ σ∧forW gv bv Dv (ds.drop i) τ,⟨ds.length,by lia,Nat.zero_le _,B1,τ,pq.here,S.step q,hw⟩,?_⟩
  rintro i m σ2 H2 ⟨rfl,hi,B2,τ2,p2,S2,w⟩
  by_cases hlt:i < ds.length
  ·have ei:ds[i]?=some ds[i]:=List.getElem?_eq_getElem hlt
   rw [List.drop_eq_getElem_cons hlt] at w
   obtain ⟨go,yl⟩:=(ok i B2 H2 p2.b p2.s).1 _ ei
   refine .inr ⟨go,fun σ' H'=>∃ B2 τ,Stp B1 H0 B2 H'∧Slots K H0 B2 H' τ σ'∧forW gv bv Dv (ds.drop (i+1)) τ,fun σ' H' ⟨B3,τ3,a1,a2,a3⟩=>⟨ds.length - (i+1),by lia,rfl,by lia,B3,τ3,a1,a2,a3⟩,fun y H' hy=>?_⟩
   obtain ⟨B3,q3,rp⟩:=yl y H' hy
   refine hg H0 B3 H' τ2 σ2 y _ _ _ q3.s (S2.step q3) rp w fun τ' σ' S' _ h'=>?_
   exact hb B1 H0 B3 H' τ' σ' _ _ (p2.trans q3) S' h' ⟨fun B H τ σ a1 a2 a3=>⟨B,τ,a1,a2,a3⟩,E1.rt,fun B H τ σ a1 a2 a3=>E1.nx B H τ σ a1 a2 a3,fun B H τ σ a1 a2 a3=>⟨B,τ,a1,a2,a3⟩,E1.xc,E1.ro⟩
  ·have ei:ds[i]?=none:=List.getElem?_eq_none (by lia)
   rw [List.drop_eq_nil_of_le (by lia)] at w
   exact .inl ⟨(ok i B2 H2 p2.b p2.s).2 ei,E1.nx B2 H2 τ2 σ2 p2 S2 w⟩
theorem vs_for {tg iter:Expr} {body:List Stmt} {vi:TVA} {g:TVG} (hp:PassesOwn (model X.prog X.w) X.A X.env X.xe) (hc:X.calm=true) (hi:VI X EX tg iter vi) (hg:VG X tg g) (hb:VSs X EX body t)
  (hs:∀ x,foldedSetIterable iter X.env x=pure x:=by intro _; rfl):VS X EX (.For tg iter body [] pos) (vFor vi g t) :=
 let ⟨_,a1,a2⟩:=hi.u; let ⟨_,b1,b2⟩:=hg.u; let ⟨_,c1,c2⟩:=hb.u; ⟨_,qs_for hp hc a1 b1 c1 hs,rf_for a2 b2 c2⟩
theorem vfs_nil:VFs X EX [] (fun _ Q=>Q true):=⟨_,qif_nil,fun H0 B H τ σ Y N Qd s S h k=>by have:=k true B H (.refl s) h; rw [if_pos rfl] at this; exact this⟩
def compW (τ:VSt) (k:Nat) (g:TVG) (ti:TVT) (te:TV) (Q:R→Prop):List D→List D→Prop
 | [],acc=>Q (.own (.lst acc))
 | d :: ds,acc=>g d (τ++List.replicate k none) fun τ2=>(τ2.take τ.length=τ∧τ2.length=τ.length+k)∧ti τ2 fun b=>if b=true then te τ2 fun r=>pubR r fun d'=>acc.length < sizeLine∧compW τ k g ti te Q ds (acc++[d']) else compW τ k g ti te Q ds acc
def vComp (vi:TVA) (g:TVG) (ti:TVT) (te:TV) (k:Nat):TV:=fun τ Q=>vi τ fun a=>exA a Q fun ds=>compW τ k g ti te Q ds []
theorem Slots.more (S:Slots K H0 B H τ σ) (k:Nat):Slots K H0 B H (τ++List.replicate k none) (σ++List.replicate k none):=by
 have get:∀ (i:Nat) (r:R),(τ++List.replicate k none)[i]?=some (some r)→τ[i]?=some (some r)∧(σ++List.replicate k (none:Option V))[i]?=σ[i]?:=fun i r h=>by
  by_cases l:i < τ.length
  ·rw [List.getElem?_append_left l] at h
   exact ⟨h,List.getElem?_append_left (by rw [S.len]; exact l)⟩
  ·rw [List.getElem?_append_right (by lia)] at h
   by_cases l2:i - τ.length < k
   ·rw [List.getElem?_replicate_of_lt l2] at h; cases h
   ·rw [List.getElem?_eq_none (by rw [List.length_replicate]; lia)] at h; cases h
 refine ⟨by rw [List.length_append,List.length_append,S.len,List.length_replicate,List.length_replicate],fun i d h=>?_,fun i d h=>?_,fun i d h=>?_,fun i j d e a h1 h2 h3 h4=>?_⟩
 ·obtain ⟨g1,g2⟩:=get i _ h
  rw [g2]
  exact S.val i d g1
 ·obtain ⟨g1,g2⟩:=get i _ h
  rw [g2]
  exact S.fz i d g1
 ·obtain ⟨g1,g2⟩:=get i _ h
  rw [g2]
  exact S.own i d g1
 ·obtain ⟨g1,g2⟩:=get i _ h1
  obtain ⟨g3,g4⟩:=get j _ h2
  rw [g2] at h3
  rw [g4] at h4
  exact S.sep i j d e a g1 g3 h3 h4
theorem Slots.less {τ2:VSt} {k:Nat} (S:Slots K H0 B H τ2 σ) (h1:τ2.take τ.length=τ) (h2:τ2.length=τ.length+k):Slots K H0 B H (τ++List.replicate k none) σ∧∀ (j:Nat) (e:D),(τ++List.replicate k none)[j]?=some (some (R.own e))→τ2[j]?=some (some (R.own e)):=by
 have get:∀ (i:Nat) (r:R),(τ++List.replicate k none)[i]?=some (some r)→τ2[i]?=some (some r):=fun i r h=>by
  by_cases l:i < τ.length
  ·rw [List.getElem?_append_left l,← h1,List.getElem?_take_of_lt l] at h
   exact h
  ·rw [List.getElem?_append_right (by lia)] at h
   by_cases l2:i - τ.length < k
   ·rw [List.getElem?_replicate_of_lt l2] at h; cases h
   ·rw [List.getElem?_eq_none (by rw [List.length_replicate]; lia)] at h; cases h
 exact ⟨⟨by rw [S.len,h2,List.length_append,List.length_replicate],fun i d h=>S.val i d (get i _ h),fun i d h=>S.fz i d (get i _ h),fun i d h=>S.own i d (get i _ h),fun i j d e a q1 q2=>S.sep i j d e a (get i _ q1) (get j _ q2)⟩,fun j e=>get j _⟩
theorem Slots.heap (S:Slots K H0 B H τ σ) (h:∀ (i:Nat) (d:D) (a:Addr),τ[i]?=some (some (R.own d))→σ[i]?=some (some (.ref a))→H' a=H a):Slots K H0 B H' τ σ :=
 ⟨S.len,S.val,S.fz,fun i d e=>let ⟨a,q1,q2,q3,q4⟩:=S.own i d e; ⟨a,q1,q2,q3,q4.step (Same.refl _) (h i d a e q1)⟩,S.sep⟩
abbrev EX0:St→XK:=fun _ _ _ _=>False
theorem rf_comp {wi:TI} {g:TG} {ti:TF} {ee:TE} {vi:TVA} {gv:TVG} {tv:TVT} {k:Nat} (hi:RfI K EX wi vi) (hg:RfG K g gv) (hf:RfF K ti tv) (he:RfE K EX0 ee te):RfE K EX (tComp wi g ti ee k) (vComp vi gv tv te k):=fun H0 B H τ σ Q Qd s S h xc kk =>
 hi H0 B H τ σ _ _ s S h xc fun J ds B1 H1 q ok hw p hp=>by
  have S1:=S.step q
  refine ⟨fun i m σ' xs H'=>m=ds.length - i∧i≤ds.length∧∃ B2 acc,Stp B1 H1 B2 H'∧H' p=some (.lst xs)∧B2 p=none∧Reps K B2 acc xs∧Slots K H0 B2 H' (τ++List.replicate k none) σ' ∧
    (∀ (j:Nat) (e:D),(τ++List.replicate k none)[j]?=some (some (R.own e))→σ'[j]?≠some (some (.ref p)))∧compW τ k gv tv te Qd (ds.drop i) acc,
   ⟨ds.length,by lia,Nat.zero_le _,B1,[],.grow q.s (same_upd hp _),upd_same,q.s.free hp,.nil,(S1.more k).heap fun i d a h1 h2=>?_,fun j e h1 h2=>?_,hw⟩,?_⟩
  ·obtain ⟨c,q1,_,_,ow⟩:=(S1.more k).own i d h1
   rw [h2] at q1
   cases q1
   exact upd_ne fun z=>ow.some (z ▸ hp)
  ·obtain ⟨c,q1,_,_,ow⟩:=(S1.more k).own j e h1
   rw [h2] at q1
   cases q1
   exact ow.some hp
  rintro i m σ2 xs H2 ⟨rfl,hle,B2,acc,p2,hx,hb,rp,S2,fr,w⟩
  by_cases hlt:i < ds.length
  ·have ei:ds[i]?=some ds[i]:=List.getElem?_eq_getElem hlt
   rw [List.drop_eq_getElem_cons hlt] at w
   obtain ⟨go,yl⟩:=(ok i B2 H2 p2.b p2.s).1 _ ei
   refine .inr ⟨go,fun y H' hy=>?_⟩
   obtain ⟨B3,q3,ry⟩:=yl y H' hy
   replace hb:=q3.keep hb (by rw [hx]; exact fun z=>by cases z) (by rw [hx]; exact fun _ z=>by cases z)
   replace hx:=q3.h _ _ hx
   replace rp:=rp.same q3.b
   replace p2:=p2.trans q3
   replace S2:=S2.step q3
   clear q3
   refine hg H0 B3 H' _ σ2 y _ _ _ p2.s S2 ry w fun τ3 σ3 S3 kp h3=>?_
   obtain ⟨⟨e1,e2⟩,h3⟩:=h3
   obtain ⟨S3',ow3⟩:=S3.less e1 e2
   have fr3:∀ (j:Nat) (e:D),(τ++List.replicate k none)[j]?=some (some (R.own e))→σ3[j]?≠some (some (.ref p)):=fun j e h z=>by
    obtain ⟨g1,g2⟩:=kp j e (ow3 j e h)
    rw [g2] at z
    exact fr j e g1 z
   refine hf H0 B3 H' τ3 σ3 _ _ _ p2.s S3 h3 fun b B4 H4 q4 hq4=>?_
   have hx4:H4 p=some (.lst xs):=q4.h _ _ hx
   have hb4:B4 p=none:=q4.keep hb (by rw [hx]; exact fun z=>by cases z) (by rw [hx]; exact fun _ z=>by cases z)
   cases b with
   | false =>
    rw [if_neg Bool.false_ne_true] at hq4 ⊢
    exact ⟨ds.length - (i+1),by lia,rfl,by lia,B4,acc,p2.trans q4,hx4,hb4,rp.same q4.b,S3'.step q4,fr3,hq4⟩
   | true =>
    rw [if_pos rfl] at hq4 ⊢
    refine he H0 B4 H4 τ3 σ3 _ _ q4.s (S3.step q4) hq4 (xno fun _ q=>q) fun r v B5 H5 q5 hr hq5=>?_
    obtain ⟨d',B6,q6,_,rd,hz,hq6⟩:=pub q5 hr hq5
    have hx6:H5 p=some (.lst xs):=q6.h _ _ hx4
    have hb6:B6 p=none:=q6.keep hb4 (by rw [hx4]; exact fun z=>by cases z) (by rw [hx4]; exact fun _ z=>by cases z)
    have qq:=q4.trans q6
    refine ⟨hx6,by rw [← rp.length]; exact hz,ds.length - (i+1),by lia,rfl,by lia,B6,acc++[d'],(p2.trans qq).upd hp hb6,upd_same,hb6,(rp.same qq.b).append (.one rd),(S3'.step qq).heap fun j d a h1 h2=>?_,fr3,hq6⟩
    exact upd_ne fun z=>fr3 j d h1 (z ▸ h2)
  ·have ei:ds[i]?=none:=List.getElem?_eq_none (by lia)
   rw [List.drop_eq_nil_of_le (by lia)] at w
   exact .inl ⟨(ok i B2 H2 p2.b p2.s).2 ei,kk (.own (.lst acc)) _ B2 H2 (q.trans p2) ⟨p,rfl,q.h.free hp,hb,xs,hx,rp⟩ w⟩
def canE (K:PySem.W.Frag) (t:TV):TE:=fun σ H Q=>∃ H0 B τ Qd,Same B H∧Slots K H0 B H τ σ∧t τ Qd∧(∀ n C B' H',Stp B H B' H'→clsOf K n C→Qd (.exc n)→EX0 σ (.ref C) none H')∧∀ r v B' H',Stp B H B' H'→RepR K B' H H' r v→Qd r→Q v H'
def canG (K:PySem.W.Frag) (g:TVG):TG:=fun v σ H Q=>∃ H0 B τ d Qd,Same B H∧Slots K H0 B H τ σ∧Rep K B d v∧g d τ Qd∧∀ τ' σ',Slots K H0 B H τ' σ'→Kp τ σ τ' σ'→Qd τ'→Q σ' H
def canF (K:PySem.W.Frag) (t:TVT):TF:=fun σ H Y N=>∃ H0 B τ Qd,Same B H∧Slots K H0 B H τ σ∧t τ Qd∧∀ b B' H',Stp B H B' H'→Qd b→if b=true then Y H' else N H'
theorem VE.can (h:VE X EX0 e te):QE X e (canE X.K te):=let ⟨_,a1,a2⟩:=h.u; ⟨fun pins s σ H Q I ⟨H0,B,τ,Qd,q1,q2,q3,q4,q5⟩=>a1.u pins s σ H Q I (a2 H0 B H τ σ Q Qd q1 q2 q3 q4 q5)⟩
theorem VG.can {g:TVG} (h:VG X e g):QG X e (canG X.K g):=let ⟨_,a1,a2⟩:=h.u; ⟨fun pins s σ H v u Q I r ⟨H0,B,τ,d,Qd,q1,q2,q3,q4,q5⟩=>a1.u pins s σ H v u Q I r (a2 H0 B H τ σ v d Q Qd q1 q2 q3 q4 q5)⟩
theorem VFs.can (h:VFs X EX es tT):QF X es (canF X.K tT):=let ⟨_,a1,a2⟩:=h.u; ⟨fun pins s σ H Y N I ⟨H0,B,τ,Qd,q1,q2,q3,q4⟩=>a1.u pins s σ H Y N I (a2 H0 B H τ σ Y N Qd q1 q2 q3 q4)⟩
theorem vc_comp {tg iter elt:Expr} {ifs:List Expr} {csc:Scope} {NB M:List Str} {vi:TVA} {g:TVG} {ti:TVT} (hi:VI X EX tg iter vi) (hc:X.calm=true) (S:CompScope X.env.scope X.N NB M csc)
  (hg:∀ cl C s₀ H₀ fp pn,VG (cxC X NB csc cl C s₀ H₀ fp pn) tg g) (hf:∀ cl C s₀ H₀ fp pn,VFs (cxC X NB csc cl C s₀ H₀ fp pn) EX0 ifs ti)
  (he:∀ cl C s₀ H₀ fp pn,VE (cxC X NB csc cl C s₀ H₀ fp pn) EX0 elt te) (hs:∀ x,foldedSetIterable iter X.env x=pure x:=by intro _; rfl):VC X EX (.ListComp elt [⟨tg,iter,ifs,0⟩] csc pos) (vComp vi g ti te M.length) :=
 let ⟨_,a1,a2⟩:=hi.u; ⟨_,qc_comp (g:=canG X.K g) (ti:=canF X.K ti) (te:=canE X.K te) a1 hc S (fun cl C s₀ H₀ fp pn=>(hg cl C s₀ H₀ fp pn).can) (fun cl C s₀ H₀ fp pn=>(hf cl C s₀ H₀ fp pn).can) (fun cl C s₀ H₀ fp pn=>(he cl C s₀ H₀ fp pn).can) hs,
  rf_comp a2 (fun H0 B H τ σ v d Q Qd q1 q2 q3 q4 q5=>⟨H0,B,τ,d,Qd,q1,q2,q3,q4,q5⟩) (fun H0 B H τ σ Y N Qd q1 q2 q3 q4=>⟨H0,B,τ,Qd,q1,q2,q3,q4⟩) (fun H0 B H τ σ Q Qd q1 q2 q3 q4 q5=>⟨H0,B,τ,Qd,q1,q2,q3,q4,q5⟩)⟩
theorem vc_e (h:VC X EX e te):VE X EX e te:=let ⟨_,a1,a2⟩:=h.u; ⟨_,qc_e a1,a2⟩
def ownL (τ:VSt) (i:Nat) (Q:List D→Prop):Prop:=match τ[i]? with
 | some (some (.own (.lst ds)))=>Q ds
 | _=>False
theorem ownL_of {i:Nat} {Q:List D→Prop} (h:ownL τ i Q):∃ ds,τ[i]?=some (some (.own (.lst ds)))∧Q ds:=by
 unfold ownL at h
 split at h
 ·exact ⟨_,by assumption,h⟩
 ·exact h.elim
theorem Slots.lst {i:Nat} {ds es:List D} {ad:Addr} {ys:List V} (S:Slots K H0 B H τ σ) (p:Stp B0 H0 B H) (hi:τ[i]?=some (some (.own (.lst ds)))) (ha:σ[i]?=some (some (.ref ad))) (r:Reps K B es ys) :
  Stp B0 H0 B (L2.upd H ad (.lst ys))∧Slots K H0 B (L2.upd H ad (.lst ys)) (τ.set i (some (.own (.lst es)))) σ:=by
 obtain ⟨c,q,h0,hb,_⟩:=S.own i _ hi
 rw [ha] at q
 cases q
 exact ⟨p.upd h0 hb,S.upd hi ha (own_newL r)⟩
theorem Slots.ownL {i:Nat} {Q:List D→Prop} (S:Slots K H0 B H τ σ) (h:L2.ownL τ i Q):∃ ds ad xs,τ[i]?=some (some (.own (.lst ds)))∧Q ds∧σ[i]?=some (some (.ref ad))∧H ad=some (.lst xs)∧Reps K B ds xs:=by
 obtain ⟨ds,e,q⟩:=ownL_of h
 obtain ⟨a,q1,_,_,xs,q2,q3⟩:=S.own i _ e
 exact ⟨ds,a,xs,e,q,q1,q2,q3⟩
def vAppend (i:Nat) (te:TV):TVS:=fun Dv τ=>ownL τ i fun ds=>te τ fun r=>exS τ Dv r (pubR r fun d=>ds.length < sizeLine∧Dv.nx (τ.set i (some (.own (.lst (ds++[d]))))))
theorem vs_append (i:Nat) (h:VE X EX e te) (hN:X.N[i]?=some x:=by rfl) (hv:Vis X.env.scope x:=by first | exact Or.inl rfl | exact Or.inr (Or.inl rfl) | exact Or.inr (Or.inr rfl)) (hd:(x == ("__debug__" : Str))=false:=by decide)
  (hcd:(x == ("__classdict__" : Str))=false:=by decide) (hp:plainE e=true:=by rfl)
  (hbase:attributeBase (.Name x p) "append" X.env (eval (.Name x p) X.env)=eval (.Name x p) X.env:=by rfl) (hline:(apos.endLine == cpos.line)=true:=by rfl)
  (hs:swapsWith (.Call (.Attribute (.Name x p) "append" apos) [e] [] cpos) none pos.line X.env=pure false:=by rfl) :
  VS X EX (.Expr (.Call (.Attribute (.Name x p) "append" apos) [e] [] cpos) pos) (vAppend i te) :=
 let ⟨_,a1,a2⟩:=h.u; ⟨_,qs_expr (qbm PySem.F.plainAttrs_list PySem.F.slot_list_append PySem.F.type_list_append mt_append (qv i hN hv hd hcd) (qac a1 qa_nil hp) (by simp [hp]) rfl hbase hline) hs,fun B0 H0 B H τ σ Dv Dh p S h E=>by
  obtain ⟨ds,ad,xs,e1,h,e2,e3,_⟩:=S.ownL h
  refine ⟨.ref ad,e2,.inl ⟨rfl,xs,SqL.of e3⟩,a2 H0 B H τ σ _ _ p.s S h (E.raised p S) fun r v B' H' q hr hq=>?_⟩
  obtain ⟨d,B2,q2,_,rp,hz,hn⟩:=pub q hr (hr.okS hq)
  have S2:=S.step q2
  obtain ⟨a',q1,_,_,xs2,q4,q3⟩:=S2.own i _ e1
  rw [e2] at q1
  cases q1
  refine ⟨ad,xs2,v,rfl,rfl,q4,by rw [← q3.length]; exact hz,?_⟩
  obtain ⟨p3,S3⟩:=S2.lst (p.trans q2) e1 e2 (q3.append (.one rp))
  exact E.nx B2 _ _ σ p3 S3 hn⟩
def startD (N:List Str) (ds:List D):VSt:=ds.map (fun d=>some (R.val d))++List.replicate (N.length - ds.length) none
theorem reps_slots:∀ {ds:List D} {vs:List V},Reps K B ds vs→Slots K H0 B H (ds.map fun d=>some (R.val d)) (vs.map some)
 | [],_,h=>by
  unfold Reps at h
  subst h
  exact ⟨rfl,fun i d e=>by simp at e,fun i d e=>by simp at e,fun i d e=>by simp at e,fun i j d e a h=>by simp at h⟩
 | d :: ds,_,h=>by
  unfold Reps at h
  obtain ⟨v,vs,rfl,h1,h2⟩:=h
  have S:=reps_slots h2
  refine ⟨by have:=S.len; simp at this ⊢; exact this,fun i f e=>?_,fun i f e=>?_,fun i f e=>?_,fun i j f g ad e=>?_⟩
  ·cases i with
   | zero=>simp at e; subst e; exact ⟨v,rfl,h1⟩
   | succ i=>simpa using S.val i f (by simpa using e)
  ·cases i with
   | zero=>simp at e
   | succ i=>simpa using S.fz i f (by simpa using e)
  ·cases i with
   | zero=>simp at e
   | succ i=>simpa using S.own i f (by simpa using e)
  ·cases i with
   | zero=>simp at e
   | succ i =>
    simp at e
theorem Fun.okV {P:Program} {w:World} {mg:Str→Option Value} {base:Heap} {x qual:Str} {st:Stmt} {f:Addr} {fd:FuncData} {N ps:List Str} {k:Nat} {g:DP} (F:Fun K x qual st f fd) (S:FnScope N ps (defScope st)) (len:∀ ds Q,g ds Q→ds.length=ps.length)
  (hbody:∀ (cdv:Value) (A:Around) (outer:List Env) (s:Shared) (H:Hp) (E:XK),Room k (A.deeper (envOfC qual (defScope st) s.heap.objs.size f cdv)) →
   ∃ t,VSs (cxOf CX0 P w K mg base N qual (defScope st) f cdv A outer s H E).nox EX0 (defBody st) t∧∀ ds Q,g ds Q→t { nx:=fun _=>Q (.val .non),rt:=Q } (startD N ds)):FnOk P w K mg base CX0 (k+1) f fd ps (spOf K g):=by
 refine F.okQ S (fun vs H Q E h=>?_) (fun cdv A outer s H vs Q E hr h=>?_)
 ·obtain ⟨ds,B,Qd,_,rp,hg,_,_⟩:=h
  rw [← rp.length]
  exact len ds Qd hg
 ·obtain ⟨ds,B,Qd,sm,rp,hg,_,kk⟩:=h
  obtain ⟨t,⟨ts,q1,q2⟩,ht⟩:=hbody cdv A outer s H E hr
  refine ⟨ts,q1,q2 B H B H (startD N ds) (start N vs) _ _ (.refl sm) ?_ (ht ds Qd hg) ⟨fun B' H' τ σ p S h=>kk (.val .non) .non B' H' h p (repV rfl),fun r v B' H' p hr h=>kk r v B' H' h p hr,fun _ _ _ _ _ _ h=>h.elim,fun _ _ _ _ _ _ h=>h.elim,fun _ _ _ _ _ _ _ _ _ h=>h.elim,fun _ _ _ _ _ _ _ _ _ _ h=>h.elim⟩⟩
  unfold startD start
  rw [rp.length]
  exact (reps_slots rp).more _
end
end L2
namespace L2
open PySem PySem.Spec PyProof.Rows
section
variable {X:Cx} {EX:St→XK} {K:PySem.W.Frag} {e a b c o:Expr} {te ta tb tc to:TV} {pos p apos cpos:Pos} {x:Str}
def vNeg (ta:TV):TV:=fun τ Q=>ta τ fun r=>match r.d with
 | .int i=>Q (.val (.int (-i)))
 | _=>False
theorem ve_neg (ha:VE X EX a ta):VE X EX (.UnaryOp .USub a pos) (vNeg ta) :=
 let ⟨_,a1,a2⟩:=ha.u; ⟨_,qe_un un_neg a1,fun H0 B H τ σ Q Qd s S h xc k=>a2 H0 B H τ σ _ _ s S h (xno fun _ q=>q) fun r v B' H' p q h1=>by
  split at h1
  ·rename_i i e
   exact ⟨i,q.pk.scal (by rw [e]; rfl),k (.val (.int (-i))) _ B' H' p (repV rfl) h1⟩
  ·exact h1.elim⟩
def vIsN (g:Bool→Bool) (rx ry:R) (Q:R→Prop):Prop:=match ry.d with
 | .non=>Q (.val (.bl (g (match rx.d with | .non=>true | _=>false))))
 | _=>False
theorem pk_non {B H:Hp} {r:R} {v:V} (h:Pk K B H r v):decide (v=.non)=(match r.d with | .non=>true | _=>false):=by
 have key:∀ d,Rep K B d v→decide (v=.non)=(match d with | .non=>true | _=>false):=fun d h=>by
  cases d <;> unfold Rep at h <;> first | (subst h; rfl) | (obtain ⟨_,_,rfl,_⟩:=h; rfl) | (obtain ⟨_,rfl,_⟩:=h; rfl)
 have key2:∀ d,(∃ a,v=.ref a∧B a=none∧OwnAt K B H d a)→decide (v=.non)=(match d with | .non=>true | _=>false):=fun d ⟨a,e,_,ow⟩=>by
  subst e
  cases d <;> first | rfl | exact ow.elim
 cases r with
 | val d=>exact key d h
 | own d=>exact key2 d h
 | peek d=>exact key2 d h
 | exc n=>exact h.elim
theorem vo_is:VO X (compareOp .Is) (vIsN id):=by
 refine ⟨_,op_isN,fun B H x y rx ry Q Qd s px py h k=>?_⟩
 unfold vIsN at h
 split at h
 ·rename_i e
  refine ⟨py.scal (by rw [e]; rfl),?_⟩
  rw [pk_non px]
  exact k _ _ B H (.refl s) (repV rfl) h
 ·exact h.elim
theorem vo_isnot:VO X (compareOp .IsNot) (vIsN (!·)):=by
 refine ⟨_,op_notN,fun B H x y rx ry Q Qd s px py h k=>?_⟩
 unfold vIsN at h
 split at h
 ·rename_i e
  refine ⟨py.scal (by rw [e]; rfl),?_⟩
  rw [pk_non px]
  exact k _ _ B H (.refl s) (repV rfl) h
 ·exact h.elim
theorem mt_joinT:MtM X "str.join" (fun x vs H Q=>∃ (sep:Str) (l:Addr) (ys:List Str),x=.str sep∧vs=[.ref l]∧SqT X.K H l (ys.map V.str)∧(ys.map (·.length)).sum+ys.length * sep.length≤16777216∧Q (.str (glue sep ys)) H):=by
 intro pins s σ H x vs v us Q I rx rv h
 obtain ⟨sep,l,ys,rfl,rfl,hq,hz,q⟩:=h
 obtain ⟨t,rfl⟩:=rx
 obtain ⟨u,rfl,ru⟩:=rv.one
 cases ru
 obtain ⟨its,r,pl,_⟩:=I.tuple hq
 obtain ⟨ts,rfl,rfl⟩:=strs_of r
 have fit:Builtin.Str.tooLong ((ts.map (·.1)).toArray.foldl (·+·.length+sep.length) 0)=false:=by
  rw [StrLaws.joinTotal]
  unfold Builtin.Str.tooLong
  rw [sizeLine_eq]
  exact decide_eq_false (by lia)
 exact call_meets F.slot_str_join (typeIs_str _ _ _) F.entry_str_join (F.args_str_join_2 _ _) (meets_str_join_tuple sep t l ts fit) ⟨(let ⟨o,h1,h2,n,h3⟩:=pl; ⟨o,n,h1,h2,h3⟩),post_join ts ⟨joinFit_length fit,fun t' k=>⟨.str (glue sep (ts.map (·.1))),H,I.tok k,⟨t',rfl⟩,q⟩⟩⟩
def vJoin (to te:TV):TV:=fun τ Q=>to τ fun rs=>match rs.d with
 | .str sep=>te τ fun rl=>∃ ys:List Str,(rl.d=.lst (ys.map D.str)∨rl.d=.tup (ys.map D.str))∧(ys.map (·.length)).sum+ys.length * sep.length≤16777216∧Q (.val (.str (glue sep ys)))
 | _=>False
theorem ve_join (ho:VE X EX o to) (h:VE X EX e te) (hp:plainE e=true:=by rfl)
  (hbase:attributeBase o "join" X.env (eval o X.env)=eval o X.env:=by rfl) (hline:(apos.endLine == cpos.line)=true:=by rfl):VE X EX (.Call (.Attribute o "join" apos) [e] [] cpos) (vJoin to te) :=
 let ⟨_,o1,o2⟩:=ho.u; let ⟨_,a1,a2⟩:=h.u; ⟨_,qbm PySem.F.plainAttrs_str PySem.F.slot_str_join PySem.F.type_str_join (MtR.or mt_join mt_joinT) o1 (qac a1 qa_nil hp) (by simp [hp]) rfl hbase hline,fun H0 B H τ σ Q Qd s S h xc k =>
  o2 H0 B H τ σ _ _ s S h (xno fun _ q=>q) fun rs vs B1 H1 p1 q1 h1=>by
   split at h1
   ·rename_i sep es
    cases q1.pk.scal (z:=.str sep) (by rw [es]; rfl)
    refine ⟨rfl,a2 H0 B1 H1 τ σ _ _ p1.s (S.step p1) h1 (xno fun _ ⟨_,q,_⟩=>by rcases q with q | q <;> cases q) fun rl vl B2 H2 p2 q2 h2=>?_⟩
    obtain ⟨ys,el,hz,hq⟩:=h2
    rcases el with el | el
    ·obtain ⟨ad,xs,rfl,hx,rx⟩:=q2.pk.lst p2.s el
     exact .inl ⟨sep,ad,ys,rfl,rfl,SqL.of (by rw [hx,rx.strs]),hz,k _ _ B2 H2 (p1.trans p2) (repV rfl) hq⟩
    ·obtain ⟨ad,xs,rfl,hx,rx⟩:=q2.pk.tup el
     cases rx.strs
     exact .inr ⟨sep,ad,ys,rfl,rfl,p2.s.sqT hx.sq,hz,k _ _ B2 H2 (p1.trans p2) (repV rfl) hq⟩
   ·exact h1.elim⟩
def strsOf:List D→Option (List Str)
 | []=>some []
 | .str s :: ds=>(strsOf ds).map (s :: ·)
 | _ :: _=>none
theorem strsOf_map (ss:List Str):strsOf (ss.map D.str)=some ss:=by
 induction ss with
 | nil=>rfl
 | cons s ss ih=>rw [List.map_cons,strsOf,ih]; rfl
theorem strsOf_eq:∀ {ds:List D} {ss:List Str},strsOf ds=some ss→ds=ss.map D.str
 | [],ss,h=>by cases h; rfl
 | d :: ds,ss,h=>by
  cases d <;> first | (unfold strsOf at h; cases h; done) | skip
  rename_i s
  unfold strsOf at h
  cases q:strsOf ds with
  | none=>rw [q] at h; cases h
  | some r =>
   rw [q] at h
   cases h
   rw [strsOf_eq q]
   rfl
def vIn (g:Bool→Bool) (rx ry:R) (Q:R→Prop):Prop:=match rx.d,ry.d with
 | .str x,.str y=>Q (.val (.bl (g (!(Builtin.Str.occurrences y x 0 y.length 1).isEmpty))))
 | .str x,.tup ds=>∃ ss,strsOf ds=some ss∧Q (.val (.bl (g (decide (x∈ss)))))
 | .str x,.lst ds=>∃ ss,strsOf ds=some ss∧Q (.val (.bl (g (decide (x∈ss)))))
 | .str x,.kt ss=>Q (.val (.bl (g (decide (x∈ss)))))
 | _,_=>False
theorem inV_strs (x:Str):∀ (ss:List Str),inV (.str x) (ss.map V.str)=decide (x∈ss)
 | []=>rfl
 | y :: ss=>by
  have:=inV_strs x ss
  unfold inV at this ⊢
  rw [List.map_cons,List.any_cons,this]
  apply bool_iff
  rw [Bool.or_eq_true,decide_eq_true_iff,decide_eq_true_iff,List.mem_cons]
  rw [show eqV (V.str y) (V.str x)=(y == x) from rfl,beq_iff_eq]
  exact ⟨fun h=>h.imp Eq.symm id,fun h=>h.imp Eq.symm id⟩
theorem flat_strs (ss:List Str):(ss.map V.str).all flatV=true:=by rw [List.all_map]; simp [flatV]
theorem Pk.kt {B H:Hp} {r:R} {v:V} {ss:List Str} (h:Pk K B H r v) (e:r.d=.kt ss):∃ a,v=.ref a∧SqT K (fun _=>none) a (ss.map V.str):=by
 cases r with
 | val d =>
  cases (show d=_ from e)
  have h':Rep K B (.kt ss) v:=h
  unfold Rep at h'
  exact h'
 | own d=>cases (show d=_ from e); obtain ⟨_,_,_,q⟩:=h; exact q.elim
 | peek d=>cases (show d=_ from e); obtain ⟨_,_,_,q⟩:=h; exact q.elim
 | exc n=>exact h.elim
theorem vo_in:VO X (compareOp .In) (vIn id):=by
 refine ⟨_,op_in_str.or op_in_seq,fun B H x y rx ry Q Qd s px py h k=>?_⟩
 unfold vIn at h
 split at h
 ·rename_i u w e1 e2
  exact .inl ⟨u,w,px.scal (by rw [e1]; rfl),py.scal (by rw [e2]; rfl),k _ _ B H (.refl s) (repV rfl) h⟩
 ·rename_i u ds e1 e2
  obtain ⟨ss,hs,q⟩:=h
  cases strsOf_eq hs
  cases px.scal (z:=.str u) (by rw [e1]; rfl)
  obtain ⟨a,xs,rfl,h1,r1⟩:=py.tup e2
  cases r1.strs
  have q':Qd (.val (.bl (decide (u∈ss)))):=q
  rw [← inV_strs] at q'
  exact .inr ⟨a,_,rfl,.inr (s.sqT h1.sq),rfl,flat_strs ss,k _ _ B H (.refl s) (repV rfl) q'⟩
 ·rename_i u ds e1 e2
  obtain ⟨ss,hs,q⟩:=h
  cases strsOf_eq hs
  cases px.scal (z:=.str u) (by rw [e1]; rfl)
  obtain ⟨a,xs,rfl,h1,r1⟩:=py.lst s e2
  cases r1.strs
  have q':Qd (.val (.bl (decide (u∈ss)))):=q
  rw [← inV_strs] at q'
  exact .inr ⟨a,_,rfl,.inl (SqL.of h1),rfl,flat_strs ss,k _ _ B H (.refl s) (repV rfl) q'⟩
 ·rename_i u ss e1 e2
  cases px.scal (z:=.str u) (by rw [e1]; rfl)
  obtain ⟨a,rfl,h1⟩:=py.kt e2
  have q':Qd (.val (.bl (decide (u∈ss)))):=h
  rw [← inV_strs] at q'
  exact .inr ⟨a,_,rfl,.inr ((Same.emp H).sqT h1),rfl,flat_strs ss,k _ _ B H (.refl s) (repV rfl) q'⟩
 ·exact h.elim
end
end L2
namespace L2
open PySem PySem.Spec PyProof.Rows
theorem v_cut {t u:TVS} {Dv:VEnds} {τ:VSt} (Pv:VSt→Prop) (rest:∀ τ,Pv τ→u Dv τ) (now:∀ nx:VSt→Prop,(∀ τ,Pv τ→nx τ)→t { nx:=nx,rt:=Dv.rt,bk:=Dv.bk,ct:=Dv.ct,xc:=Dv.xc,ro:=Dv.ro } τ):vSeq t u Dv τ:=now (u Dv) rest
section
variable {g:TVG} {tb:TVS} {Dv:VEnds} {τ:VSt}
theorem for_inv {ds:List D} (Pv:Nat→VSt→Prop) (h0:Pv 0 τ) (hn:∀ (i:Nat) (d:D) (τ:VSt),ds[i]?=some d→Pv i τ→∀ nx:VSt→Prop,(∀ τ',Pv (i+1) τ'→nx τ')→g d τ fun τ'=>tb { nx:=nx,rt:=Dv.rt,bk:=Dv.nx,ct:=nx,xc:=Dv.xc,ro:=Dv.ro } τ')
  (he:∀ τ,Pv ds.length τ→Dv.nx τ):forW g tb Dv ds τ:=by
 have key:∀ (n i:Nat) (τ:VSt),ds.length - i=n→i≤ds.length→Pv i τ→forW g tb Dv (ds.drop i) τ:=fun n=>by
  induction n with
  | zero =>
   intro i τ h1 h2 h3
   have e:i=ds.length:=by lia
   subst e
   rw [List.drop_length]
   exact he τ h3
  | succ n ih =>
   intro i τ h1 h2 h3
   have l:i < ds.length:=by lia
   rw [List.drop_eq_getElem_cons l]
   exact hn i ds[i] τ (List.getElem?_eq_getElem l) h3 _ fun τ' h=>ih (i+1) τ' (by lia) (by lia) h
 have:=key ds.length 0 τ (by lia) (Nat.zero_le _) h0
 rw [List.drop_zero] at this
 exact this
theorem for_map {α:Type} {f:α→D} {xs:List α} (Pv:Nat→VSt→Prop) (h0:Pv 0 τ) (hn:∀ (i:Nat) (x:α) (τ:VSt),xs[i]?=some x→Pv i τ→∀ nx:VSt→Prop,(∀ τ',Pv (i+1) τ'→nx τ')→g (f x) τ fun τ'=>tb { nx:=nx,rt:=Dv.rt,bk:=Dv.nx,ct:=nx,xc:=Dv.xc,ro:=Dv.ro } τ')
  (he:∀ τ,Pv xs.length τ→Dv.nx τ):forW g tb Dv (xs.map f) τ:=by
 refine for_inv Pv h0 (fun i d τ e=>?_) (by rw [List.length_map]; exact he)
 rw [List.getElem?_map] at e
 cases q:xs[i]? with
 | none=>rw [q] at e; cases e
 | some x =>
  rw [q] at e
  cases e
  exact hn i x τ q
theorem for_rng {lo:Int} {n:Nat} (Pv:Nat→VSt→Prop) (h0:Pv 0 τ) (hn:∀ (i:Nat) (τ:VSt),i < n→Pv i τ→∀ nx:VSt→Prop,(∀ τ',Pv (i+1) τ'→nx τ')→g (.int (lo+i)) τ fun τ'=>tb { nx:=nx,rt:=Dv.rt,bk:=Dv.nx,ct:=nx,xc:=Dv.xc,ro:=Dv.ro } τ')
  (he:∀ τ,Pv n τ→Dv.nx τ):forW g tb Dv (rngL lo n) τ:=by
 unfold rngL
 refine for_map Pv h0 (fun i x τ e=>?_) (by rw [List.length_range]; exact he)
 by_cases l:i < n
 ·rw [List.getElem?_range l] at e
  cases e
  exact hn i τ l
 ·rw [List.getElem?_eq_none (by rw [List.length_range]; lia)] at e
  cases e
end
theorem filter_yes {α:Type} (xs:List α):xs.filter (fun _=>true)=xs:=List.filter_eq_self.mpr fun _ _=>rfl
section
variable {α:Type} {f:α→D} {τ:VSt} {k:Nat} {g:TVG} {ti:TVT} {te:TV} {Q:R→Prop}
theorem comp_rel (P:α→D→Prop) (p:α→Bool) (xs:List α) (hz:xs.length≤sizeLine)
  (ok:∀ x∈xs,∀ (Y:R→Prop) (N:Prop),(p x=true→∀ d,P x d→Y (.val d))→(p x=false→N)→g (f x) (τ++List.replicate k none) fun τ2=>(τ2.take τ.length=τ∧τ2.length=τ.length+k)∧ti τ2 fun b=>if b=true then te τ2 Y else N)
  (fin:∀ es:List D,es.length=(xs.filter p).length→(∀ (j:Nat) (x:α) (e:D),(xs.filter p)[j]?=some x→es[j]?=some e→P x e)→Q (.own (.lst es))):compW τ k g ti te Q (xs.map f) []:=by
 have key:∀ (ys zs:List α) (acc:List D),xs=zs++ys→acc.length=(zs.filter p).length→(∀ (j:Nat) (x:α) (e:D),(zs.filter p)[j]?=some x→acc[j]?=some e→P x e)→compW τ k g ti te Q (ys.map f) acc:=by
  intro ys
  induction ys with
  | nil =>
   intro zs acc e h1 h2
   rw [List.append_nil] at e
   subst e
   exact fin acc h1 h2
  | cons y ys ih =>
   intro zs acc e h1 h2
   have hl:acc.length < sizeLine:=by
    have h3:=List.length_filter_le p zs
    have h4:xs.length=zs.length+(ys.length+1):=by rw [e,List.length_append,List.length_cons]
    lia
   refine ok y (by rw [e]; simp) _ _ (fun hp d hd=>⟨hl,ih (zs++[y]) (acc++[d]) (by rw [e]; simp) ?_ fun j x e' q1 q2=>?_⟩) (fun hp=>ih (zs++[y]) acc (by rw [e]; simp) ?_ fun j x e' q1 q2=>?_)
   ·rw [List.filter_append,List.length_append,List.length_append,h1]
    simp [hp]
   ·rw [List.filter_append] at q1
    have ef:[y].filter p=[y]:=by simp [hp]
    rw [ef] at q1
    by_cases l:j < (zs.filter p).length
    ·rw [List.getElem?_append_left l] at q1
     rw [List.getElem?_append_left (by lia)] at q2
     exact h2 j x e' q1 q2
    ·rw [List.getElem?_append_right (by lia)] at q1
     rw [List.getElem?_append_right (by lia)] at q2
     have ej:j - (zs.filter p).length=0:=by
      have:=(List.getElem?_eq_some_iff.mp q1).1
      simp at this
      lia
     rw [ej] at q1
     rw [h1,ej] at q2
     cases q1
     cases q2
     exact hd
   ·rw [List.filter_append,List.length_append,h1]
    simp [hp]
   ·rw [List.filter_append] at q1
    have ef:[y].filter p=[]:=by simp [hp]
    rw [ef,List.append_nil] at q1
    exact h2 j x e' q1 q2
 exact key xs [] [] rfl rfl (fun j x e q=>by simp at q)
theorem comp_filter (h:α→D) (p:α→Bool) (xs:List α) (hz:xs.length≤sizeLine)
  (ok:∀ x∈xs,∀ (Y:R→Prop) (N:Prop),(p x=true→Y (.val (h x)))→(p x=false→N)→g (f x) (τ++List.replicate k none) fun τ2=>(τ2.take τ.length=τ∧τ2.length=τ.length+k)∧ti τ2 fun b=>if b=true then te τ2 Y else N)
  (fin:Q (.own (.lst ((xs.filter p).map h)))):compW τ k g ti te Q (xs.map f) []:=by
 refine comp_rel (fun x d=>d=h x) p xs hz (fun x hx Y N h1 h2=>ok x hx Y N (fun z=>h1 z _ rfl) h2) fun es hl he=>?_
 have:es=(xs.filter p).map h:=List.ext_getElem (by rw [hl,List.length_map]) fun j h1 h2=>by
  rw [List.length_map] at h2
  rw [List.getElem_map]
  exact he j _ _ (List.getElem?_eq_getElem h2) (List.getElem?_eq_getElem h1)
 rw [this]
 exact fin
theorem comp_map (h:α→D) (xs:List α) (hz:xs.length≤sizeLine)
  (ok:∀ x∈xs,∀ (Y:R→Prop) (N:Prop),Y (.val (h x))→g (f x) (τ++List.replicate k none) fun τ2=>(τ2.take τ.length=τ∧τ2.length=τ.length+k)∧ti τ2 fun b=>if b=true then te τ2 Y else N)
  (fin:Q (.own (.lst (xs.map h)))):compW τ k g ti te Q (xs.map f) []:=by
 refine comp_filter h (fun _=>true) xs hz (fun x hx Y N h1 _=>ok x hx Y N (h1 rfl)) ?_
 rw [filter_yes]
 exact fin
end
def wayD (ws:List Str):D:=.tup (ws.map D.str)
theorem cmp_strs:∀ (ss ts:List Str),cmpDs (ss.map D.str) (ts.map D.str)=true
 | [],_=>by unfold cmpDs; rfl
 | _ :: _,[]=>by unfold cmpDs; rfl
 | s :: ss,t :: ts=>by
  show cmpDs (.str s :: ss.map D.str) (.str t :: ts.map D.str)=true
  unfold cmpDs
  rw [cmp_strs ss ts]
  rfl
theorem dep_strs:∀ (ss:List Str),depDs (ss.map D.str)=0
 | []=>rfl
 | s :: ss=>by
  show depDs (.str s :: ss.map D.str)=0
  unfold depDs
  rw [dep_strs ss]
  rfl
theorem map_str_inj {ss ts:List Str} (h:ss.map D.str=ts.map D.str):ss=ts:=by
 induction ss generalizing ts with
 | nil=>cases ts with
  | nil=>rfl
  | cons t ts=>cases h
 | cons s ss ih=>cases ts with
  | nil=>cases h
  | cons t ts =>
   injection h with h1 h2
   injection h1 with h1
   rw [h1,ih h2]
theorem eq_int (i j:Int):eqD (.int i) (.int j)=decide (i=j):=bool_iff (by
 rw [eqD_iff,decide_eq_true_iff]
 exact ⟨fun h=>D.int.inj h,fun h=>h ▸ rfl⟩)
theorem eq_str (i j:Str):eqD (.str i) (.str j)=decide (i=j):=bool_iff (by
 rw [eqD_iff,decide_eq_true_iff]
 exact ⟨fun h=>D.str.inj h,fun h=>h ▸ rfl⟩)
theorem cmp_int (i j:Int):cmpD (.int i) (.int j)=true:=rfl
theorem cmp_str (i j:Str):cmpD (.str i) (.str j)=true:=rfl
theorem dep_int (i:Int):depD (.int i)=0:=rfl
theorem dep_str (i:Str):depD (.str i)=0:=rfl
theorem atI_map {α β:Type} (f:α→β) (xs:List α) (k:Int):atI (xs.map f) k=(atI xs k).map f:=by
 unfold atI
 rw [List.length_map]
 cases ixN xs.length k with
 | none=>rfl
 | some j=>simp
theorem cutL_map {α β:Type} (f:α→β) (xs:List α) (lo hi:Option Int):cutL (xs.map f) lo hi=(cutL xs lo hi).map f:=by
 unfold cutL
 rw [List.length_map,List.map_take,List.map_drop]
theorem spOf_law {K:PySem.W.Frag} {H:Hp} {a:Addr} {ns:List Int} {g:DP} (h:g [.scr ns] (fun r=>r=.val (.bl true))) (hS:SqL K H a (ns.map V.int)) {E:XK}:spOf K g [.ref a] H (fun v _=>v=.bl true) E :=
 ⟨[.scr ns],H,_,Same.refl H,.one (by unfold Rep; exact ⟨a,rfl,hS⟩),h,(fun n C B' H' e _ _=>by cases e),fun r v B' H' e p rr=>by
  subst e
  have rr':Rep K B' (.bl true) v:=rr
  unfold Rep at rr'
  exact rr'⟩
theorem map_str_iff (ss ts:List Str):(ss.map D.str=ts.map D.str)=(ss=ts):=propext ⟨map_str_inj,fun h=>h ▸ rfl⟩
theorem map_int_iff (ss ts:List Int):(ss.map D.int=ts.map D.int)=(ss=ts):=propext ⟨fun h=>by
 induction ss generalizing ts with
 | nil=>cases ts with
  | nil=>rfl
  | cons t ts=>cases h
 | cons s ss ih=>cases ts with
  | nil=>cases h
  | cons t ts =>
   injection h with h1 h2
   injection h1 with h1
   rw [h1,ih _ h2],fun h=>h ▸ rfl⟩
theorem map_snoc {α:Type} (f:α→D) (xs:List α) (x:α):xs.map f++[f x]=(xs++[x]).map f:=by rw [List.map_append]; rfl
theorem snoc_str (xs:List Str) (x:Str):xs.map D.str++[.str x]=(xs++[x]).map D.str:=map_snoc _ xs x
theorem snoc_int (xs:List Int) (x:Int):xs.map D.int++[.int x]=(xs++[x]).map D.int:=map_snoc _ xs x
theorem cat_str (xs ys:List Str):xs.map D.str++ys.map D.str=(xs++ys).map D.str:=(List.map_append ..).symm
theorem drop_str (xs:List Str):(xs.map D.str).dropLast=xs.dropLast.map D.str:=by
 rw [← cutL_last,← cutL_last,cutL_map]
theorem pub_val (d:D) (Q:D→Prop):pubR (.val d) Q=Q d:=rfl
theorem pub_own (d:D) (Q:D→Prop):pubR (.own d) Q=Q d:=rfl
theorem take_str (k:Nat) (xs:List Str):(xs.map D.str).take k=(xs.take k).map D.str:=(List.map_take ..).symm
theorem dropn_str (k:Nat) (xs:List Str):(xs.map D.str).drop k=(xs.drop k).map D.str:=(List.map_drop ..).symm
theorem atI_lit {α:Type} (xs:List α) (n:Nat):atI xs (no_index (OfNat.ofNat n:Int))=xs[n]?:=by
 show atI xs (n:Int)=xs[n]?
 unfold atI ixN
 rw [if_pos (by lia)]
 by_cases h:(n:Int) < xs.length
 ·rw [if_pos h]
  simp
 ·rw [if_neg h]
  simp
  lia
theorem atI_neg1 {α:Type} (xs:List α):atI xs (-1)=xs.getLast?:=by
 unfold atI ixN
 rw [if_neg (by decide)]
 cases xs with
 | nil=>rfl
 | cons x xs =>
  rw [if_pos (by rw [List.length_cons]; lia)]
  rw [List.getLast?_eq_getElem?]
  show (x :: xs)[(-1+((x :: xs).length:Int)).toNat]?=_
  congr 1
  lia
theorem ex_val (d:D) (Q:R→Prop) (k:Prop):exR (.val d) Q k=k:=rfl
theorem ex_own (d:D) (Q:R→Prop) (k:Prop):exR (.own d) Q k=k:=rfl
theorem ex_peek (d:D) (Q:R→Prop) (k:Prop):exR (.peek d) Q k=k:=rfl
theorem ex_exc (n:Str) (Q:R→Prop) (k:Prop):exR (.exc n) Q k=Q (.exc n):=rfl
theorem exA_val (d:D) (Q:AR→Prop) (k:Prop):excA (.val d) Q k=k:=rfl
theorem exA_own (d:D) (Q:AR→Prop) (k:Prop):excA (.own d) Q k=k:=rfl
theorem exA_peek (d:D) (Q:AR→Prop) (k:Prop):excA (.peek d) Q k=k:=rfl
theorem exA_exc (n:Str) (Q:AR→Prop) (k:Prop):excA (.exc n) Q k=Q (.exc n):=rfl
theorem exS_val (τ:VSt) (Dv:VEnds) (d:D) (k:Prop):exS τ Dv (.val d) k=k:=rfl
theorem exS_own (τ:VSt) (Dv:VEnds) (d:D) (k:Prop):exS τ Dv (.own d) k=k:=rfl
theorem exS_peek (τ:VSt) (Dv:VEnds) (d:D) (k:Prop):exS τ Dv (.peek d) k=k:=rfl
theorem exS_exc (τ:VSt) (Dv:VEnds) (n:Str) (k:Prop):exS τ Dv (.exc n) k=Dv.xc τ n:=rfl
theorem exA_ok (ds:List D) (Q:R→Prop) (k:List D→Prop):exA (.ok ds) Q k=k ds:=rfl
theorem exA_raise (n:Str) (Q:R→Prop) (k:List D→Prop):exA (.exc n) Q k=Q (.exc n):=rfl
theorem exI_ok (τ:VSt) (Dv:VEnds) (ds:List D) (k:List D→Prop):exI τ Dv (.ok ds) k=k ds:=rfl
theorem exI_exc (τ:VSt) (Dv:VEnds) (n:Str) (k:List D→Prop):exI τ Dv (.exc n) k=Dv.xc τ n:=rfl
theorem more_ok (d:D) (ds:List D):moreA d (.ok ds)=.ok (d :: ds):=rfl
theorem more_exc (d:D) (n:Str):moreA d (.exc n)=.exc n:=rfl
theorem rd_val (d:D):(R.val d).d=d:=rfl
theorem rd_own (d:D):(R.own d).d=d:=rfl
theorem rd_peek (d:D):(R.peek d).d=d:=rfl
theorem rd_exc (n:Str):(R.exc n).d=.scr []:=rfl
theorem v_seq {t u:TVS} {Dv:VEnds} {τ:VSt} (h:t { nx:=u Dv,rt:=Dv.rt,bk:=Dv.bk,ct:=Dv.ct,xc:=Dv.xc,ro:=Dv.ro } τ):vSeq t u Dv τ:=h
end L2
namespace L2
open PySem PySem.Spec PyProof.Rows
def lkD:List (List Str)→List D→List Str→Option D
 | k :: ks,d :: ds,w=>if k=w then some d else lkD ks ds w
 | _,_,_=>none
def lkK:List Str→List D→Str→Option D
 | k :: ks,d :: ds,w=>if k=w then some d else lkK ks ds w
 | _,_,_=>none
def rpD:List (List Str)→List D→List Str→D→List D
 | k :: ks,e :: ds,w,d=>(if k=w then d else e) :: rpD ks ds w d
 | _,_,_,_=>[]
def putD (ks:List (List Str)) (ds:List D) (w:List Str) (d:D):D:=if w∈ks then .dT ks (rpD ks ds w d) else .dT (ks++[w]) (ds++[d])
theorem wK_inj {a b:List Str} (h:wK a=wK b):a=b:=by
 unfold wK at h
 induction a generalizing b with
 | nil=>cases b with
  | nil=>rfl
  | cons _ _=>cases h
 | cons x a ih=>cases b with
  | nil=>cases h
  | cons y b =>
   injection h with h1 h2
   injection h1 with h1
   rw [h1,ih h2]
theorem wK_kV (w:List Str):(wK w).map kV=w.map V.str:=by
 unfold wK
 rw [List.map_map]
 rfl
section
variable {K:PySem.W.Frag} {B H:Hp} {d:D} {r:R} {v:V}
theorem DGet.tR {H:Hp} {a b:Addr} {kvs:List (List Key × V)} {k:List Key} (e:Rd H a (.dT kvs)) (eb:H b=some (.tup (k.map kV))):DGet H a (.ref b) (valV kvs k):=.inr ⟨kvs,k,b,e,rfl,eb,rfl⟩
theorem Pk.dT {ks:List (List Str)} {ds:List D} (s:Same B H) (h:Pk K B H r v) (e:r.d=.dT ks ds):∃ a kvs,v=.ref a∧Rd H a (.dT kvs)∧kvs.map (·.1)=ks.map wK∧Reps K B ds (kvs.map (·.2)):=by
 cases r with
 | val d =>
  cases (show d=_ from e)
  have h':Rep K B (.dT ks ds) v:=h
  unfold Rep at h'
  obtain ⟨a,xs,rfl,q,k,rp⟩:=h'
  exact ⟨a,xs,rfl,q.elim (fun q=>.inl (s _ _ q)) fun ⟨o,q⟩=>.inr ⟨o,s _ _ q⟩,k,rp⟩
 | own d=>cases (show d=_ from e); obtain ⟨a,rfl,_,xs,q,k,rp⟩:=h; exact ⟨a,xs,rfl,.inl q,k,rp⟩
 | peek d=>cases (show d=_ from e); obtain ⟨a,rfl,_,xs,q,k,rp⟩:=h; exact ⟨a,xs,rfl,.inl q,k,rp⟩
 | exc n=>exact h.elim
theorem Pk.dK {ks:List Str} {ds:List D} (s:Same B H) (h:Pk K B H r v) (e:r.d=.dK ks ds):∃ a kvs,v=.ref a∧H a=some (.dK kvs)∧kvs.map (·.1)=ks.map Sum.inr∧Reps K B ds (kvs.map (·.2)):=by
 cases r with
 | val d =>
  cases (show d=_ from e)
  have h':Rep K B (.dK ks ds) v:=h
  unfold Rep at h'
  obtain ⟨a,xs,rfl,q,k,rp⟩:=h'
  exact ⟨a,xs,rfl,s _ _ q,k,rp⟩
 | own d=>cases (show d=_ from e); obtain ⟨a,rfl,_,xs,q,k,rp⟩:=h; exact ⟨a,xs,rfl,q,k,rp⟩
 | peek d=>cases (show d=_ from e); obtain ⟨a,rfl,_,xs,q,k,rp⟩:=h; exact ⟨a,xs,rfl,q,k,rp⟩
 | exc n=>exact h.elim
theorem cst_way {w:List Str} (t:w.map D.str=[.str "folder",.str ""]):w=(["folder",""]:List Str):=by
 cases w with
 | nil=>cases t
 | cons x w =>
  cases w with
  | nil=>cases t
  | cons y w =>
   cases w with
   | nil =>
    simp only [List.map_cons,List.map_nil,List.cons.injEq,D.str.injEq,and_true] at t
    rw [t.1,t.2]
   | cons z w=>cases t
theorem Pk.wayN {w:List Str} (h:Pk K B H r v) (e:r.d=.tup (w.map D.str)) (n:w≠(["folder",""]:List Str)):∃ a,v=.ref a∧B a=some (.tup (w.map V.str)):=by
 obtain ⟨a,xs,rfl,t,rp⟩:=h.tup e
 refine ⟨a,rfl,?_⟩
 rw [← rp.strs]
 rcases t with t | ⟨_,t⟩
 ·exact t
 ·exact absurd (cst_way t) n
theorem Pk.way {w:List Str} (h:Pk K B H r v) (e:r.d=.tup (w.map D.str)) (n:("" : Str)∉w):∃ a,v=.ref a∧B a=some (.tup (w.map V.str)):=h.wayN e fun q=>n (by rw [q]; simp)
theorem lk_rel:∀ {ks:List (List Str)} {ds:List D} {kvs:List (List Key × V)} (w:List Str),kvs.map (·.1)=ks.map wK→Reps K B ds (kvs.map (·.2))→(lkD ks ds w=none∧valV kvs (wK w)=none)∨∃ d v,lkD ks ds w=some d∧valV kvs (wK w)=some v∧Rep K B d v
 | [],ds,kvs,w,h1,h2=>by
  have e:kvs=[]:=by simpa using h1
  subst e
  exact .inl ⟨by unfold lkD; rfl,rfl⟩
 | k :: ks,ds,[],w,h1,h2=>by cases h1
 | k :: ks,[],p :: kvs,w,h1,h2=>by
  unfold Reps at h2
  cases h2
 | k :: ks,d :: ds,p :: kvs,w,h1,h2=>by
  injection h1 with e1 e2
  have e1:p.1=wK k:=e1
  unfold Reps at h2
  obtain ⟨x,r,q,r1,r2⟩:=h2
  injection q with q1 q2
  subst q1 q2
  unfold lkD
  by_cases e:k=w
  ·rw [if_pos e,valV_pos (by rw [e1,e])]
   exact .inr ⟨d,p.2,rfl,rfl,r1⟩
  ·rw [if_neg e,valV_neg (fun z=>e (wK_inj (e1.symm.trans z)))]
   exact lk_rel w e2 r2
theorem lk_relK:∀ {ks:List Str} {ds:List D} {kvs:List (Key × V)} (w:Str),kvs.map (·.1)=ks.map Sum.inr→Reps K B ds (kvs.map (·.2))→(lkK ks ds w=none∧valV kvs (Sum.inr w)=none)∨∃ d v,lkK ks ds w=some d∧valV kvs (Sum.inr w)=some v∧Rep K B d v
 | [],ds,kvs,w,h1,h2=>by
  have e:kvs=[]:=by simpa using h1
  subst e
  exact .inl ⟨by unfold lkK; rfl,rfl⟩
 | k :: ks,ds,[],w,h1,h2=>by cases h1
 | k :: ks,[],p :: kvs,w,h1,h2=>by
  unfold Reps at h2
  cases h2
 | k :: ks,d :: ds,p :: kvs,w,h1,h2=>by
  injection h1 with e1 e2
  have e1:p.1=Sum.inr k:=e1
  unfold Reps at h2
  obtain ⟨x,r,q,r1,r2⟩:=h2
  injection q with q1 q2
  subst q1 q2
  unfold lkK
  by_cases e:k=w
  ·rw [if_pos e,valV_pos (by rw [e1,e])]
   exact .inr ⟨d,p.2,rfl,rfl,r1⟩
  ·rw [if_neg e,valV_neg (fun z=>e (Sum.inr.inj (e1.symm.trans z)))]
   exact lk_relK w e2 r2
theorem put_rel {ks:List (List Str)} {ds:List D} {kvs:List (List Key × V)} (w:List Str) {d:D} {v:V} (h1:kvs.map (·.1)=ks.map wK) (h2:Reps K B ds (kvs.map (·.2))) (hd:Rep K B d v) :
  ∃ ks' ds',putD ks ds w d=.dT ks' ds'∧(putK kvs (wK w) v).map (·.1)=ks'.map wK∧Reps K B ds' ((putK kvs (wK w) v).map (·.2)):=by
 have hany:(kvs.any fun kv=>decide (kv.1=wK w))=decide (w∈ks):=by
  apply bool_iff
  rw [List.any_eq_true,decide_eq_true_iff]
  constructor
  ·rintro ⟨p,hp,e⟩
   have:p.1∈kvs.map (·.1):=List.mem_map_of_mem hp
   rw [h1,of_decide_eq_true e] at this
   obtain ⟨k,hk,ek⟩:=List.mem_map.mp this
   rw [← wK_inj ek]
   exact hk
  ·intro hw
   have:wK w∈kvs.map (·.1):=by rw [h1]; exact List.mem_map_of_mem hw
   obtain ⟨p,hp,e⟩:=List.mem_map.mp this
   exact ⟨p,hp,decide_eq_true e⟩
 unfold putD putK
 rw [hany]
 by_cases hw:w∈ks
 ·rw [if_pos hw,if_pos (decide_eq_true hw)]
  refine ⟨ks,_,rfl,?_,?_⟩
  ·rw [← h1,List.map_map]
   refine List.map_congr_left fun p _=>?_
   show (if p.1=wK w then (p.1,v) else p).1=p.1
   split <;> rfl
  ·clear hany hw
   induction kvs generalizing ks ds with
   | nil =>
    have e:ks=[]:=by simpa using h1.symm
    subst e
    unfold rpD
    exact .nil
   | cons p kvs ih =>
    cases ks with
    | nil=>cases h1
    | cons k ks =>
     cases ds with
     | nil=>unfold Reps at h2; cases h2
     | cons e ds =>
      injection h1 with e1 e2
      have e1:p.1=wK k:=e1
      unfold Reps at h2
      obtain ⟨x,r,q,r1,r2⟩:=h2
      injection q with q1 q2
      subst q1 q2
      unfold rpD
      refine .cons ?_ (ih e2 r2)
      by_cases ek:k=w
      ·rw [if_pos ek]
       show Rep K B d (if p.1=wK w then (p.1,v) else p).2
       rw [if_pos (by rw [e1,ek])]
       exact hd
      ·rw [if_neg ek]
       show Rep K B e (if p.1=wK w then (p.1,v) else p).2
       rw [if_neg (fun z=>ek (wK_inj (e1.symm.trans z)))]
       exact r1
 ·rw [if_neg hw,if_neg (by simpa using hw)]
  refine ⟨_,_,rfl,?_,?_⟩
  ·rw [List.map_append,List.map_append,h1]
   rfl
  ·rw [List.map_append]
   exact h2.append (.one hd)
end
section
variable {X:Cx} {EX:St→XK} {e a o i:Expr} {te ta to ti:TV} {pos pos' p p2 apos cpos:Pos} {x:Str} {f:Expr} {tf:TV}
def vDGet (to ti:TV):TV:=fun τ Q=>to τ fun rx=>exR rx (fun _=>False) <| ti τ fun ry=>match rx.d,ry.d with
 | .dT ks ds,.tup es=>∃ w d,es=w.map D.str∧("" : Str)∉w∧lkD ks ds w=some d∧Q (.val d)
 | .dK ks ds,.str z=>∃ d,lkK ks ds z=some d∧Q (.val d)
 | _,_=>False
theorem ve_dget (hu:X.A.units+64 < cLine) (ho:VE X EX o to) (hi:VE X EX i ti) (hs:NoSl i:=by exact fun _ _=>rfl):VE X EX (.Subscript o i pos) (vDGet to ti) :=
 let ⟨_,a1,a2⟩:=ho.u; let ⟨_,b1,b2⟩:=hi.u; ⟨_,qe_dget (by lia) a1 b1 hs,fun H0 B H τ σ Q Qd s S h xc k=>a2 H0 B H τ σ _ _ s S h (xno fun _ q=>q) fun rx x B1 H1 p1 q1 h1=>b2 H0 B1 H1 τ σ _ _ p1.s (S.step p1) (q1.ok h1) (xno fun _ q=>by revert q; cases rx.d <;> exact fun z=>z) fun ry y B2 H2 p2 q2 h2=>by
  have px:=q1.pk.step p2
  split at h2
  ·rename_i ks ds es e1 e2
   obtain ⟨w,d,rfl,hn,hl,hq⟩:=h2
   obtain ⟨ad,kvs,rfl,hd,hk,hr⟩:=px.dT p2.s e1
   obtain ⟨b,rfl,hb⟩:=q2.pk.way e2 hn
   rcases lk_rel w hk hr with ⟨z,_⟩ | ⟨d',v,z,hv,rp⟩
   ·rw [z] at hl; cases hl
   ·rw [z] at hl; cases hl
    exact ⟨ad,v,rfl,hv ▸ DGet.tR hd (by rw [wK_kV]; exact p2.s _ _ hb),k (.val d) _ B2 H2 (p1.trans p2) rp hq⟩
  ·rename_i ks ds z e1 e2
   obtain ⟨d,hl,hq⟩:=h2
   obtain ⟨ad,kvs,rfl,hd,hk,hr⟩:=px.dK p2.s e1
   cases q2.pk.scal (z:=.str z) (by rw [e2]; rfl)
   rcases lk_relK z hk hr with ⟨w,_⟩ | ⟨d',v,w,hv,rp⟩
   ·rw [w] at hl; cases hl
   ·rw [w] at hl; cases hl
    exact ⟨ad,v,rfl,hv ▸ DGet.k (k:=Sum.inr z) hd,k (.val d) _ B2 H2 (p1.trans p2) rp hq⟩
  ·exact h2.elim⟩
def vDIn (g:Bool→Bool) (ti to:TV):TV:=fun τ Q=>ti τ fun ry=>exR ry (fun _=>False) <| to τ fun rx=>match rx.d,ry.d with
 | .dT ks ds,.tup es=>∃ w,es=w.map D.str∧("" : Str)∉w∧Q (.val (.bl (g (lkD ks ds w).isSome)))
 | .dK ks ds,.str z=>Q (.val (.bl (g (lkK ks ds z).isSome)))
 | _,_=>False
theorem lk_isSome {K:PySem.W.Frag} {B:Hp} {ks:List (List Str)} {ds:List D} {kvs:List (List Key × V)} (w:List Str) (h1:kvs.map (·.1)=ks.map wK) (h2:Reps K B ds (kvs.map (·.2))):(valV kvs (wK w)).isSome=(lkD ks ds w).isSome:=by
 rcases lk_rel w h1 h2 with ⟨z,y⟩ | ⟨d',v,z,y,_⟩ <;> rw [z,y] <;> rfl
theorem lk_isSomeK {K:PySem.W.Frag} {B:Hp} {ks:List Str} {ds:List D} {kvs:List (Key × V)} (w:Str) (h1:kvs.map (·.1)=ks.map Sum.inr) (h2:Reps K B ds (kvs.map (·.2))):(valV kvs (Sum.inr w)).isSome=(lkK ks ds w).isSome:=by
 rcases lk_relK w h1 h2 with ⟨z,y⟩ | ⟨d',v,z,y,_⟩ <;> rw [z,y] <;> rfl
theorem rf_din {K:PySem.W.Frag} {eo ei:TE} (g:Bool→Bool) (ho:RfE K EX eo to) (hi:RfE K EX ei ti):RfE K EX (fun σ H Q=>ei σ H fun y H1=>eo σ H1 fun x H2=>∃ a o,x=.ref a∧DGet H2 a y o∧Q (.bl (g o.isSome)) H2) (vDIn g ti to):=fun H0 B H τ σ Q Qd s S h xc k =>
 hi H0 B H τ σ _ _ s S h (xno fun _ q=>q) fun ry y B1 H1 p1 q1 h1=>ho H0 B1 H1 τ σ _ _ p1.s (S.step p1) (q1.ok h1) (xno fun _ q=>q) fun rx x B2 H2 p2 q2 h2=>by
  have py:=q1.pk.step p2
  split at h2
  ·rename_i ks ds es e1 e2
   obtain ⟨w,rfl,hn,hq⟩:=h2
   obtain ⟨ad,kvs,rfl,hd,hk,hr⟩:=q2.pk.dT p2.s e1
   obtain ⟨b,rfl,hb⟩:=py.way e2 hn
   refine ⟨ad,_,rfl,DGet.tR (k:=wK w) hd (by rw [wK_kV]; exact p2.s _ _ hb),?_⟩
   rw [lk_isSome w hk hr]
   exact k _ _ B2 H2 (p1.trans p2) (repV rfl) hq
  ·rename_i ks ds z e1 e2
   obtain ⟨ad,kvs,rfl,hd,hk,hr⟩:=q2.pk.dK p2.s e1
   cases py.scal (z:=.str z) (by rw [e2]; rfl)
   refine ⟨ad,_,rfl,DGet.k (k:=Sum.inr z) hd,?_⟩
   rw [lk_isSomeK z hk hr]
   exact k _ _ B2 H2 (p1.trans p2) (repV rfl) h2
  ·exact h2.elim
theorem vt_din (hu:X.A.units+64 < cLine) (hi:VE X EX i ti) (ho:VE X EX o to) (hm:behindInMarks .In o=false:=by with_unfolding_all rfl):VT X EX (.Compare i [.In] [o] pos) (vBl (vDIn id ti to)) :=
 let ⟨_,a1,a2⟩:=ho.u; let ⟨_,b1,b2⟩:=hi.u; ⟨_,qt_din (by lia) b1 a1 hm,rf_bl (rf_din id a2 b2)⟩
theorem vt_dnotin (hu:X.A.units+64 < cLine) (hi:VE X EX i ti) (ho:VE X EX o to) (hm:behindInMarks .NotIn o=false:=by with_unfolding_all rfl):VT X EX (.Compare i [.NotIn] [o] pos) (vBl (vDIn (!·) ti to)) :=
 let ⟨_,a1,a2⟩:=ho.u; let ⟨_,b1,b2⟩:=hi.u; ⟨_,qt_dnotin (by lia) b1 a1 hm,rf_bl (rf_din (!·) a2 b2)⟩
def vDGet1 (to ti:TV):TV:=fun τ Q=>to τ fun rx=>match rx.d with
 | .dT ks ds=>ti τ fun ry=>∃ w,ry.d=.tup (w.map D.str)∧("" : Str)∉w∧Q (.val ((lkD ks ds w).getD .non))
 | .dK ks ds=>ti τ fun ry=>∃ z,ry.d=.str z∧Q (.val ((lkK ks ds z).getD .non))
 | _=>False
theorem ve_dget1 (hu:X.A.units+64 < cLine) (ho:VE X EX o to) (hi:VE X EX e ti) (m:M1 X o "get" apos e cpos:=by exact ⟨rfl,rfl,rfl,rfl⟩):VE X EX (.Call (.Attribute o "get" apos) [e] [] cpos) (vDGet1 to ti) :=
 let ⟨_,a1,a2⟩:=ho.u; let ⟨_,b1,b2⟩:=hi.u; ⟨_,qe_dget1 (by lia) a1 b1 m,fun H0 B H τ σ Q Qd s S h xc k=>a2 H0 B H τ σ _ _ s S h (xno fun _ q=>q) fun rx x B1 H1 p1 q1 h1=>by
  split at h1
  ·rename_i ks ds e1
   obtain ⟨ad,kvs,rfl,hd,_,_⟩:=q1.pk.dT p1.s e1
   refine ⟨ad,rfl,.inr ⟨kvs,hd⟩,b2 H0 B1 H1 τ σ _ _ p1.s (S.step p1) h1 (xno fun _ ⟨_,q,_⟩=>by cases q) fun ry y B2 H2 p2 q2 h2=>?_⟩
   obtain ⟨w,e2,hn,hq⟩:=h2
   obtain ⟨ad',kvs',ea,hd',hk,hr⟩:=(q1.pk.step p2).dT p2.s e1
   cases ea
   obtain ⟨b,rfl,hb⟩:=q2.pk.way e2 hn
   refine ⟨_,DGet.tR (k:=wK w) hd' (by rw [wK_kV]; exact p2.s _ _ hb),?_⟩
   rcases lk_rel w hk hr with ⟨z,y⟩ | ⟨d',v,z,y,rp⟩
   ·rw [y]; rw [z] at hq
    exact k (.val .non) _ B2 H2 (p1.trans p2) (repV rfl) hq
   ·rw [y]; rw [z] at hq
    exact k (.val d') _ B2 H2 (p1.trans p2) rp hq
  ·rename_i ks ds e1
   obtain ⟨ad,kvs,rfl,hd,_,_⟩:=q1.pk.dK p1.s e1
   refine ⟨ad,rfl,.inl ⟨kvs,.inl hd⟩,b2 H0 B1 H1 τ σ _ _ p1.s (S.step p1) h1 (xno fun _ ⟨_,q,_⟩=>by cases q) fun ry y B2 H2 p2 q2 h2=>?_⟩
   obtain ⟨w,e2,hq⟩:=h2
   obtain ⟨ad',kvs',ea,hd',hk,hr⟩:=(q1.pk.step p2).dK p2.s e1
   cases ea
   cases q2.pk.scal (z:=.str w) (by rw [e2]; rfl)
   refine ⟨_,DGet.k (k:=Sum.inr w) hd',?_⟩
   rcases lk_relK w hk hr with ⟨z,y⟩ | ⟨d',v,z,y,rp⟩
   ·rw [y]; rw [z] at hq
    exact k (.val .non) _ B2 H2 (p1.trans p2) (repV rfl) hq
   ·rw [y]; rw [z] at hq
    exact k (.val d') _ B2 H2 (p1.trans p2) rp hq
  ·exact h1.elim⟩
def vDNewT:TV:=fun _ Q=>Q (.own (.dT [] []))
theorem ve_dnewT:VE X EX (.Dict [] [] pos) vDNewT:=⟨_,qe_dnewT,fun _ B H _ _ _ _ s _ h _ k p hp=>k (.own (.dT [] [])) _ B _ (.grow s (same_upd hp _)) ⟨p,rfl,hp,s.free hp,[],upd_same,rfl,.nil⟩ h⟩
def ownT (τ:VSt) (i:Nat) (Q:List (List Str)→List D→Prop):Prop:=match τ[i]? with
 | some (some (.own (.dT ks ds)))=>Q ks ds
 | _=>False
theorem ownT_of {τ:VSt} {i:Nat} {Q:List (List Str)→List D→Prop} (h:ownT τ i Q):∃ ks ds,τ[i]?=some (some (.own (.dT ks ds)))∧Q ks ds:=by
 unfold ownT at h
 split at h
 ·exact ⟨_,_,by assumption,h⟩
 ·exact h.elim
def vDPut (i:Nat) (tk te:TV):TVS:=fun Dv τ=>ownT τ i fun ks ds=>te τ fun r=>exS τ Dv r <| pubR r fun d=>tk τ fun rk=>match rk.d with
 | .tup es=>∃ w,es=w.map D.str∧("" : Str)∉w∧ks.length < sizeLine∧Dv.nx (τ.set i (some (.own (putD ks ds w d))))
 | _=>False
theorem vs_dput {ek:Expr} {tk:TV} (i:Nat) (hu:X.A.units+64 < cLine) (hk:VE X EX ek tk) (h:VE X EX e te) (hN:X.N[i]?=some x:=by rfl) (hv:Vis X.env.scope x:=by first | exact Or.inl rfl | exact Or.inr (Or.inl rfl) | exact Or.inr (Or.inr rfl)) (hd:(x == ("__debug__" : Str))=false:=by decide)
  (hcd:(x == ("__classdict__" : Str))=false:=by decide) (hs:swapsWith e (some (.Subscript (.Name x p) ek p2)) pos.line X.env=pure false:=by rfl):VS X EX (.Assign [.Subscript (.Name x p) ek p2] e pos) (vDPut i tk te) :=
 let ⟨_,a1,a2⟩:=h.u; let ⟨_,b1,b2⟩:=hk.u; ⟨_,qs_dput (by lia) (qv i hN hv hd hcd) b1 a1 hs,fun B0 H0 B H τ σ Dv Dh p S h E=>by
  obtain ⟨ks,ds,e1,h⟩:=ownT_of h
  obtain ⟨ad,e2,_,_,_⟩:=S.own i _ e1
  refine a2 H0 B H τ σ _ _ p.s S h (E.raised p S) fun r v B' H' q hr hq=>?_
  obtain ⟨d,B2,q2,_,rp,hn⟩:=pub q hr (hr.okS hq)
  refine ⟨.ref ad,e2,b2 H0 B2 H' τ σ _ _ q2.s (S.step q2) hn (xno fun _ q=>q) fun rk vk B3 H3 q3 hk hh=>?_⟩
  split at hh
  ·rename_i es ek
   obtain ⟨w,rfl,hne,hz,hn⟩:=hh
   obtain ⟨b,rfl,hb⟩:=hk.pk.way ek hne
   have qq:=q2.trans q3
   have S3:=S.step qq
   obtain ⟨a',f1,h0,hbb,kvs,f4,f5,f6⟩:=S3.own i _ e1
   rw [e2] at f1
   cases f1
   have hl:kvs.length < sizeLine:=by
    have:kvs.length=ks.length:=by simpa using congrArg List.length f5
    lia
   refine ⟨ad,_,rfl,DPut.t (k:=wK w) f4 (by rw [wK_kV]; exact q3.s _ _ hb) hl,?_⟩
   obtain ⟨ks',ds',ep,g1,g2⟩:=put_rel w f5 f6 (rp.same q3.b)
   rw [ep] at hn
   exact E.nx B3 _ _ σ ((p.trans qq).upd h0 hbb) (S3.upd (d:=.dT ks' ds') e1 e2 ⟨_,upd_same,g1,g2⟩) hn
  ·exact hh.elim⟩
end
def dictD (kds:List (List Str × D)):D:=.dT (kds.map (·.1)) (kds.map (·.2))
def lkP (kds:List (List Str × D)) (w:List Str):Option D:=(kds.find? fun p=>decide (p.1=w)).map (·.2)
def insP (kds:List (List Str × D)) (w:List Str) (d:D):List (List Str × D):=if w∈kds.map (·.1) then kds.map (fun p=>if p.1=w then (p.1,d) else p) else kds++[(w,d)]
theorem lkD_pairs (kds:List (List Str × D)) (w:List Str):lkD (kds.map (·.1)) (kds.map (·.2)) w=lkP kds w:=by
 induction kds with
 | nil=>unfold lkP; simp [lkD]
 | cons p kds ih =>
  rw [List.map_cons,List.map_cons]
  unfold lkD
  unfold lkP at ih ⊢
  by_cases e:p.1=w
  ·rw [if_pos e,List.find?_cons,decide_eq_true e]
   rfl
  ·rw [if_neg e,ih,List.find?_cons,decide_eq_false e]
theorem putD_pairs (kds:List (List Str × D)) (w:List Str) (d:D):putD (kds.map (·.1)) (kds.map (·.2)) w d=dictD (insP kds w d):=by
 unfold putD insP dictD
 by_cases h:w∈kds.map (·.1)
 ·rw [if_pos h,if_pos h]
  congr 1
  ·rw [List.map_map]
   refine (List.map_congr_left fun p _=>?_).symm
   show (if p.1=w then (p.1,d) else p).1=p.1
   split <;> rfl
  ·clear h
   induction kds with
   | nil=>rfl
   | cons p kds ih =>
    rw [List.map_cons,List.map_cons,List.map_cons,List.map_cons]
    unfold rpD
    rw [ih]
    congr 1
    split <;> rfl
 ·rw [if_neg h,if_neg h,List.map_append,List.map_append]
  rfl
end L2
namespace PySem
open PySem Calls PyProof.Rows PyProof.V PySem.Spec
def RawD (h:Heap) (d:Addr) (es:Array DictEntry) (ep:Nat):Prop:=∃ o,h.get? d=some o∧o.ExactDict∧o.data=.dict es ep
section
variable {prog:Program} {w:World} {A:Around} {E:Value→Shared→Prop} {s:Shared} {d it:Addr} {es:Array DictEntry} {ep i:Nat}
theorem RawD.typeIs (x:RawD s.heap d es ep):s.TypeIs (.ref d) "dict" := let ⟨o,h1,h2,_⟩:=x; ⟨o,h1,h2.1⟩
theorem RawD.keep {h h':Heap} (x:RawD h d es ep) (k:∀ o,h.get? d=some o→h'.get? d=some o):RawD h' d es ep:=let ⟨o,h1,r⟩:=x; ⟨o,k o h1,r⟩
theorem raw_iter {Q:Value→Shared→Prop} (no:(d == sysModules)=false) (x:RawD s.heap d es ep)
  (fin:Q (.ref s.heap.objs.size) { s with heap:=s.heap.push { cls:=.type "dict_keyiterator",data:=.fields #[.ref d,.int 0 0,.int es.size 0,.int ep 0] } }):wpAny (model prog w) A (pyIter (.ref d)) Q E s:=by
 have T:=x.typeIs
 obtain ⟨o,h1,_,h2⟩:=x
 refine wpAny_pyIter_slot T F.slot_dict_iter (wpAny_call_entry F.slot_dict_iter T F.entry_dict_iter ?_ (F.args_dict_iter_1 _))
 unfold Builtin.«dict.__iter__» Builtin.Dict.dictSlotNone
 refine wpAny_bind (wpAny_bind (wpAny_notOrdered_dict T (show wpAny _ _ (pure (Value.ref d)) _ _ s from wpAny_pure ?_)))
 show wpAny _ _ (Builtin.Dict.showsAll d >>= fun _=>_) _ _ s
 unfold Builtin.Dict.showsAll
 rw [no,if_neg Bool.false_ne_true]
 refine wpAny_bind (wpAny_pure (wpAny_bind (wpAny_dictEntries h1 h2 (wpAny_bind (wpAny_dictEpoch h1 h2 (wpAny_bind (wpAny_newObj_type (wpAny_pure ⟨_,rfl,"dict_keyiterator",_,⟨_,Heap.get?_push_size _ rfl,rfl⟩,F.slot_dict_keyiterator_next.lookup,?_⟩))))))))
 simpa [rawInt] using fin
theorem first_name {Q:String→Shared→Prop} (h:s.TypeIs (.ref it) "dict_keyiterator") (q:Q "dict_keyiterator" s):wpAny (model prog w) A (typeNameOfWhole (.ref it)) Q E s:=wpAny_typeNameOfWhole_keyiter h q
theorem raw_item {Q:Option Value→Shared→Prop} {ky:Value} (K:s.heap.IsKeyIter it d i es.size ep) (x:RawD s.heap d es ep) (hk:es[i]?.map (·.key)=some ky)
  (fin:∀ h',h'.IsKeyIter it d (i+1) es.size ep→Heap.SameBut it s.heap h'→Q (some ky) { s with heap:=h' }):wpAny (model prog w) A (pyNext (.ref it)) Q E s:=by
 have T:=K.typeIs
 obtain ⟨oi,g1,g2,g3⟩:=K
 obtain ⟨o,h1,_,h2⟩:=x
 have lt:i < es.size:=by
  apply Classical.byContradiction
  intro z
  rw [Array.getElem?_eq_none (by lia)] at hk
  cases hk
 have ek:es[i].key=ky:=by
  rw [Array.getElem?_eq_getElem lt] at hk
  exact Option.some.inj hk
 have no:Builtin.Dict_items.ownsTuple "dict_keyiterator" = false:=by decide
 unfold pyNext
 refine wpAny_bind (wpAny_attempt (wpAny_callSpecial?_slot (name:=Str.ofString "__next__") T F.slot_dict_keyiterator_next (wpAny_call_entry F.slot_dict_keyiterator_next T F.entry_dict_keyiterator_next (wpAny_bind (wpAny_pure (wpAny_bind (wpAny_bind ?_)))) (F.args_dict_keyiterator_next_1 _))))
 refine wpAny_bind (first_name T (wpAny_pure (wpAny_bind (wpAny_fieldsOf g1 g3 ?_))))
 simp only [no,Bool.false_eq_true,if_false]
 show wpAny _ _ (ite ((Value.ref d == Value.none)=true) _ _) _ _ s
 rw [if_neg (show ¬ (Value.ref d == Value.none)=true from fun z=>by cases z)]
 refine wpAny_bind (wpAny_pure (wpAny_bind (wpAny_dictEntries h1 h2 ?_)))
 rw [if_neg (fun z=>by simp at z)]
 refine wpAny_bind (wpAny_pure (wpAny_bind (wpAny_dictEpoch h1 h2 ?_)))
 rw [if_neg (fun z=>by simp at z)]
 refine wpAny_pure ?_
 simp only [show ¬ (i:Int) < 0 from by lia,if_false,Int.toNat_natCast,Array.getElem?_eq_getElem lt]
 refine wpAny_bind (wpAny_bind (first_name T (wpAny_pure (wpAny_bind (wpAny_isOneOf_keyiter T ?_)))))
 show wpAny _ _ (setField (.ref it) 1 (rawInt ((i:Int)+1)) >>= fun _=>_) _ _ s
 have K2:(s.heap.update it (Obj.mapFields (·.setIfInBounds 1 (rawInt ((i:Int)+1))))).IsKeyIter it d (i+1) es.size ep:=⟨_,Heap.get?_update_self _ g1 (Obj.isFreed_of_fields (Obj.data_mapFields g3 _)),(Obj.cls_mapFields ..).trans g2,by
  rw [Obj.data_mapFields g3]
  simp [rawInt]⟩
 refine wpAny_bind (wpAny_setField g1 g3 (by simp) (wpAny_bind (wpAny_holding (wpAny_bind (wpAny_isOneOf_keyiter (s:={ s with heap:=s.heap.update it (Obj.mapFields (·.setIfInBounds 1 (rawInt ((i:Int)+1)))) }) K2.typeIs ?_)))))
 show wpAny _ _ (pure (es[i].key)) _ _ _
 rw [ek]
 exact wpAny_pure (wpAny_pure ⟨_,rfl,wpAny_pure (fin _ K2 (Heap.SameBut.update ..))⟩)
theorem raw_end {Q:Option Value→Shared→Prop} (hh:A.handled=none) (K:s.heap.IsKeyIter it d i es.size ep) (x:RawD s.heap d es ep) (ge:es.size≤i) (fin:∀ h',Heap.ExtBut it s.heap h'→Q none { s with heap:=h' }) :
  wpAny (model prog w) A (pyNext (.ref it)) Q E s:=by
 have T:=K.typeIs
 obtain ⟨oi,g1,g2,g3⟩:=K
 obtain ⟨o,h1,_,h2⟩:=x
 have no:Builtin.Dict_items.ownsTuple "dict_keyiterator" = false:=by decide
 unfold pyNext
 refine wpAny_bind (wpAny_attempt (wpAny_callSpecial?_slot (name:=Str.ofString "__next__") T F.slot_dict_keyiterator_next (wpAny_call_entry F.slot_dict_keyiterator_next T F.entry_dict_keyiterator_next (wpAny_bind (wpAny_pure (wpAny_bind (wpAny_bind ?_)))) (F.args_dict_keyiterator_next_1 _))))
 refine wpAny_bind (first_name T (wpAny_pure (wpAny_bind (wpAny_fieldsOf g1 g3 ?_))))
 simp only [no,Bool.false_eq_true,if_false]
 show wpAny _ _ (ite ((Value.ref d == Value.none)=true) _ _) _ _ s
 rw [if_neg (show ¬ (Value.ref d == Value.none)=true from fun z=>by cases z)]
 refine wpAny_bind (wpAny_pure (wpAny_bind (wpAny_dictEntries h1 h2 ?_)))
 rw [if_neg (fun z=>by simp at z)]
 refine wpAny_bind (wpAny_pure (wpAny_bind (wpAny_dictEpoch h1 h2 ?_)))
 rw [if_neg (fun z=>by simp at z)]
 refine wpAny_pure ?_
 simp only [show ¬ (i:Int) < 0 from by lia,if_false,Int.toNat_natCast,Array.getElem?_eq_none ge]
 refine wpAny_bind (wpAny_bind (first_name T (wpAny_pure ?_)))
 show wpAny _ _ (setField (.ref it) 0 .none >>= fun _=>_) _ _ s
 refine wpAny_bind (wpAny_setField g1 g3 (by simp) ?_)
 show wpAny _ _ (newExc (.type "StopIteration") [] >>= fun _=>_) _ _ _
 refine wpAny_bind ?_
 simp only [newExc,newTuple]
 refine wpAny_bind (wpAny_newObj_type (wpAny_bind (m:=firstArgMember _ _) (wpAny_of_eq (a:=Value.none) (by first | rfl | (simp only [firstArgMember]; rfl)) (wpAny_newObj_type ?_ (by size_fits)))) (by size_fits))
 simp only [raiseNew]
 refine (wpAny_bind (wpAny_handled ?_))
 rw [(show A.in1.handled=none from hh)]
 refine (wpAny_bind (wpAny_pure (wpAny_throw ?_)))
 exact wpAny_bind (wpAny_isInstance (T:="StopIteration") (b:=true) ⟨_,Heap.get?_push_size _ rfl,rfl⟩ isSubtype_stop (wpAny_pure (fin _ (((Heap.SameBut.update ..).extBut.push _).push _))))
theorem walks_raw (hh:A.handled=none) (I d:Addr) (ne:d≠I) (es:Array DictEntry) (ep:Nat) :
  Walks prog w A I [I,d] [I] es.size (fun i v=>es[i]?.map (·.key)=some v) (fun i h=>h.IsKeyIter I d i es.size ep∧RawD h d es ep) where
 sub:=fun b hb=>by
  cases List.mem_singleton.mp hb
  exact List.mem_cons_self ..
 frame:=fun _ _ _ st k=>⟨st.1.at fun o e=>k I (List.mem_cons_self ..) o e,st.2.keep fun o e=>k d (by simp) o e⟩
 item:=fun i s Q E lt st fin=>by
  have e:es[i]?.map (·.key)=some es[i].key:=by rw [Array.getElem?_eq_getElem lt]; rfl
  exact raw_item st.1 st.2 e fun h' K' sb=>fin _ h' s.toks e ⟨K',st.2.keep fun o z=>sb.extBut d o ne z⟩ fun b o nb z=>sb.extBut b o (fun y=>nb (by simp [y])) z
 done:=fun s Q E st fin=>raw_end hh st.1 st.2 (Nat.le_refl _) fun h' x=>fin h' s.toks fun b o nb z=>x b o (fun y=>nb (by simp [y])) z
 self:=fun _ _ _ _ st q=>wpAny_pyIter_keyiter st.1 q
theorem src_raw (no:(d == sysModules)=false):PySem.W.KdlSrc prog w "dict" d d es.size (fun i v=>es[i]?.map (·.key)=some v) (fun h=>RawD h d es ep) where
 type:=fun _ x=>x.typeIs
 there:=fun _ x=>let ⟨_,e,_⟩:=x; ⟨Heap.lt_size e,Heap.lt_size e⟩
 keep:=fun _ _ x k=>x.keep fun o e=>k d (.inl rfl) o e
 notList:=by decide
 notTuple:=by decide
 hint:=fun _ _ _ _ x q=>PySem.W.kdl_hint_dict x.typeIs q
 iter:=fun _ _ hh x=>⟨_,_,(fun _ _ q=>raw_iter no x q),walks_raw hh _ d (let ⟨_,e,_⟩:=x; Nat.ne_of_lt (Heap.lt_size e)) es ep,⟨⟨_,Heap.get?_push_size _ rfl,rfl,rfl⟩,x.keep fun _ e=>Heap.get?_push_of_some _ e⟩⟩
end
end PySem
namespace L2
open PySem PySem.Spec PyProof.Rows
section
variable {X:Cx}
theorem paired_at {α β:Type} {F:α→β→Prop}:∀ {l:List α} {m:List β} {i:Nat} {b:β},Paired F l m→m[i]?=some b→∃ a,l[i]?=some a∧F a b
 | _,_,_,_,.nil,e=>by simp at e
 | _,_,0,_,.cons h _,e=>by
  have e':=Option.some.inj e
  subst e'
  exact ⟨_,rfl,h⟩
 | _,_,i+1,b,.cons _ t,e=>by
  obtain ⟨a,h1,h2⟩:=paired_at (i:=i) (b:=b) t (by simpa using e)
  exact ⟨a,by simpa using h1,h2⟩
theorem dt_raw {P:Program} {w:World} {H:Hp} {h:Heap} {a:Addr} {kvs:List (List Key × V)} (ok:HOk P w H h) (e:Rd H a (.dT kvs)):kvs.length≤sizeLine∧(a == sysModules)=false∧∃ es ep,RawD h a es ep∧es.size=kvs.length ∧
  ∀ (i:Nat) (u:Value),es[i]?.map (·.key)=some u→∃ (b:Addr) (k:List Key),u=.ref b∧kvs[i]?.map (·.1)=some k∧H b=some (.tup (k.map kV)):=by
 obtain ⟨z,y,xs,r,o,es,ep,h1,h2,h3,h4,_⟩:=dt_rd ok e
 have hl:es.size=xs.length:=by rw [← Array.length_toList,h4,List.length_map]
 refine ⟨z,y,es,ep,⟨o,h1,h2,h3⟩,by rw [hl,← Paired.length r],fun i u q=>?_⟩
 have ei:es[i]?=(xs[i]?).map (entryOfKey (tupleKind (mixKind P w))):=by rw [← Array.getElem?_toList,h4,List.getElem?_map]
 rw [ei] at q
 cases hx:xs[i]? with
 | none=>rw [hx] at q; cases q
 | some p =>
  rw [hx] at q
  have eu:Value.ref p.2.1=u:=Option.some.inj q
  obtain ⟨kv,hkv,e1,e2,_⟩:=paired_at r hx
  exact ⟨p.2.1,kv.1,eu.symm,by rw [hkv]; rfl,by rw [e1] at e2 ⊢; exact e2⟩
theorem call_list_dT (hh:X.A.handled=none):CallR X (.type "list") (fun xs H Q=>∃ a kvs,xs=[.ref a]∧Rd H a (.dT kvs)∧∀ (l:Addr) (bs:List Addr),H l=none→bs.length=kvs.length →
  (∀ (i:Nat) (b:Addr),bs[i]?=some b→∃ k,kvs[i]?.map (·.1)=some k∧H b=some (.tup (k.map kV)))→Q (.ref l) (upd H l (.lst (bs.map V.ref)))):=by
 intro pins s σ H xs us Q I r h
 obtain ⟨a,kvs,rfl,e,q⟩:=h
 obtain ⟨u,rfl,ru⟩:=vals1 r
 cases ru
 obtain ⟨z,no,es,ep,raw,hs,hk⟩:=dt_raw I.hok e
 refine PySem.W.kdl_call (src_raw (ep:=ep) (es:=es) no) hh raw (by rw [hs]; exact z) fun h' tk acc c keep new its=>?_
 have refs:∀ vs:List Value,(∀ v∈vs,∃ b,v=Value.ref b)→∃ bs:List Addr,vs=bs.map Value.ref:=fun vs=>by
  induction vs with
  | nil=>exact fun _=>⟨[],rfl⟩
  | cons v vs ih =>
   intro hv
   obtain ⟨b,rfl⟩:=hv v (List.mem_cons_self ..)
   obtain ⟨bs,rfl⟩:=ih fun y hy=>hv y (List.mem_cons_of_mem _ hy)
   exact ⟨b :: bs,rfl⟩
 obtain ⟨hsz,hP⟩:=its
 obtain ⟨bs,hbs⟩:=refs acc.toList fun v hv=>by
  obtain ⟨j,hj⟩:=List.mem_iff_getElem?.mp hv
  obtain ⟨b,k,eb,_⟩:=hk j v (hP j v (by simpa using hj))
  exact ⟨b,eb⟩
 have hacc:acc=(bs.map Value.ref).toArray:=by rw [← hbs]
 have hlen:bs.length=kvs.length:=by
  have:acc.size=bs.length:=by rw [hacc]; simp
  lia
 have rel:∀ bs:List Addr,Vals (bs.map V.ref) (bs.map Value.ref):=fun bs=>by
  induction bs with
  | nil=>exact .nil
  | cons b bs ih=>exact .cons rfl ih
 refine ⟨.ref s.heap.objs.size,upd H s.heap.objs.size (.lst (bs.map V.ref)),I.laid (t':=tk) keep (Nat.le_refl _) ⟨by rw [List.length_map]; lia,bs.map Value.ref,c,rel bs,by rw [← hacc]; exact new⟩,rfl,q _ bs (I.hok.fresh (Nat.le_refl _)) hlen fun i b hb=>?_⟩
 obtain ⟨b',k,eb,h1,h2⟩:=hk i (.ref b) (hP i (.ref b) (by rw [hacc]; simp [hb]))
 cases eb
 exact ⟨k,h1,h2⟩
end
section
variable {X:Cx} {K:PySem.W.Frag} {B H:Hp}
theorem Stp.tups (s:Same B H) (bs:List Addr) (h:∀ b∈bs,∃ xs,H b=some (.tup xs)):Stp B H (fun a=>if a∈bs then H a else B a) H:=by
 refine ⟨fun a o e=>?_,Same.refl _,fun a o e=>?_,fun a z=>?_⟩
 ·show (if a∈bs then H a else B a)=some o
  split
  ·exact s _ _ e
  ·exact e
 ·have e':(if a∈bs then H a else B a)=some o:=e
  split at e'
  ·exact e'
  ·exact s _ _ e'
 ·by_cases q:a∈bs
  ·exact .inr (.inr (h a q))
  ·have z':(if a∈bs then H a else B a)≠none:=z
   rw [if_neg q] at z'
   exact .inl z'
theorem reps_ways:∀ {ks:List (List Str)} {bs:List Addr},bs.length=ks.length→(∀ (i:Nat) (b:Addr) (k:List Str),bs[i]?=some b→ks[i]?=some k→B b=some (.tup (k.map V.str)))→Reps K B (ks.map fun w=>.tup (w.map D.str)) (bs.map V.ref)
 | [],[],_,_=>.nil
 | [],_ :: _,h,_=>by simp at h
 | _ :: _,[],h,_=>by simp at h
 | k :: ks,b :: bs,h,q=>by
  refine .cons ?_ (reps_ways (by simpa using h) fun i b' k' h1 h2=>q (i+1) b' k' (by simpa using h1) (by simpa using h2))
  unfold Rep
  exact ⟨b,_,rfl,.inl (q 0 b k rfl rfl),by
   have:∀ ss:List Str,Reps K B (ss.map D.str) (ss.map V.str):=fun ss=>by
    induction ss with
    | nil=>exact .nil
    | cons s ss ih=>exact .cons (rep_dV (d:=.str s) rfl) ih
   exact this k⟩
def vListD (rx:R) (Q:R→Prop):Prop:=match rx.d with
 | .dT ks _=>Q (.own (.lst (ks.map fun w=>.tup (w.map D.str))))
 | _=>False
theorem vf_listD (hh:X.A.handled=none):VF X (.type "list") vListD:=by
 refine ⟨_,call_list_dT hh,fun B H x rx Q Qd s px h k=>?_⟩
 unfold vListD at h
 split at h
 ·rename_i ks ds e1
  obtain ⟨ad,kvs,rfl,hd,hk,hr⟩:=px.dT s e1
  refine ⟨ad,kvs,rfl,hd,fun l bs hl hlen hb=>?_⟩
  have hkl:ks.length=kvs.length:=by simpa using (congrArg List.length hk).symm
  have key:∀ (i:Nat) (b:Addr) (k:List Str),bs[i]?=some b→ks[i]?=some k→H b=some (.tup (k.map V.str)):=fun i b k h1 h2=>by
   obtain ⟨k',h3,h4⟩:=hb i b h1
   have e:(kvs.map (·.1))[i]?=(ks.map wK)[i]?:=by rw [hk]
   rw [List.getElem?_map,List.getElem?_map,h3,h2] at e
   cases e
   rw [wK_kV] at h4
   exact h4
  have T:=Stp.tups s bs fun b hm=>by
   obtain ⟨i,hi⟩:=List.mem_iff_getElem?.mp hm
   obtain ⟨k',_,h4⟩:=hb i b hi
   exact ⟨_,h4⟩
  have hlB:(fun a=>if a∈bs then H a else B a) l=none:=by
   show (if l∈bs then H l else B l)=none
   split
   ·exact hl
   ·exact s.free hl
  refine k (.own _) _ _ _ (T.trans (.grow T.s (same_upd hl (.lst (bs.map V.ref))))) ⟨l,rfl,hl,hlB,own_newL (reps_ways (by lia) fun i b w h1 h2=>?_)⟩ h
  show (if b∈bs then H b else B b)=_
  rw [if_pos (List.mem_of_getElem? h1)]
  exact key i b w h1 h2
 ·exact h.elim
end
end L2
namespace L2
open PySem PySem.Spec PyProof.Rows
section
variable {X:Cx} {EX:St→XK} {K:PySem.W.Frag} {B H B' H' H0 B0:Hp} {e a:Expr} {es:List Expr} {te ta:TV} {tA:TVA} {pos p np cpos:Pos} {x:Str} {t:TVS} {τ:VSt} {σ:St}
def vRaise (n:Str) (tA:TVA):TVS:=fun Dv τ=>tA τ fun a=>exI τ Dv a fun ds=>ds.length≤sizeLine∧Dv.xc τ n
abbrev THD:=Str→TVS
def RfH (K:PySem.W.Frag) (EX:St→XK) (th:TH) (td:THD):Prop:=∀ (B0 H0 B H:Hp) (τ:VSt) (σ:St) (n:Str) (C:Addr) (Dv:VEnds) (Dh:Ends),Stp B0 H0 B H→Slots K H0 B H τ σ→clsOf K n C→td n Dv τ→EndsOk K EX B0 H0 Dv Dh→th (.ref C) Dh σ H
structure VH (X:Cx) (EX:St→XK) (hs:List ExceptHandler) (td:THD):Prop where
 u:∃ th,QH X hs th∧RfH X.K EX th td
def vTry (t:TVS) (td:THD):TVS:=fun Dv τ=>t { nx:=Dv.nx,rt:=Dv.rt,bk:=Dv.bk,ct:=Dv.ct,xc:=fun τ' n=>td n Dv τ' } τ
def VEnds.calm (Dv:VEnds):VEnds:={ nx:=Dv.nx,rt:=Dv.rt,bk:=Dv.bk,ct:=Dv.ct }
def VEnds.wiped (Dv:VEnds):VEnds:={ nx:=fun τ=>Dv.nx (List.replicate τ.length none),rt:=Dv.rt,bk:=fun τ=>Dv.bk (List.replicate τ.length none),ct:=fun τ=>Dv.ct (List.replicate τ.length none) }
end
end L2
namespace L2
open PySem PySem.Spec PyProof.Rows Builtin.Str
section
variable {X:Cx}
end
section
variable {X:Cx} {EX:St→XK} {o e:Expr} {to te:TV} {apos cpos:Pos}
end
def sp (c:Nat):List Nat→List (List Nat)
 | []=>[[]]
 | x :: xs=>if x=c then [] :: sp c xs else match sp c xs with
  | []=>[[x]]
  | p :: ps=>(x :: p) :: ps
theorem rng_one (a b:Nat):sliceRange a b 1=List.range' a (b - a):=by
 unfold sliceRange
 have e:(if (1:Int) > 0 then (if (a:Int) < b then ((b:Int) - a+1 - 1) / 1 else 0) else (if (a:Int) > b then ((a:Int) - b - 1 - 1) / (-1) else 0)).toNat=b - a:=by
  rw [if_pos (by decide)]
  split
  ·rw [Int.ediv_one]; lia
  ·lia
 show (List.range _).map _=_
 rw [e,List.range'_eq_map_range]
 refine List.map_congr_left fun k _=>?_
 lia
theorem ind_cut (l u:Option Int) (n:Nat):strSliceIndices l u 1 n=List.range' (HT.sIx n 0 l) (HT.sIx n n u - HT.sIx n 0 l):=by
 rw [← rng_one]
 unfold strSliceIndices
 have c:∀ (v:Int),max 0 (min (if v < 0 then v+(n:Int) else v) n)=((HT.sIx n 0 (some v):Nat):Int):=fun v=>by
  show _=(((if v < 0 then (v+(n:Int)).toNat else min v.toNat n):Nat):Int)
  split <;> lia
 have c2:∀ (v:Int),HT.sIx n n (some v)=HT.sIx n 0 (some v):=fun _=>rfl
 have go:∀ (a b:Int) (x y:Nat),a=x→b=y→sliceRange a b 1=sliceRange x y 1:=fun a b x y h1 h2=>by rw [h1,h2]
 cases l with
 | none =>
  cases u with
  | none=>exact go _ _ _ _ rfl rfl
  | some v=>exact go _ _ _ _ rfl (by rw [c2,← c v]; rfl)
 | some v =>
  cases u with
  | none=>exact go _ _ _ _ (by rw [← c v]; rfl) rfl
  | some w=>exact go _ _ _ _ (by rw [← c v]; rfl) (by rw [c2,← c w]; rfl)
theorem fm_range (xs:Array Nat):∀ (m a:Nat),a+m≤xs.size→(List.range' a m).filterMap (xs[·]?)=(xs.toList.drop a).take m
 | 0,a,_=>by simp
 | m+1,a,h=>by
  have hs:a < xs.toList.length:=by show a < xs.size; lia
  rw [List.range'_succ,List.filterMap_cons,Array.getElem?_eq_getElem (show a < xs.size by lia)]
  show xs[a] :: _=_
  rw [fm_range xs m (a+1) (by lia),List.drop_eq_getElem_cons hs,List.take_succ_cons]
  rfl
theorem slice_list (z:Str) (l u:Option Int):(Txt.slice z l u).cps.toList=cutL z.cps.toList l u:=by
 unfold Txt.slice cutL
 have el:z.cps.toList.length=z.length:=rfl
 have h1:=HT.sIx_le z.length 0 (Nat.zero_le _) l
 have h2:=HT.sIx_le z.length z.length (Nat.le_refl _) u
 rw [ind_cut,el]
 by_cases h:HT.sIx z.length z.length u - HT.sIx z.length 0 l=z.length
 ·rw [if_pos (by simpa using h),h]
  have e0:HT.sIx z.length 0 l=0:=by lia
  rw [e0,List.drop_zero,List.take_of_length_le (Nat.le_of_eq el)]
 ·rw [if_neg (by simpa using h)]
  show List.filterMap _ _=_
  by_cases hz:HT.sIx z.length 0 l≤HT.sIx z.length z.length u
  ·exact fm_range z.cps _ _ (by show _≤z.length; lia)
  ·rw [show HT.sIx z.length z.length u - HT.sIx z.length 0 l=0 by lia]
   simp
def mkS (l:List Nat):Str:=⟨l.toArray⟩
theorem mkS_list (z:Str):mkS z.cps.toList=z:=by unfold mkS; simp
theorem str_ext {a b:Str} (h:a.cps.toList=b.cps.toList):a=b:=by rw [← mkS_list a,← mkS_list b,h]
end L2
namespace L2
open PySem PySem.Spec PyProof.Rows
section
variable {X:Cx} {EX:St→XK} {K:PySem.W.Frag} {o e:Expr} {to te:TV} {apos cpos:Pos} {τ:VSt} {σ:St} {B H H0:Hp}
def rMulS:R2:=fun x y H Q=>∃ a n,x=.str a∧y=.int n∧MulOk a n∧Q (.str (Txt.mul a n)) H
theorem op_mulS:OpR X (binaryOp .Mult) rMulS:=by
 intro pins s σ H x y v u Q I rx ry h
 obtain ⟨a,n,rfl,rfl,hok,q⟩:=h
 obtain ⟨t1,rfl⟩:=rx
 obtain ⟨t2,rfl⟩:=ry
 exact SB.mul hok fun t' k=>⟨.str _,H,I.tok _,⟨_,rfl⟩,q⟩
def vMulS (rx ry:R) (Q:R→Prop):Prop:=match rx.d,ry.d with
 | .str a,.int n=>MulOk a n∧Q (.val (.str (Txt.mul a n)))
 | _,_=>False
theorem vo_mulS:VO X (binaryOp .Mult) vMulS:=⟨_,op_mulS,fun B H x y rx ry Q Qd s hx hy h k=>by
 unfold vMulS at h
 split at h
 ·rename_i a n e1 e2
  cases hx.scal (z:=.str a) (by rw [e1]; rfl)
  cases hy.scal (z:=.int n) (by rw [e2]; rfl)
  exact ⟨a,n,rfl,rfl,h.1,k _ _ B H (.refl s) (repV rfl) h.2⟩
 ·exact h.elim⟩
end
end L2
namespace L2
open PySem PySem.W PyProof.Rows
section
variable {α β:Type}
def kRun (lt:Nat→Nat→Bool):KasT α→α
 | .ret a=>a
 | .ask i j k=>kRun lt (k (lt i j))
def kOk (n:Nat) (lt:Nat→Nat→Bool):KasT α→Prop
 | .ret _=>True
 | .ask i j k=>i < n∧j < n∧kOk n lt (k (lt i j))
theorem kRun_bind (lt:Nat→Nat→Bool) (f:α→KasT β):∀ t:KasT α,kRun lt (t.bind f)=kRun lt (f (kRun lt t))
 | .ret _=>rfl
 | .ask i j k=>kRun_bind lt f (k (lt i j))
theorem kOk_bind {n:Nat} {lt:Nat→Nat→Bool} {f:α→KasT β}:∀ {t:KasT α},kOk n lt t→kOk n lt (f (kRun lt t))→kOk n lt (t.bind f)
 | .ret _,_,h=>h
 | .ask i j k,⟨a,b,c⟩,h=>⟨a,b,kOk_bind c h⟩
theorem ask_run {lt:Nat→Nat→Bool} {i j:Nat} {b:Bool} {k:Bool→KasT α} (e:lt i j=b):kRun lt (.ask i j k)=kRun lt (k b):=by
 show kRun lt (k (lt i j))=_
 rw [e]
theorem ask_ok {n:Nat} {lt:Nat→Nat→Bool} {i j:Nat} {b:Bool} {k:Bool→KasT α} (hi:i < n) (hj:j < n) (e:lt i j=b) (h:kOk n lt (k b)):kOk n lt (.ask i j k):=⟨hi,hj,by rw [e]; exact h⟩
theorem kas_run {cmp:Nat→Nat→(Bool→Shared→Prop)→Shared→Prop} {n:Nat} {lt:Nat→Nat→Bool} {P:Shared→Prop} {Q:α→Shared→Prop} (hc:∀ i j C s,i < n→j < n→P s→(∀ s',P s'→C (lt i j) s')→cmp i j C s) :
  ∀ (t:KasT α) (s:Shared),kOk n lt t→P s→(∀ s',P s'→Q (kRun lt t) s')→t.kasWp cmp Q s
 | .ret _,s,_,hp,hq=>hq s hp
 | .ask i j k,s,⟨hi,hj,hk⟩,hp,hq=>hc i j _ s hi hj hp fun s' hp'=>kas_run hc (k (lt i j)) s' hk hp' hq
end
structure LtOk (n:Nat) (lt:Nat→Nat→Bool):Prop where
 tr:∀ a b c,a < n→b < n→c < n→lt a b=true→lt b c=true→lt a c=true
 as:∀ a b,a < n→b < n→lt a b=true→lt b a=false
 tot:∀ a b,a < n→b < n→a≠b→lt a b=true∨lt b a=true
section
variable {n:Nat} {lt:Nat→Nat→Bool} {p:Array Nat}
structure PermOk (n:Nat) (p:Array Nat):Prop where
 sz:p.size=n
 lt:∀ i,i < n→p.getD i 0 < n
 inj:∀ i j,i < n→j < n→p.getD i 0=p.getD j 0→i=j
theorem getD_eq (p:Array Nat) (i:Nat):p.getD i 0=(p[i]?).getD 0:=by
 by_cases h:i < p.size
 ·simp [Array.getD,h]
 ·simp [Array.getD,h]
theorem PermOk.of (hp:p.Perm (List.range n).toArray):PermOk n p where
 sz:=by rw [hp.size_eq]; simp
 lt:=fun i hi=>by
  have hs:p.size=n:=by rw [hp.size_eq]; simp
  have hm:p[i]'(by lia)∈p:=Array.getElem_mem _
  have:p[i]'(by lia)∈(List.range n).toArray:=hp.mem_iff.mp hm
  rw [getD_eq,Array.getElem?_eq_getElem (by lia)]
  simpa using this
 inj:=fun i j hi hj e=>by
  have hs:p.size=n:=by rw [hp.size_eq]; simp
  have nd:p.toList.Nodup:=by
   have:=hp.toList
   rw [this.nodup_iff]
   simp [List.nodup_range]
  rw [getD_eq,getD_eq,Array.getElem?_eq_getElem (by lia),Array.getElem?_eq_getElem (by lia)] at e
  have e':p.toList[i]'(by simp; lia)=p.toList[j]'(by simp; lia):=by simpa using e
  exact (List.getElem_inj nd).mp e'
def SPr (lt:Nat→Nat→Bool) (p:Array Nat) (k:Nat):Prop:=∀ i j,i < j→j < k→lt (p.getD i 0) (p.getD j 0)=true
def DPr (lt:Nat→Nat→Bool) (p:Array Nat) (k:Nat):Prop:=∀ i j,i < j→j < k→lt (p.getD j 0) (p.getD i 0)=true
theorem SPr.snoc (L:LtOk n lt) (P:PermOk n p) {k:Nat} (h:SPr lt p k) (hk:k < n) (h1:1≤k) (e:lt (p.getD k 0) (p.getD (k - 1) 0)=false):SPr lt p (k+1):=fun i j hi hj=>by
 have l1:lt (p.getD (k - 1) 0) (p.getD k 0)=true:=by
  rcases L.tot _ _ (P.lt (k - 1) (by lia)) (P.lt k hk) (fun z=>by have:=P.inj _ _ (by lia) hk z; lia) with q | q
  ·exact q
  ·rw [e] at q; cases q
 by_cases hjk:j=k
 ·subst hjk
  by_cases hik:i=j - 1
  ·rw [hik]; exact l1
  ·exact L.tr _ _ _ (P.lt i (by lia)) (P.lt (j - 1) (by lia)) (P.lt j hk) (h i (j - 1) (by lia) (by lia)) l1
 ·exact h i j hi (by lia)
theorem DPr.snoc (L:LtOk n lt) (P:PermOk n p) {k:Nat} (h:DPr lt p k) (hk:k < n) (h1:1≤k) (e:lt (p.getD k 0) (p.getD (k - 1) 0)=true):DPr lt p (k+1):=fun i j hi hj=>by
 by_cases hjk:j=k
 ·subst hjk
  by_cases hik:i=j - 1
  ·rw [hik]; exact e
  ·exact L.tr _ _ _ (P.lt j hk) (P.lt (j - 1) (by lia)) (P.lt i (by lia)) e (h i (j - 1) (by lia) (by lia))
 ·exact h i j hi (by lia)
theorem asc_ok (L:LtOk n lt) (P:PermOk n p):∀ (f m:Nat),1≤m→m+f≤n→SPr lt p m→kOk n lt (kas_asc p f m)∧∃ m',kRun lt (kas_asc p f m)=m'∧m≤m'∧m'≤m+f∧SPr lt p m'∧(m'=m+f∨lt (p.getD m' 0) (p.getD (m' - 1) 0)=true)
 | 0,m,h1,hf,hs=>⟨trivial,m,rfl,Nat.le_refl _,Nat.le_refl _,hs,.inl rfl⟩
 | f+1,m,h1,hf,hs=>by
  cases e:lt (p.getD m 0) (p.getD (m - 1) 0) with
  | true =>
   refine ⟨ask_ok (P.lt m (by lia)) (P.lt (m - 1) (by lia)) e ?_,m,(ask_run e).trans ?_,Nat.le_refl _,by lia,hs,.inr e⟩
   ·trivial
   ·rfl
  | false =>
   obtain ⟨a,m',r,b,c,d,g⟩:=asc_ok L P f (m+1) (by lia) (by lia) (hs.snoc L P (by lia) h1 e)
   refine ⟨ask_ok (P.lt m (by lia)) (P.lt (m - 1) (by lia)) e a,m',(ask_run e).trans r,by lia,by lia,d,?_⟩
   rcases g with g | g
   ·left; lia
   ·exact .inr g
theorem desc_ok (L:LtOk n lt) (P:PermOk n p):∀ (f m:Nat),1≤m→m+f≤n→DPr lt p m→kOk n lt (kas_desc f p m 0)∧∃ m',kRun lt (kas_desc f p m 0)=(p,m',0)∧m≤m'∧m'≤m+f∧DPr lt p m'
 | 0,m,h1,hf,hs=>⟨trivial,m,rfl,Nat.le_refl _,Nat.le_refl _,hs⟩
 | f+1,m,h1,hf,hs=>by
  cases e:lt (p.getD m 0) (p.getD (m - 1) 0) with
  | true =>
   obtain ⟨a,m',b,c,d,g⟩:=desc_ok L P f (m+1) (by lia) (by lia) (hs.snoc L P (by lia) h1 e)
   exact ⟨ask_ok (P.lt m (by lia)) (P.lt (m - 1) (by lia)) e a,m',(ask_run e).trans b,by lia,by lia,g⟩
  | false =>
   have l1:lt (p.getD (m - 1) 0) (p.getD m 0)=true:=by
    rcases L.tot _ _ (P.lt (m - 1) (by lia)) (P.lt m (by lia)) (fun z=>by have:=P.inj _ _ (by lia) (by lia) z; lia) with q | q
    ·exact q
    ·rw [e] at q; cases q
   exact ⟨ask_ok (P.lt m (by lia)) (P.lt (m - 1) (by lia)) e (ask_ok (P.lt (m - 1) (by lia)) (P.lt m (by lia)) l1 trivial),m,(ask_run e).trans ((ask_run l1).trans rfl),Nat.le_refl _,by lia,hs⟩
theorem mirror_getD {j:Nat} (hj:j≤p.size) (k:Nat):(kas_rev p 0 j).getD k 0=if k < j then p.getD (j - 1 - k) 0 else p.getD k 0:=by
 rw [getD_eq,kas_rev,getElem?_mirror_all hj k]
 by_cases h:k < j
 ·rw [if_pos ⟨Nat.zero_le _,h⟩,if_pos h,getD_eq,Nat.zero_add]
 ·rw [if_neg (fun z=>h z.2),if_neg h,getD_eq]
theorem rev_SPr {j:Nat} (hj:j≤p.size) (h:DPr lt p j):SPr lt (kas_rev p 0 j) j:=fun a b hab hb=>by
 rw [mirror_getD hj,mirror_getD hj,if_pos (by lia),if_pos hb]
 exact h (j - 1 - b) (j - 1 - a) (by lia) (by lia)
theorem tail3_ok (L:LtOk n lt) (hp:p.Perm (List.range n).toArray) {m:Nat} (h1:1≤m) (hm:m≤n) (h:DPr lt p m):kOk n lt (kas_tail3 m n p)∧∃ k q,kRun lt (kas_tail3 m n p)=(k,q)∧1≤k∧k≤n∧q.Perm p∧SPr lt q k:=by
 have hq:(kas_rev p 0 m).Perm p:=mirror_perm _ _ _ _
 have P:=PermOk.of (hq.trans hp)
 obtain ⟨a,k,r,b,c,d,_⟩:=asc_ok L P (n - m) m h1 (by lia) (rev_SPr (by rw [(PermOk.of hp).sz]; exact hm) h)
 refine ⟨kOk_bind a trivial,k,kas_rev p 0 m,?_,by lia,by lia,hq,d⟩
 unfold kas_tail3
 rw [kRun_bind,r]
 rfl
theorem descPart_ok (L:LtOk n lt) (hp:p.Perm (List.range n).toArray) {m:Nat} (hm:m+1≤n) (h:DPr lt p (m+1)):kOk n lt (kas_descPart m n p)∧∃ k q,kRun lt (kas_descPart m n p)=(k,q)∧1≤k∧k≤n∧q.Perm p∧SPr lt q k:=by
 have P:=PermOk.of hp
 obtain ⟨a,m',r,b,c,d⟩:=desc_ok L P (n - (m+1)) (m+1) (by lia) (by lia) h
 obtain ⟨a2,k,q,r2,e⟩:=tail3_ok L hp (m:=m') (by lia) (by lia) d
 refine ⟨kOk_bind a ?_,k,q,?_,e⟩
 ·rw [r]
  exact a2
 ·unfold kas_descPart
  rw [kRun_bind,r]
  exact r2
theorem count_ok (L:LtOk n lt) (hp:p.Perm (List.range n).toArray) (h1:1≤n):kOk n lt (kas_count n p)∧∃ m q,kRun lt (kas_count n p)=(m,q)∧1≤m∧m≤n∧q.Perm p∧SPr lt q m:=by
 have P:=PermOk.of hp
 obtain ⟨a,m,r,b,c,d,g⟩:=asc_ok L P (n - 1) 1 (Nat.le_refl _) (by lia) (fun i j hi hj=>by lia)
 by_cases hn:m=n
 ·refine ⟨kOk_bind a ?_,m,p,?_,b,by lia,.refl _,d⟩
  ·rw [r,if_pos (by simp [hn])]
   trivial
  ·unfold kas_count
   rw [kRun_bind,r,if_pos (by simp [hn])]
   rfl
 ·have ne:¬ (m == n)=true:=by simp [hn]
  by_cases hm:m > 1
  ·have e:lt (p.getD 0 0) (p.getD (m - 1) 0)=true:=d 0 (m - 1) (by lia) (by lia)
   refine ⟨kOk_bind a ?_,m,p,?_,b,by lia,.refl _,d⟩
   ·rw [r,if_neg ne,if_pos hm]
    exact ask_ok (P.lt 0 (by lia)) (P.lt (m - 1) (by lia)) e trivial
   ·unfold kas_count
    rw [kRun_bind,r,if_neg ne,if_pos hm,ask_run e]
    rfl
  ·have hm1:m=1:=by lia
   have e:lt (p.getD 1 0) (p.getD 0 0)=true:=by
    rcases g with g | g
    ·exact absurd (by lia) hn
    ·rw [hm1] at g; exact g
   have D2:DPr lt p (m+1):=fun i j hi hj=>by
    have:i=0:=by lia
    have:j=1:=by lia
    subst_vars
    exact e
   obtain ⟨a2,k,q,r2,e2⟩:=descPart_ok L hp (m:=m) (by lia) D2
   refine ⟨kOk_bind a ?_,k,q,?_,e2⟩
   ·rw [r,if_neg ne,if_neg hm]
    exact a2
   ·unfold kas_count
    rw [kRun_bind,r,if_neg ne,if_neg hm]
    exact r2
theorem place_ok (L:LtOk n lt) (P:PermOk n p) {k:Nat} (hk:k < n):∀ (f l r:Nat),l≤r→r≤k→r - l≤f→SPr lt p k→(∀ i,i < l→lt (p.getD i 0) (p.getD k 0)=true)→(∀ i,r≤i→i < k→lt (p.getD k 0) (p.getD i 0)=true) →
  kOk n lt (kas_place p k f l r)∧∃ l',kRun lt (kas_place p k f l r)=l'∧l'≤k∧(∀ i,i < l'→lt (p.getD i 0) (p.getD k 0)=true)∧(∀ i,l'≤i→i < k→lt (p.getD k 0) (p.getD i 0)=true)
 | 0,l,r,hlr,hrk,hf,hs,h1,h2=>by
  have:l=r:=by lia
  subst this
  exact ⟨trivial,l,rfl,hrk,h1,h2⟩
 | f+1,l,r,hlr,hrk,hf,hs,h1,h2=>by
  unfold kas_place
  by_cases hge:l ≥ r
  ·have:l=r:=by lia
   subst this
   rw [if_pos hge]
   exact ⟨trivial,l,rfl,hrk,h1,h2⟩
  ·rw [if_neg hge]
   have hmk:(l+r) / 2 < k:=by lia
   cases e:lt (p.getD k 0) (p.getD ((l+r) / 2) 0) with
   | true =>
    obtain ⟨a,l',q,b,c,d⟩:=place_ok L P hk f l ((l+r) / 2) (by lia) (by lia) (by lia) hs h1 (fun i hi hik=>by
     by_cases z:i=(l+r) / 2
     ·rw [z]; exact e
     ·exact L.tr _ _ _ (P.lt k hk) (P.lt _ (by lia)) (P.lt i (by lia)) e (hs ((l+r) / 2) i (by lia) hik))
    exact ⟨ask_ok (P.lt k hk) (P.lt _ (by lia)) e a,l',(ask_run e).trans q,b,c,d⟩
   | false =>
    have l1:lt (p.getD ((l+r) / 2) 0) (p.getD k 0)=true:=by
     rcases L.tot _ _ (P.lt ((l+r) / 2) (by lia)) (P.lt k hk) (fun z=>by have:=P.inj _ _ (by lia) hk z; lia) with q | q
     ·exact q
     ·rw [e] at q; cases q
    obtain ⟨a,l',q,b,c,d⟩:=place_ok L P hk f ((l+r) / 2+1) r (by lia) hrk (by lia) hs (fun i hi=>by
     by_cases z:i=(l+r) / 2
     ·rw [z]; exact l1
     ·exact L.tr _ _ _ (P.lt i (by lia)) (P.lt ((l+r) / 2) (by lia)) (P.lt k hk) (hs i ((l+r) / 2) (by lia) hmk) l1) h2
    exact ⟨ask_ok (P.lt k hk) (P.lt _ (by lia)) e a,l',(ask_run e).trans q,b,c,d⟩
theorem bubble_getD {src d:Nat} (hs:src < p.size) (hd:d≤src) (k:Nat):(bubble p src d).getD k 0=if k=src - d then p.getD src 0 else if src - d < k∧k≤src then p.getD (k - 1) 0 else p.getD k 0:=by
 rw [getD_eq,getElem?_bubble hs d hd k]
 by_cases h1:k=src - d
 ·rw [if_pos h1,if_pos h1,getD_eq]
 ·rw [if_neg h1,if_neg h1]
  by_cases h2:src - d < k∧k≤src
  ·rw [if_pos h2,if_pos h2,getD_eq]
  ·rw [if_neg h2,if_neg h2,getD_eq]
theorem bin_ok (L:LtOk n lt):∀ (f k:Nat) (p:Array Nat),p.Perm (List.range n).toArray→1≤k→k+f≤n→SPr lt p k→kOk n lt (kas_bin f p k)∧∃ q,kRun lt (kas_bin f p k)=q∧q.Perm p∧SPr lt q (k+f)
 | 0,k,p,hp,h1,hf,hs=>⟨trivial,p,rfl,.refl _,hs⟩
 | f+1,k,p,hp,h1,hf,hs=>by
  have P:=PermOk.of hp
  obtain ⟨a,l,r,b,c,d⟩:=place_ok L P (k:=k) (by lia) k 0 k (Nat.zero_le _) (Nat.le_refl _) (by lia) hs (fun i hi=>by lia) (fun i hi hk=>by lia)
  have hq:(bubble p k (k - l)).Perm p:=bubble_perm _ _ _
  have G:=bubble_getD (p:=p) (src:=k) (d:=k - l) (by rw [P.sz]; lia) (by lia)
  have hs2:SPr lt (bubble p k (k - l)) (k+1):=fun i j hi hj=>by
   rw [G i,G j]
   have ekl:k - (k - l)=l:=by lia
   rw [ekl]
   by_cases i1:i=l
   ·rw [if_pos i1,if_neg (by lia),if_pos (by lia)]
    exact d (j - 1) (by lia) (by lia)
   ·rw [if_neg i1]
    by_cases j1:j=l
    ·rw [if_pos j1,if_neg (by lia)]
     exact c i (by lia)
    ·rw [if_neg j1]
     by_cases i2:l < i
     ·rw [if_pos (by lia),if_pos (by lia)]
      exact hs (i - 1) (j - 1) (by lia) (by lia)
     ·rw [if_neg (by lia)]
      by_cases j2:l < j
      ·rw [if_pos (by lia)]
       exact hs i (j - 1) (by lia) (by lia)
      ·rw [if_neg (by lia)]
       exact hs i j hi (by lia)
  obtain ⟨a2,q,r2,e1,e2⟩:=bin_ok L f (k+1) _ (hq.trans hp) (by lia) (by lia) hs2
  refine ⟨kOk_bind a (by rw [r]; exact a2),q,?_,e1.trans hq,by rw [show k+(f+1)=k+1+f by lia]; exact e2⟩
  unfold kas_bin
  rw [kRun_bind,r]
  exact r2
theorem sort_ok (L:LtOk n lt) (h1:1≤n):kOk n lt (kas_sort n)∧∃ q,kRun lt (kas_sort n)=q∧q.Perm (List.range n).toArray∧SPr lt q n:=by
 obtain ⟨a,m,q,r,b,c,d,e⟩:=count_ok L (.refl _) h1
 by_cases hm:m < n
 ·obtain ⟨a2,q2,r2,e1,e2⟩:=bin_ok L (n - max m 1) (max m 1) q d (by lia) (by lia) (by rw [Nat.max_eq_left b]; exact e)
  refine ⟨kOk_bind a ?_,q2,?_,e1.trans d,?_⟩
  ·rw [r,if_pos hm]
   exact a2
  ·unfold kas_sort
   rw [kRun_bind,r,if_pos hm]
   exact r2
  ·rw [show max m 1+(n - max m 1)=n by lia] at e2
   exact e2
 ·have:m=n:=by lia
  subst this
  refine ⟨kOk_bind a ?_,q,?_,d,e⟩
  ·rw [r,if_neg hm]
   trivial
  ·unfold kas_sort
   rw [kRun_bind,r,if_neg hm]
   rfl
end
end L2
namespace L2
open PySem PySem.Spec PyProof.Rows PySem.W
def LtA (A:Around) (s:Shared) (x y:Value) (c:Bool):Prop:=∀ (prog:Program) (w:World) (E:Value→Shared→Prop) (Q:Value→Shared→Prop),Q (.bool c) s→wpAny (model prog w) A (richCompare .Lt x y) Q E s
def LtC (A:Around) (s:Shared) (p q:Addr) (c:Bool):Prop:=∀ (prog:Program) (w:World) (E:Value→Shared→Prop) (Q:Value→Shared→Prop),Q (.bool c) s→wpAny (model prog w) A (call (.builtin "tuple.__lt__") [.ref p,.ref q]) Q E s
def lexV (e l:Nat→Bool) (z:Bool):Nat→Nat→Bool
 | 0,_=>z
 | k+1,i=>if e i=true then lexV e l z k (i+1) else l i
theorem tup_lt (p q:Addr) (us ws:Array Value) (m k:Nat) (dp dq:Option Addr) (sp sq:Array (Option Value)) (e c:Nat→Bool) :
  Meets (Builtin.«tuple.__lt__» ⟨[.ref p,.ref q],[]⟩)
   (fun A R s=>s.heap.get? p=some { cls:=.type "tuple",dict:=dp,data:=.seq us m,slots:=sp }∧s.heap.get? q=some { cls:=.type "tuple",dict:=dq,data:=.seq ws k,slots:=sq } ∧
    (∀ j (h1:j < us.size) (h2:j < ws.size),SeqAt.EqAt A.in1 s us[j] ws[j] (e j))∧(∀ j (h1:j < us.size) (h2:j < ws.size),e j=false→LtA A.in1 s us[j] ws[j] (c j)) ∧
    R (.ok (.ret (.bool (lexV e c (decide (us.size < ws.size)) (min us.size ws.size) 0)))) s) :=
 .of_wp fun prog w A R s h=>by
  obtain ⟨h1,g1,d1,t1,o1⟩:=s
  obtain ⟨hl,hb,he,hc,hR0⟩:=h
  have f2:=AutoSeq1.sub_tuple_tuple
  have hZ:(us.toList.zip ws.toList).length=min us.size ws.size:=by simp
  wp_walk using wpAny_loadPart' hl,wpAny_loadPart' hb,wpAny_forIn_list _ (fun rest b s'=>b.1=none∧s'=⟨h1,g1,d1,t1,o1⟩∧∃ i k,i+k=min us.size ws.size∧rest=(us.toList.zip ws.toList).drop i ∧
   R (.ok (.ret (.bool (lexV e c (decide (us.size < ws.size)) k i)))) ⟨h1,g1,d1,t1,o1⟩) _
  case turn =>
   rintro ⟨y,x⟩ rest b s' ⟨hb',rfl,i,k,hik,hz,hR⟩
   have hm:i < (us.toList.zip ws.toList).length:=by
    apply Nat.lt_of_not_le
    intro z
    rw [List.drop_of_length_le z] at hz
    cases hz
   have l1:i < us.size:=by lia
   have l2:i < ws.size:=by lia
   rw [List.drop_eq_getElem_cons hm] at hz
   injection hz with hyx hrest
   obtain rfl:y=us[i]:=by simpa using congrArg Prod.fst hyx
   obtain rfl:x=ws[i]:=by simpa using congrArg Prod.snd hyx
   obtain ⟨k,rfl⟩:∃ k',k=k'+1:=⟨k - 1,by lia⟩
   have hR':R (.ok (.ret (.bool (if e i=true then lexV e c (decide (us.size < ws.size)) k (i+1) else c i)))) ⟨h1,g1,d1,t1,o1⟩:=hR
   refine wpAny_bind (he i l1 l2 prog w _ _ ?_)
   cases hy:e i with
   | true =>
    rw [hy,if_pos rfl] at hR'
    wp_walk
    exact ⟨rfl,rfl,i+1,k,by lia,hrest,hR'⟩
   | false =>
    rw [hy,if_neg (by decide)] at hR'
    simp only [Bool.not_false,if_true]
    refine wpAny_bind (wpAny_rule (wpAny_bind (hc i l1 l2 hy prog w _ _ ?_)))
    wp_walk
    exact ⟨_,rfl,hR'⟩
  case fin =>
   rintro ⟨b1,b2⟩ s' ⟨hb',rfl,i,k,hik,hz,hR⟩
   simp only at hb'
   subst hb'
   have hk:k=0:=by
    rcases Nat.lt_or_ge i (us.toList.zip ws.toList).length with z | z
    ·rw [List.drop_eq_getElem_cons z] at hz; cases hz
    ·lia
   subst hk
   wp_walk
   exact ⟨_,rfl,by simpa [Builtin.Tuple.tupleCompareSizes,lexV] using hR⟩
  case h =>
   exact ⟨rfl,rfl,0,_,Nat.zero_add _,rfl,hR0⟩
section
variable {A:Around} {s:Shared} {p q:Addr} {us ws:Array Value} {e c:Nat→Bool}
theorem LtA.tups (hp:s.heap.IsTuple p us) (hq:s.heap.IsTuple q ws) (hu:A.units < cLine) (he:∀ j (h1:j < us.size) (h2:j < ws.size),SeqAt.EqAt A.in1 s us[j] ws[j] (e j))
  (hc:∀ j (h1:j < us.size) (h2:j < ws.size),e j=false→LtA A.in1 s us[j] ws[j] (c j)):LtA A s (.ref p) (.ref q) (lexV e c (decide (us.size < ws.size)) (min us.size ws.size) 0)∧LtC A s p q (lexV e c (decide (us.size < ws.size)) (min us.size ws.size) 0):=by
 obtain ⟨⟨cl1,dp,da1,sp⟩,o1,z1,m,y1⟩:=id hp
 obtain ⟨⟨cl2,dq,da2,sq⟩,o2,z2,k,y2⟩:=id hq
 cases z1; cases y1; cases z2; cases y2
 refine ⟨fun prog w E Q h=>?_,fun prog w E Q h=>call_meets F.slot_tuple_lt ⟨_,o1,rfl⟩ F.entry_tuple_lt (F.args_tuple_lt_2 _ _) (tup_lt p q us ws m k dp dq sp sq e c) ⟨o1,o2,he,hc,h⟩⟩
 exact richCompare_meets_room (op:=.Lt) ⟨_,o1,rfl⟩ ⟨_,o2,rfl⟩ F.slot_tuple_lt F.entry_tuple_lt (F.args_tuple_lt_2 _ _) (tup_lt p q us ws m k dp dq sp sq e c) ⟨o1,o2,he,hc,(fun x=>nomatch x),h⟩ hu
theorem LtA.strs {a b:Str} {t u:Tok}:LtA A s (.str a t) (.str b u) (decide (a.cps.toList < b.cps.toList)):=fun prog w E Q h=>by
 refine wpAny_richCompare_same_or (typeIs_str s a t) (typeIs_str s b u) slot_str_lt (call_str_lt (Q:=fun v s'=>v≠.notImplemented∧Q v s') ⟨(fun x=>nomatch x),h⟩) (.inl rfl)
end
mutual
noncomputable def ltD:D→D→Bool
 | .str a,.str b=>decide (a.cps.toList < b.cps.toList)
 | .tup ds,.tup es=>ltDs ds es
 | _,_=>false
noncomputable def ltDs:List D→List D→Bool
 | [],[]=>false
 | [],_ :: _=>true
 | _ :: _,[]=>false
 | d :: ds,e :: es=>if eqD d e=true then ltDs ds es else ltD d e
end
mutual
def ordD:D→D→Bool
 | .str _,.str _=>true
 | .tup ds,.tup es=>ordDs ds es
 | _,_=>false
def ordDs:List D→List D→Bool
 | d :: ds,e :: es=>ordD d e && ordDs ds es
 | _,_=>true
end
mutual
theorem ord_cmp:∀ (d e:D),ordD d e=true→cmpD d e=true
 | .str _,e,h=>by
  cases e <;> first | rfl | (unfold ordD at h; cases h)
 | .tup ds,e,h=>by
  cases e <;> first | (unfold ordD at h; cases h; done) | skip
  rename_i es
  unfold ordD at h
  unfold cmpD
  exact ords_cmp ds es h
 | .non,e,h=>by unfold ordD at h; cases h
 | .bl _,e,h=>by unfold ordD at h; cases h
 | .int _,e,h=>by unfold ordD at h; cases h
 | .lst _,e,h=>by unfold ordD at h; cases h
 | .dT _ _,e,h=>by unfold ordD at h; cases h
 | .dK _ _,e,h=>by unfold ordD at h; cases h
 | .scr _,e,h=>by unfold ordD at h; cases h
 | .kt _,e,h=>by unfold ordD at h; cases h
 | .exc _,e,h=>by unfold ordD at h; cases h
theorem ords_cmp:∀ (ds es:List D),ordDs ds es=true→cmpDs ds es=true
 | [],_,_=>by unfold cmpDs; rfl
 | _ :: _,[],_=>by unfold cmpDs; rfl
 | d :: ds,e :: es,h=>by
  unfold ordDs at h
  rw [Bool.and_eq_true] at h
  unfold cmpDs
  rw [ord_cmp d e h.1,ords_cmp ds es h.2]
  rfl
end
theorem ordDs_at:∀ {ds es:List D} {j:Nat} {d e:D},ordDs ds es=true→ds[j]?=some d→es[j]?=some e→ordD d e=true
 | [],_,j,_,_,_,q,_=>by simp at q
 | _ :: _,[],j,_,_,_,_,q=>by simp at q
 | d :: ds,e :: es,0,_,_,h,q1,q2=>by
  unfold ordDs at h
  rw [Bool.and_eq_true] at h
  simp at q1 q2
  rw [← q1,← q2]
  exact h.1
 | d :: ds,e :: es,j+1,_,_,h,q1,q2=>by
  unfold ordDs at h
  rw [Bool.and_eq_true] at h
  exact ordDs_at h.2 (by simpa using q1) (by simpa using q2)
theorem lexV_shift (e l:Nat→Bool) (z:Bool):∀ k i,lexV e l z k (i+1)=lexV (fun j=>e (j+1)) (fun j=>l (j+1)) z k i
 | 0,_=>rfl
 | k+1,i=>by
  show (if e (i+1)=true then lexV e l z k (i+1+1) else l (i+1))=if e (i+1)=true then lexV (fun j=>e (j+1)) (fun j=>l (j+1)) z k (i+1) else l (i+1)
  rw [lexV_shift e l z k (i+1)]
theorem lexV_D:∀ ds es:List D,lexV (fun j=>eqD (ds.getD j .non) (es.getD j .non)) (fun j=>ltD (ds.getD j .non) (es.getD j .non)) (decide (ds.length < es.length)) (min ds.length es.length) 0=ltDs ds es
 | [],[]=>by unfold ltDs; rfl
 | [],_ :: _=>by unfold ltDs; simp [lexV]
 | _ :: _,[]=>by unfold ltDs; simp [lexV]
 | d :: ds,e :: es=>by
  have ih:=lexV_D ds es
  rw [List.length_cons,List.length_cons,Nat.add_min_add_right]
  show (if eqD d e=true then lexV _ _ _ (min ds.length es.length) (0+1) else ltD d e)=_
  rw [lexV_shift]
  unfold ltDs
  have ed:decide (ds.length+1 < es.length+1)=decide (ds.length < es.length):=decide_eq_decide.mpr (by lia)
  rw [ed]
  have h2:lexV (fun j=>eqD ((d :: ds).getD (j+1) .non) ((e :: es).getD (j+1) .non)) (fun j=>ltD ((d :: ds).getD (j+1) .non) ((e :: es).getD (j+1) .non)) (decide (ds.length < es.length)) (min ds.length es.length) 0=ltDs ds es:=ih
  rw [h2]
section
variable {X:Cx} {pins:List (Addr × Obj)} {σ:St} {H:Hp} {s:Shared}
theorem lt_tup {A:Around} (I:Inv X pins σ H s) {a b:Addr} {ds es:List D} {xs ys:List V} (ha:SqT X.K H a xs) (hb:SqT X.K H b ys) (r1:Reps X.K H ds xs) (r2:Reps X.K H es ys) (ho:ordDs ds es=true) (hu:A.units+depDs ds+1 < cLine)
  (ih:∀ d∈ds,∀ (e:D) (v z:V) (u w:Value),Rep X.K H d v→Rep X.K H e z→RelV v u→RelV z w→ordD d e=true→LtA A.in1 s u w (ltD d e)):LtA A s (.ref a) (.ref b) (ltDs ds es)∧LtC A s a b (ltDs ds es):=by
 obtain ⟨its,v1,p1,_⟩:=I.tuple ha
 obtain ⟨its2,v2,p2,_⟩:=I.tuple hb
 have hc:=ords_cmp ds es ho
 have ihe:∀ d∈ds,∀ (e:D) (v z:V) (u w:Value),Rep X.K H d v→Rep X.K H e z→RelV v u→RelV z w→cmpD d e=true→SeqAt.EqAt A.in1 s u w (eqD d e):=fun d hd e v z u w h1 h2 h3 h4 h5 =>
  eqAt_D I _ A.in1 d e v z u w (Nat.le_refl _) h1 h2 h3 h4 h5 (by have:=depD_mem hd; have un:A.in1.units=A.units+1:=rfl; lia)
 have:=LtA.tups (A:=A) (s:=s) (e:=fun j=>eqD (ds.getD j .non) (es.getD j .non)) (c:=fun j=>ltD (ds.getD j .non) (es.getD j .non)) (show s.heap.IsTuple a its.toArray from p1) (show s.heap.IsTuple b its2.toArray from p2) (by lia) (items_D r1 r2 v1 v2 hc ihe) ?_
 ·rw [List.size_toArray,List.size_toArray,← v1.length,← v2.length,← r1.length,← r2.length,lexV_D] at this
  exact this
 ·intro j h1 h2 _
  have l1:j < ds.length:=by rw [r1.length,v1.length]; simpa using h1
  have l2:j < es.length:=by rw [r2.length,v2.length]; simpa using h2
  obtain ⟨x,qx,rx⟩:=r1.at (List.getElem?_eq_getElem l1)
  obtain ⟨y,qy,ry⟩:=r2.at (List.getElem?_eq_getElem l2)
  obtain ⟨ux,e1,rux⟩:=v1.get qx
  obtain ⟨uy,e2,ruy⟩:=v2.get qy
  have e1':its.toArray[j]=ux:=by
   have z:its[j]?=some its.toArray[j]:=by simp
   rw [e1] at z
   exact (Option.some.inj z).symm
  have e2':its2.toArray[j]=uy:=by
   have z:its2[j]?=some its2.toArray[j]:=by simp
   rw [e2] at z
   exact (Option.some.inj z).symm
  have e3:ds.getD j .non=ds[j]:=by simp [List.getD_eq_getElem?_getD,l1]
  have e4:es.getD j .non=es[j]:=by simp [List.getD_eq_getElem?_getD,l2]
  rw [e1',e2',e3,e4]
  exact ih ds[j] (List.getElem_mem l1) es[j] x y ux uy rx ry rux ruy (ordDs_at ho (List.getElem?_eq_getElem l1) (List.getElem?_eq_getElem l2))
theorem ltAt_D (I:Inv X pins σ H s):∀ (n:Nat) (A:Around) (d e:D) (v z:V) (u w:Value),sizeOf d≤n→Rep X.K H d v→Rep X.K H e z→RelV v u→RelV z w→ordD d e=true→A.units+depD d < cLine→LtA A s u w (ltD d e)
 | 0,_,d,_,_,_,_,_,hn,_,_,_,_,_,_=>by cases d <;> simp at hn
 | n+1,A,d,e,v,z,u,w,hn,hd,he,ru,rw',ho,hu=>by
  have un:A.in1.units=A.units+1:=rfl
  cases d with
  | str a =>
   cases e with
   | str b =>
    unfold Rep at hd he
    subst hd he
    obtain ⟨t1,rfl⟩:=ru
    obtain ⟨t2,rfl⟩:=rw'
    unfold ltD
    exact LtA.strs
   | _=>unfold ordD at ho; cases ho
  | tup ds =>
   cases e with
   | tup es =>
    unfold Rep at hd he
    obtain ⟨a,xs,rfl,ha,r1⟩:=hd
    obtain ⟨b,ys,rfl,hb,r2⟩:=he
    cases ru
    cases rw'
    unfold ordD at ho
    unfold ltD
    unfold depD at hu
    refine (lt_tup I ha.sq hb.sq r1 r2 ho (by lia) fun d hd e v z u w h1 h2 h3 h4 h5=>ltAt_D I n A.in1 d e v z u w ?_ h1 h2 h3 h4 h5 ?_).1
    ·have:=List.sizeOf_lt_of_mem hd
     simp at hn
     lia
    ·have:=depD_mem hd
     lia
   | _=>unfold ordD at ho; cases ho
  | _=>unfold ordD at ho; cases ho
end
end L2
namespace L2
open PySem PySem.Spec PyProof.Rows PySem.W
section
variable {X:Cx} {pins:List (Addr × Obj)} {σ:St} {H:Hp} {s:Shared} {E:Value→Shared→Prop}
theorem oneLt_D (I:Inv X pins σ H s) {A:Around} (c:Bool) {d e:D} {v z:V} {u w:Value} {Q:Bool→Shared→Prop} (hd:Rep X.K H d v) (he:Rep X.K H e z) (ru:RelV v u) (rw':RelV z w) (ho:ordD d e=true) (hu:A.units+depD d+1 < cLine) (h:Q (ltD d e) s) :
  wpAny (model X.prog X.w) A (oneLt' c u w) Q E s:=by
 have L:=ltAt_D I _ A d e v z u w (Nat.le_refl _) hd he ru rw' ho (by lia)
 cases c with
 | false=>exact kat_one u w (L X.prog X.w E (PySem.W.BoolBack Q) h)
 | true =>
  cases d with
  | str a =>
   cases e with
   | str b =>
    unfold Rep at hd he
    subst hd he
    obtain ⟨t1,rfl⟩:=ru
    obtain ⟨t2,rfl⟩:=rw'
    unfold ltD at h
    exact oneLt_str h
   | _=>unfold ordD at ho; cases ho
  | tup ds =>
   cases e with
   | tup es =>
    unfold Rep at hd he
    obtain ⟨a,xs,rfl,ha,r1⟩:=hd
    obtain ⟨b,ys,rfl,hb,r2⟩:=he
    cases ru
    cases rw'
    unfold ordD at ho
    unfold ltD at h
    unfold depD at hu
    have C:=(lt_tup (A:=A) I ha.sq hb.sq r1 r2 ho (by lia) fun d hd e v z u w h1 h2 h3 h4 h5=>ltAt_D I _ A.in1 d e v z u w (Nat.le_refl _) h1 h2 h3 h4 h5 (by have:=depD_mem hd; have un:A.in1.units=A.units+1:=rfl; lia)).2
    obtain ⟨its,_,pl,_⟩:=I.tuple ha.sq
    rw [oneLt'_eq]
    simp only [if_true]
    refine wpAny_bind (wpAny_cRoomFor (by lia) (wpAny_bind (wpAny_callSpecialIfBound?_slot pl.typeIs F.slot_tuple_lt (C X.prog X.w _ _ ?_))))
    exact wpAny_truthy_bool h
   | _=>unfold ordD at ho; cases ho
  | _=>unfold ordD at ho; cases ho
theorem lex_D (I:Inv X pins σ H s) {A:Around} {b z:Bool} {Q:Bool→Shared→Prop}:∀ (ds es:List D) (xs ys:List V) (us ws:List Value) (i:Nat),Reps X.K H ds xs→Reps X.K H es ys→Vals xs us→Vals ys ws→ordDs ds es=true→A.units+depDs ds+1 < cLine→decide (ds.length < es.length)=z→Q (ltDs ds es) s →
  KatLex X.prog X.w A b z Q (us.zip ws) i s
 | [],es,xs,ys,us,ws,i,r1,r2,v1,v2,ho,hu,hz,h=>by
  have e1:=r1.length
  have e2:=v1.length
  have:us=[]:=List.length_eq_zero_iff.mp (by rw [← e2,← e1]; rfl)
  subst this
  rw [List.zip_nil_left]
  refine kat_nil ?_
  cases es with
  | nil=>unfold ltDs at h; rw [← hz]; exact h
  | cons e es=>unfold ltDs at h; rw [← hz]; simpa using h
 | d :: ds,[],xs,ys,us,ws,i,r1,r2,v1,v2,ho,hu,hz,h=>by
  have e1:=r2.length
  have e2:=v2.length
  have:ws=[]:=List.length_eq_zero_iff.mp (by rw [← e2,← e1]; rfl)
  subst this
  rw [List.zip_nil_right]
  refine kat_nil ?_
  unfold ltDs at h
  rw [← hz]
  simpa using h
 | d :: ds,e :: es,xs,ys,us,ws,i,r1,r2,v1,v2,ho,hu,hz,h=>by
  unfold Reps at r1 r2
  obtain ⟨x,xs,rfl,rx,r1⟩:=r1
  obtain ⟨y,ys,rfl,ry,r2⟩:=r2
  cases v1 with
  | cons ru v1 =>
  cases v2 with
  | cons rw' v2 =>
  rename_i u us w ws
  unfold ordDs at ho
  rw [Bool.and_eq_true] at ho
  have hd1:depD d≤depDs (d :: ds):=depD_mem (List.mem_cons_self ..)
  have hd2:depDs ds≤depDs (d :: ds):=by show _≤max (depD d) (depDs ds); lia
  show KatLex X.prog X.w A b z Q ((u,w) :: us.zip ws) i s
  refine kat_cons (eqAt_D I _ A d e x y u w (Nat.le_refl _) rx ry ru rw' (ord_cmp d e ho.1) (by lia) X.prog X.w _ _ ?_)
  unfold ltDs at h
  cases he:eqD d e with
  | true =>
   rw [he,if_pos rfl] at h
   refine kat_yes (lex_D I ds es xs ys us ws (i+1) r1 r2 v1 v2 ho.2 (by lia) ?_ h)
   rw [← hz,List.length_cons,List.length_cons]
   exact decide_eq_decide.mpr (by lia)
  | false =>
   rw [he,if_neg (by decide)] at h
   exact kat_no (oneLt_D I _ rx ry ru rw' ho.1 (by lia) h)
theorem keyLt_D (I:Inv X pins σ H s) {A:Around} (κ:SortKind) {ds es:List D} {v z:V} {u w:Value} {Q:Bool→Shared→Prop} (hd:Rep X.K H (.tup ds) v) (he:Rep X.K H (.tup es) z) (ru:RelV v u) (rw':RelV z w) (ho:ordDs ds es=true) (hu:A.units+depDs ds+2 < cLine) (h:Q (ltDs ds es) s) :
  wpAny (model X.prog X.w) A (keyLt' κ u w) Q E s:=by
 have hl:ltD (.tup ds) (.tup es)=ltDs ds es:=by unfold ltD; rfl
 have ho':ordD (.tup ds) (.tup es)=true:=by unfold ordD; exact ho
 have hdp:depD (.tup ds)=depDs ds+1:=by unfold depD; rfl
 have one:∀ c,wpAny (model X.prog X.w) A (oneLt' c u w) Q E s:=fun c=>oneLt_D I c hd he ru rw' ho' (by lia) (by rw [hl]; exact h)
 cases κ with
 | general=>exact one false
 | oneType=>exact one true
 | tuples b =>
  unfold Rep at hd he
  obtain ⟨a,xs,rfl,ha,r1⟩:=hd
  obtain ⟨c,ys,rfl,hb,r2⟩:=he
  cases ru
  cases rw'
  obtain ⟨its,v1,p1,_⟩:=I.tuple ha.sq
  obtain ⟨its2,v2,p2,_⟩:=I.tuple hb.sq
  obtain ⟨o1,q1,_,n1,y1⟩:=id p1
  obtain ⟨o2,q2,_,n2,y2⟩:=id p2
  refine kat_lt q1 y1 q2 y2 ?_
  refine lex_D I ds es xs ys _ _ 0 r1 r2 v1 v2 ho (by lia) ?_ h
  rw [r1.length,r2.length,v1.length,v2.length]
  simp
end
end L2
namespace L2
open PySem PySem.Spec PyProof.Rows PySem.W
section
variable {M:Model} {A:Around} {E:Value→Shared→Prop} {s:Shared}
theorem mapM_any {α β:Type} {f:α→Sem β} {P:β→Prop}:∀ (l:List α) {Q:List β→Shared→Prop},(∀ v∈l,∀ (Q':β→Shared→Prop),(∀ r,P r→Q' r s)→wpAny M A (f v) Q' E s)→(∀ rs,(∀ r∈rs,P r)→Q rs s)→wpAny M A (l.mapM f) Q E s
 | [],_,_,h=>by rw [List.mapM_nil]; exact wpAny_pure (h [] (by simp))
 | x :: l,Q,hf,h=>by
  rw [List.mapM_cons]
  refine wpAny_bind (hf x (List.mem_cons_self ..) _ fun r hr=>wpAny_bind (mapM_any l (fun v hv=>hf v (List.mem_cons_of_mem _ hv)) fun rs hrs=>wpAny_pure (h _ fun y hy=>?_)))
  rcases List.mem_cons.mp hy with rfl | hy
  ·exact hr
  ·exact hrs y hy
def TyOk (h:Heap) (u:Value):Prop:=∃ T,∀ M:Model,Looks M h (typeOf u) T
theorem oneType_any {vs:Array Value} {Q:Option Value→Shared→Prop} (ht:∀ u∈vs.toList,TyOk s.heap u) (h:∀ r,Q r s):wpAny M A (oneTypeOnly' vs) Q E s:=by
 rw [oneTypeOnly'_eq]
 obtain ⟨vs⟩:=vs
 rw [List.mapM_toArray,map_eq_pure_bind]
 refine wpAny_bind (wpAny_bind (mapM_any (P:=fun _=>True) vs (fun v hv Q' hq=>?_) fun rs _=>wpAny_pure ?_))
 ·obtain ⟨T,hT⟩:=ht v hv
  exact (hT M).here (hq T trivial)
 ·cases rs.toArray[0]? with
  | none=>exact wpAny_pure (h _)
  | some t=>exact wpAny_pure (h _)
theorem kind_any {vs:List Value} {Q:SortKind→Shared→Prop} (ht:∀ v∈vs,∃ (a:Addr) (o:Obj) (us:Array Value) (n:Nat),v=.ref a∧s.heap.get? a=some o∧o.cls=.type "tuple" ∧ o.data=.seq us n∧∀ f,us[0]?=some f→TyOk s.heap f) (h:∀ κ,Q κ s):wpAny M A (keyKind' vs.toArray) Q E s:=by
 have tr:∀ (a:Addr) (o:Obj),s.heap.get? a=some o→∀ M:Model,Looks M s.heap (typeOf (.ref a)) o.cls:=fun a o ho M=>(Looks.ld ho).andThen .now
 rw [keyKind'_eq,List.mapM_toArray,map_eq_pure_bind]
 refine wpAny_bind (wpAny_bind (mapM_any (P:=fun r=>∀ f,r=some f→TyOk s.heap f) vs (fun v hv Q' hq=>?_) fun rs hrs=>wpAny_pure ?_))
 ·obtain ⟨a,o,us,n,rfl,ho,hc,hd,hf⟩:=ht v hv
  rw [kas_first_eq]
  refine wpAny_bind ((tr a o ho M).here ?_)
  rw [hc,if_neg (by simp)]
  exact wpAny_bind (listItems_at ho hd (wpAny_pure (hq _ fun f e=>hf f e)))
 ·split
  ·refine wpAny_bind (wpAny_rule (wpAny_bind (oneType_any (fun u hu=>?_) fun r=>wpAny_pure (h _))))
   have hu':u∈rs.filterMap id:=by simpa using hu
   obtain ⟨r,hr,e⟩:=List.mem_filterMap.mp hu'
   exact hrs r hr u e
  ·split
   ·exact wpAny_pure (h _)
   ·refine wpAny_bind (oneType_any (fun u hu=>?_) fun r=>?_)
    ·obtain ⟨a,o,us,n,rfl,ho,_⟩:=ht u hu
     exact ⟨o.cls,tr a o ho⟩
    ·split <;> exact wpAny_pure (h _)
end
section
variable {K:PySem.W.Frag} {H:Hp}
theorem Reps.pick {ds:List D} {xs:List V} (r:Reps K H ds xs):∀ l:List Nat,(∀ i∈l,i < ds.length)→Reps K H (l.map fun i=>ds.getD i .non) (l.map fun i=>xs.getD i .non)
 | [],_=>.nil
 | i :: l,h=>by
  have hi:=h i (List.mem_cons_self ..)
  obtain ⟨x,hx,rx⟩:=r.at (List.getElem?_eq_getElem hi)
  refine .cons ?_ (r.pick l fun j hj=>h j (List.mem_cons_of_mem _ hj))
  have e1:ds.getD i .non=ds[i]:=by simp [List.getD_eq_getElem?_getD,hi]
  have e2:xs.getD i .non=x:=by simp [List.getD_eq_getElem?_getD,hx]
  show Rep K H (ds.getD i .non) (xs.getD i .non)
  rw [e1,e2]
  exact rx
theorem Vals.pick {xs:List V} {us:List Value} (r:Vals xs us):∀ l:List Nat,(∀ i∈l,i < xs.length)→Vals (l.map fun i=>xs.getD i .non) (l.map fun i=>us.getD i Value.none)
 | [],_=>.nil
 | i :: l,h=>by
  have hi:=h i (List.mem_cons_self ..)
  obtain ⟨u,hu,ru⟩:=r.get (List.getElem?_eq_getElem hi)
  refine .cons ?_ (Vals.pick r l fun j hj=>h j (List.mem_cons_of_mem _ hj))
  have e1:xs.getD i .non=xs[i]:=by simp [List.getD_eq_getElem?_getD,hi]
  have e2:us.getD i Value.none=u:=by simp [List.getD_eq_getElem?_getD,hu]
  show RelV (xs.getD i .non) (us.getD i Value.none)
  rw [e1,e2]
  exact ru
end
def keyish:D→Bool
 | .str _=>true
 | .tup _=>true
 | _=>false
structure SortD (ds:List D):Prop where
 tup:(∀ d∈ds,∃ es,d=.tup es∧depDs es≤20∧∀ x,es[0]?=some x→keyish x=true)∨∀ d∈ds,∃ z,d=.str z
 ord:∀ d∈ds,∀ e∈ds,ordD d e=true
 tr:∀ a∈ds,∀ b∈ds,∀ c∈ds,ltD a b=true→ltD b c=true→ltD a c=true
 as:∀ a∈ds,∀ b∈ds,ltD a b=true→ltD b a=false
 tot:∀ a∈ds,∀ b∈ds,a≠b→ltD a b=true∨ltD b a=true
 nd:ds.Nodup
theorem getD_mem {ds:List D} {i:Nat} (h:i < ds.length):ds.getD i .non∈ds:=by
 have e1:ds.getD i .non=ds[i]:=by simp [List.getD_eq_getElem?_getD,h]
 rw [e1]
 exact List.getElem_mem h
theorem SortD.ltOk {ds:List D} (S:SortD ds):LtOk ds.length fun i j=>ltD (ds.getD i .non) (ds.getD j .non) where
 tr:=fun a b c ha hb hc=>S.tr _ (getD_mem ha) _ (getD_mem hb) _ (getD_mem hc)
 as:=fun a b ha hb=>S.as _ (getD_mem ha) _ (getD_mem hb)
 tot:=fun a b ha hb ne=>S.tot _ (getD_mem ha) _ (getD_mem hb) fun e=>ne (by
  have e1:ds.getD a .non=ds[a]:=by simp [List.getD_eq_getElem?_getD,ha]
  have e2:ds.getD b .non=ds[b]:=by simp [List.getD_eq_getElem?_getD,hb]
  rw [e1,e2] at e
  exact (List.getElem_inj S.nd).mp e)
end L2
namespace L2
open PySem PySem.Spec PyProof.Rows PySem.W
theorem range_getD (vs:List Value):((List.range vs.length).map fun i=>vs.getD i Value.none)=vs:=by
 apply List.ext_getElem
 ·simp
 ·intro i h1 h2
  simp [List.getD_eq_getElem?_getD,h2]
section
variable {X:Cx} {pins:List (Addr × Obj)} {σ:St} {H:Hp} {s:Shared} {E:Value→Shared→Prop}
theorem run_D (I:Inv X pins σ H s) {A:Around} {ds:List D} {xs:List V} {vs:List Value} (r:Reps X.K H ds xs) (v:Vals xs vs) (S:SortD ds) (h2:2≤vs.length) (h64:vs.length < 64) (hu:A.units+30 < cLine) (κ:SortKind) (hκ:(∀ d∈ds,∃ z,d=.str z)→2≤ds.length→κ=oneType') {Q:SortSt→Shared→Prop}
  (h:∀ (st:SortSt) (q:Array Nat),q.Perm (List.range ds.length).toArray→SPr (fun i j=>ltD (ds.getD i .non) (ds.getD j .non)) q ds.length→(arrOf st).map (·.2)=List.toArray (q.toList.map fun i=>vs.getD i Value.none)→failedOf st=none→Q st s) :
  wpAny (model X.prog X.w) A ((sortRuns').run (SortSt.mk' κ (vs.toArray.zip vs.toArray) #[] 7 none)) (fun r s'=>Q r.2 s') E s:=by
 have hl:ds.length=vs.length:=r.length.trans v.length
 obtain ⟨ok,q,hq,hp,hs⟩:=sort_ok S.ltOk (by lia)
 refine kat_run (ks:=vs) (vs:=vs) (G:=fun p s'=>p=q∧s'=s) rfl h2 h64 (fun p st s' hz ha hf hg=>?_) ?_
 ·obtain ⟨rfl,rfl⟩:=hg
  exact h st p hp hs (kat_snds rfl ha) hf
 ·rw [← hl]
  refine kas_run (n:=ds.length) (lt:=fun i j=>ltD (ds.getD i .non) (ds.getD j .non)) (P:=fun s'=>s'=s) (fun i j C s' hi hj hs' hC=>?_) _ s ok rfl fun s' hs'=>⟨hq,hs'⟩
  subst hs'
  obtain ⟨x,hx,rx⟩:=r.at (List.getElem?_eq_getElem hi)
  obtain ⟨y,hy,ry⟩:=r.at (List.getElem?_eq_getElem hj)
  obtain ⟨u,eu,ru⟩:=v.get hx
  obtain ⟨w,ew,rw'⟩:=v.get hy
  have e1:ds.getD i .non=ds[i]:=by simp [List.getD_eq_getElem?_getD,hi]
  have e2:ds.getD j .non=ds[j]:=by simp [List.getD_eq_getElem?_getD,hj]
  have e3:vs.getD i Value.none=u:=by simp [List.getD_eq_getElem?_getD,eu]
  have e4:vs.getD j Value.none=w:=by simp [List.getD_eq_getElem?_getD,ew]
  have m1:ds[i]∈ds:=List.getElem_mem hi
  have m2:ds[j]∈ds:=List.getElem_mem hj
  have ho:=S.ord _ m1 _ m2
  have hC':=hC s' rfl
  rw [e1,e2] at hC'
  show wpAny (model X.prog X.w) A (keyLt' κ (vs.getD i Value.none) (vs.getD j Value.none)) C (fun _ _=>False) s'
  rw [e3,e4]
  rcases S.tup with T | T
  ·obtain ⟨es,ee,he,_⟩:=T _ m1
   obtain ⟨fs,ef,_,_⟩:=T _ m2
   rw [ee,ef] at hC'
   rw [ee,ef] at ho
   rw [ee] at rx
   rw [ef] at ry
   have hlt:ltD (.tup es) (.tup fs)=ltDs es fs:=by unfold ltD; rfl
   have hoo:ordDs es fs=true:=by unfold ordD at ho; exact ho
   rw [hlt] at hC'
   exact keyLt_D I κ rx ry ru rw' hoo (by lia) hC'
  ·rw [hκ T (by lia),keyLt'_oneType]
   exact oneLt_D I true rx ry ru rw' ho (by obtain ⟨z,ez⟩:=T _ m1; rw [ez]; unfold depD; lia) hC'
theorem lsort_D {A:Around} {a:Addr} {n:Nat} {ds:List D} {xs:List V} {vs:List Value} {P:Fin→Shared→Prop} (ho:s.heap.get? a=some (seqObj "list" vs.toArray n))
  (I:∀ h',(∀ b o,b≠a→s.heap.get? b=some o→h'.get? b=some o)→Inv X pins σ H { s with heap:=h' }) (r:Reps X.K H ds xs) (v:Vals xs vs) (S:SortD ds) (h64:vs.length < 64) (hu:A.units+30 < cLine)
  (h:∀ (q:List Nat) (h':Heap) (m:Nat),q.Perm (List.range ds.length)→q.Pairwise (fun i j=>ltD (ds.getD i .non) (ds.getD j .non)=true)→(∀ b o,b≠a→s.heap.get? b=some o→h'.get? b=some o)→h'.get? a=some (seqObj "list" (q.map fun i=>vs.getD i Value.none).toArray m) →
   P (.done (.ret .none)) { s with heap:=h' }):wpAny (model X.prog X.w) A (Builtin.«list.sort» ⟨[.ref a],[]⟩) P E s:=by
 have hl:ds.length=vs.length:=r.length.trans v.length
 have small:∀ k,k < 64→k≤sizeLine:=fun k hk=>Nat.le_trans (Nat.le_of_lt hk) (by decide)
 rw [list_sort_plain]
 have ha:a < s.heap.objs.size:=Heap.lt_size ho
 have hz:vs.toArray.size≤sizeLine:=by rw [List.size_toArray]; exact small _ h64
 refine wpAny_bind (listItems_at ho rfl (wpAny_bind (listUpdate_at ho rfl ?_ hz (Nat.zero_le _))))
 generalize e1:s.heap.update a (Obj.mapSeq fun _=>#[])=h1
 obtain ⟨m1,ho1⟩:∃ m1,h1.get? a=some (seqObj "list" #[] m1):=⟨_,by rw [← e1]; exact get?_update_seq ho (fun _=>#[])⟩
 have k1:∀ b o,b≠a→s.heap.get? b=some o→h1.get? b=some o:=fun b o hb hq=>by
  rw [← e1,Heap.get?_update_ne _ _ _ _ hb]
  exact hq
 refine wpAny_bind (seqEpoch_at (s:={ s with heap:=h1 }) ho1 rfl (wpAny_bind (wpAny_newTuple ?_ (small _ h64))))
 generalize e2:h1.push { cls:=.type "tuple",data:=.seq vs.toArray }=h2
 have k2:∀ b o,h1.get? b=some o→h2.get? b=some o:=fun b o hq=>by rw [← e2]; exact Heap.get?_push_of_some _ hq
 refine wpAny_bind (wpAny_newList ?_ (Nat.zero_le _))
 generalize e3:Heap.push _ _=h3
 have k3:∀ b o,h2.get? b=some o→h3.get? b=some o:=fun b o hq=>by rw [← e3]; exact Heap.get?_push_of_some _ hq
 have ho3:h3.get? a=some (seqObj "list" #[] m1):=k3 _ _ (k2 _ _ ho1)
 have kk:∀ b o,b≠a→s.heap.get? b=some o→h3.get? b=some o:=fun b o hb hq=>k3 _ _ (k2 _ _ (k1 b o hb hq))
 have I3:Inv X pins σ H { s with heap:=h3 }:=I h3 kk
 refine wpAny_holding ?_
 show wpAny (model X.prog X.w) A _ P E { s with heap:=h3 }
 have fin:∀ (q:List Nat) (out:Array Value),q.Perm (List.range ds.length)→q.Pairwise (fun i j=>ltD (ds.getD i .non) (ds.getD j .non)=true)→out=(q.map fun i=>vs.getD i Value.none).toArray →
   P (.done (.ret .none)) { s with heap:=h3.update a (Obj.mapSeq fun _=>out) }:=fun q out hq hp e=>by
  subst e
  refine h q _ _ hq hp (fun b o hb hs=>?_) (get?_update_seq ho3 (fun _=>_))
  rw [Heap.get?_update_ne _ _ _ _ hb]
  exact kk b o hb hs
 dsimp only
 by_cases h2':vs.toArray.size < 2
 ·rw [if_pos h2']
  refine wpAny_bind (wpAny_pure ?_)
  rw [if_pos h2',StateT.run_pure]
  refine wpAny_bind (wpAny_pure ?_)
  dsimp only
  refine wpAny_bind (seqEpoch_at (s:={ s with heap:=h3 }) ho3 rfl (wpAny_bind (listUpdate_at (s:={ s with heap:=h3 }) ho3 rfl ?_ (Nat.zero_le _) ?_)))
  ·simp only [bne_self_eq_false,Bool.false_eq_true,if_false]
   refine wpAny_pure (fin (List.range ds.length) _ (List.Perm.refl _) ?_ ?_)
   ·rw [List.size_toArray] at h2'
    rw [List.pairwise_iff_getElem]
    intro i j hi hj hij
    simp at hi hj
    lia
   ·apply Array.toList_inj.mp
    show (Array.map (fun x:Value × Value=>x.2) (vs.toArray.zip vs.toArray)).toList=_
    rw [hl,range_getD]
    simp only [Array.toList_map,Array.toList_zip]
    exact List.map_snd_zip (Nat.le_refl _)
  ·show (Array.map (fun x:Value × Value=>x.2) (vs.toArray.zip vs.toArray)).size≤_
   simp
   have:=small _ h64
   lia
 ·rw [if_neg h2']
  have h2v:2≤vs.length:=by rw [List.size_toArray] at h2'; lia
  have kind:∀ Q:SortKind→Shared→Prop,(∀ κ,((∀ d∈ds,∃ z,d=.str z)→2≤ds.length→κ=oneType')→Q κ { s with heap:=h3 })→wpAny (model X.prog X.w) A (keyKind' vs.toArray) Q E { s with heap:=h3 }:=fun Q hQ=>by
   rcases S.tup with T | T
   case inr =>
    refine kas_kind (T:=.type "str") (s:={ s with heap:=h3 }) h2v (fun u hu=>?_) (by decide) (by decide) (hQ _ fun _ _=>rfl)
    obtain ⟨i,hi,rfl⟩:=List.mem_iff_getElem.mp hu
    have hi2:i < ds.length:=by lia
    obtain ⟨x,hx,rx⟩:=r.at (List.getElem?_eq_getElem hi2)
    obtain ⟨u',eu,ru⟩:=v.get hx
    rw [List.getElem?_eq_getElem hi] at eu
    cases eu
    obtain ⟨z,ez⟩:=T _ (List.getElem_mem hi2)
    rw [ez] at rx
    unfold Rep at rx
    subst rx
    obtain ⟨t,et⟩:=ru
    rw [et]
    exact .now
   refine kind_any (s:={ s with heap:=h3 }) (fun u hu=>?_) fun κ=>hQ κ fun hstr hlen=>?b
   case b =>
    have m0:ds[0]'(by lia)∈ds:=List.getElem_mem _
    obtain ⟨es,ee,_⟩:=T _ m0
    obtain ⟨z,ez⟩:=hstr _ m0
    rw [ee] at ez
    cases ez
   obtain ⟨i,hi,rfl⟩:=List.mem_iff_getElem.mp hu
   have hi2:i < ds.length:=by lia
   obtain ⟨x,hx,rx⟩:=r.at (List.getElem?_eq_getElem hi2)
   obtain ⟨u',eu,ru⟩:=v.get hx
   rw [List.getElem?_eq_getElem hi] at eu
   cases eu
   obtain ⟨es,ee,he,hk⟩:=T _ (List.getElem_mem hi2)
   rw [ee] at rx
   unfold Rep at rx
   obtain ⟨b,ys,rfl,hb,r1⟩:=rx
   obtain ⟨its,v1,p1,_⟩:=I3.tuple hb.sq
   obtain ⟨o1,q1,c1,n1,y1⟩:=id p1
   refine ⟨b,o1,its.toArray,n1,ru,q1,c1,y1,fun f hf=>?_⟩
   have hf':its[0]?=some f:=by simpa using hf
   have h0:0 < es.length:=by
    rw [r1.length,v1.length]
    exact (List.getElem?_eq_some_iff.mp hf').1
   obtain ⟨y,hy,ry⟩:=r1.at (List.getElem?_eq_getElem h0)
   obtain ⟨f',ef,rf⟩:=v1.get hy
   rw [hf'] at ef
   cases ef
   have hkey:=hk _ (List.getElem?_eq_getElem h0)
   generalize es[0]=d0 at hkey ry
   cases d0 with
   | str z =>
    unfold Rep at ry
    subst ry
    obtain ⟨t,rfl⟩:=rf
    exact ⟨.type "str",fun M=>.now⟩
   | tup gs =>
    unfold Rep at ry
    obtain ⟨c,zs,rfl,hc,_⟩:=ry
    cases rf
    obtain ⟨its3,_,p3,_⟩:=I3.tuple hc.sq
    obtain ⟨o3,q3,_⟩:=id p3
    exact ⟨o3.cls,fun M=>(Looks.ld q3).andThen .now⟩
   | _=>cases hkey
  refine wpAny_bind (kind _ fun κ hκ=>?_)
  ·rw [if_neg h2']
   refine wpAny_bind (wpAny_mono (run_D I3 r v S h2v h64 hu κ hκ (Q:=fun st s'=>s'={ s with heap:=h3 }∧∃ q:Array Nat,q.Perm (List.range ds.length).toArray∧SPr (fun i j=>ltD (ds.getD i .non) (ds.getD j .non)) q ds.length∧(arrOf st).map (·.2)=List.toArray (q.toList.map fun i=>vs.getD i Value.none)∧failedOf st=none)
    fun st q a1 a2 a3 a4=>⟨rfl,q,a1,a2,a3,a4⟩) ?_ fun _ _ z=>z)
   rintro ⟨⟨⟩,st⟩ s' ⟨rfl,q,a1,a2,a3,a4⟩
   have hql:q.toList.length=ds.length:=by
    have:=a1.size_eq
    simpa using this
   dsimp only
   refine wpAny_bind (seqEpoch_at (s:={ s with heap:=h3 }) ho3 rfl (wpAny_bind (listUpdate_at (s:={ s with heap:=h3 }) ho3 rfl ?_ (Nat.zero_le _) ?_)))
   ·rw [a4]
    simp only [bne_self_eq_false,Bool.false_eq_true,if_false]
    refine wpAny_pure (fin q.toList _ ?_ ?_ a3)
    ·have:=a1.toList
     simpa using this
    ·rw [List.pairwise_iff_getElem]
     intro i j hi hj hij
     have:=a2 i j hij (by lia)
     have g1:q.getD i 0=q.toList[i]:=by rw [getD_eq]; simp [Array.getElem?_eq_getElem (show i < q.size by simpa using hi)]
     have g2:q.getD j 0=q.toList[j]:=by rw [getD_eq]; simp [Array.getElem?_eq_getElem (show j < q.size by simpa using hj)]
     rw [g1,g2] at this
     exact this
   ·show ((arrOf st).map (·.2)).size≤_
    rw [a3]
    simp
    have:=small _ h64
    have:q.size=ds.length:=by simpa using hql
    lia
theorem call_sorted (hu:X.A.units+60 < cLine):CallR X (.builtin "sorted") (fun xs H Q=>∃ p ys ds,xs=[.ref p]∧SqL X.K H p ys∧Reps X.K H ds ys∧SortD ds∧ds.length < 64∧∀ l (q:List Nat),H l=none→q.Perm (List.range ds.length)→q.Pairwise (fun i j=>ltD (ds.getD i .non) (ds.getD j .non)=true)→Q (.ref l) (upd H l (.lst (q.map fun i=>ys.getD i .non)))):=by
 intro pins s σ H xs us Q I rx h
 obtain ⟨p,ys,ds,rfl,hp,r,S,h64,hq⟩:=h
 obtain ⟨u,rfl,ru⟩:=vals1 rx
 cases ru
 obtain ⟨its,v,pl,hz⟩:=I.list hp
 have hl:ds.length=its.length:=r.length.trans v.length
 refine Calls.call_function_entry kind_sorted plain_sorted entry_sorted (args_sorted1 _) ?_
 unfold Builtin.«sorted»
 refine wpAny_bind (m:=checkCount "sorted" 1 1 _) (wpAny_pure ?_)
 have hz':its.length≤sizeLine:=by rw [← v.length]; exact hz
 refine wpAny_bind (collect_list pl.isList (wpAny_bind (wpAny_newList ?_ hz')) hz')
 generalize e1:(s.heap.push (seqObj "list" #[] 0)).update s.heap.objs.size _=h1
 have n1:h1.objs.size=s.heap.objs.size+1:=by rw [← e1,Heap.size_update,size_push']
 have k1:∀ b o,s.heap.get? b=some o→h1.get? b=some o:=fun b o q=>by
  have lt:b < s.heap.objs.size:=Heap.lt_size q
  rw [← e1,Heap.get?_update_ne _ _ _ _ (Nat.ne_of_lt lt)]
  exact Heap.get?_push_of_some _ q
 generalize e2:Heap.push _ _=h2
 have hD:h2.get? h1.objs.size=some (seqObj "list" its.toArray 0):=by rw [← e2]; exact Heap.get?_push_size _ rfl
 have k2:∀ b o,s.heap.get? b=some o→h2.get? b=some o:=fun b o q=>by rw [← e2]; exact Heap.get?_push_of_some _ (k1 b o q)
 have un:X.A.in1.units=X.A.units+1:=rfl
 have un2:X.A.in1.in1.units=X.A.units+2:=rfl
 show wpAny (model X.prog X.w) X.A.in1 (do let _ ← holding [Value.ref h1.objs.size] (call (.builtin "list.sort") [.ref h1.objs.size]); ret (.ref h1.objs.size)) _ X.xe { s with heap:=h2 }
 refine wpAny_bind (wpAny_holding (wpAny_call_entry (s:={ s with heap:=h2 }) slot_list_sort ⟨_,hD,rfl⟩ entry_list_sort ?_ (args_list_sort _)))
 refine lsort_D (s:={ s with heap:=h2 }) (H:=H) (σ:=σ) (pins:=pins) (X:=X) hD (fun h' kp=>?_) r v S (by lia) (by lia) fun q h' m hqp hqs kp he=>⟨_,rfl,?_⟩
 ·refine I.kept (t':=s.toks) fun b o e=>?_
  refine kp b o (fun z=>?_) (k2 b o e)
  have lt:b < s.heap.objs.size:=Heap.lt_size e
  rw [z,n1] at lt
  exact Nat.not_succ_le_self _ (Nat.le_of_lt lt)
 ·refine wpAny_pure ⟨_,rfl,.ref h1.objs.size,upd H h1.objs.size (.lst (q.map fun i=>ys.getD i .non)),?_,rfl,hq _ q (I.hok.fresh (by lia)) hqp hqs⟩
  have hqm:∀ i∈q,i < ys.length:=fun i hi=>by
   have:=hqp.mem_iff.mp hi
   rw [← r.length]
   simpa using this
  refine I.laid (t':=s.toks) (fun b o e=>?_) (by lia) ⟨?_,_,m,v.pick q hqm,he⟩
  ·refine kp b o (fun z=>?_) (k2 b o e)
   have lt:b < s.heap.objs.size:=Heap.lt_size e
   rw [z,n1] at lt
   exact Nat.not_succ_le_self _ (Nat.le_of_lt lt)
  ·have:=hqp.length_eq
   rw [List.length_map,this,List.length_range]
   have:=r.length
   lia
end
end L2
namespace L2
open PySem PySem.Spec PyProof.Rows
section
variable {X:Cx} {EX:St→XK} {K:PySem.W.Frag} {B H H0:Hp} {e:Expr} {es:List Expr} {tA:TVA} {x y:Str} {p pos:Pos}
def vSorted (rx:R) (Q:R→Prop):Prop:=match rx.d with
 | .lst ds=>SortD ds∧ds.length < 64∧∀ ds',ds'.Perm ds→ds'.Pairwise (fun a b=>ltD a b=true)→Q (.own (.lst ds'))
 | _=>False
theorem vf_sorted (hu64:X.A.units+64 < cLine):VF X (.builtin "sorted") vSorted:=by
 have hu:X.A.units+60 < cLine:=by lia
 refine ⟨_,call_sorted hu,fun B H x rx Q Qd s px h k=>?_⟩
 unfold vSorted at h
 split at h
 ·rename_i ds e1
  obtain ⟨hS,hl,hq⟩:=h
  obtain ⟨a,xs,rfl,h1,r1⟩:=px.lst s e1
  refine ⟨a,xs,ds,rfl,SqL.of h1,r1.same s,hS,hl,fun l q hn hp hs=>?_⟩
  have hm:∀ i∈q,i < ds.length:=fun i hi=>by simpa using hp.mem_iff.mp hi
  have hr:((List.range ds.length).map fun i=>ds.getD i .non)=ds:=by
   apply List.ext_getElem
   ·simp
   ·intro i h1 h2
    simp [List.getD_eq_getElem?_getD,h2]
  refine k (.own (.lst (q.map fun i=>ds.getD i .non))) _ B _ (.grow s (same_upd hn _)) ⟨l,rfl,hn,s.free hn,own_newL (r1.pick q hm)⟩ (hq _ ?_ ?_)
  ·have:=hp.map fun i=>ds.getD i .non
   rw [hr] at this
   exact this
  ·rw [List.pairwise_map]
   exact hs
 ·exact h.elim
def scalR (r:R) (Q:R→Prop):Prop:=match r with
 | .val d=>match dV d with
  | some _=>Q (.val d)
  | none=>False
 | _=>False
def vCalB (g:DP) (i:Nat) (tA:TVA):TV:=fun τ Q=>match τ[i]? with
 | some (some (.own d))=>tA τ fun a=>exA a (fun _=>False) fun ds=>g (d :: ds) fun r=>scalR r Q
 | _=>False
theorem ve_calB {k:Nat} {ps:List Str} {g:DP} {i:Nat} {p2:Pos} (C:Cal X.prog X.w X.K X.mg X.base k x ps (spOf X.K g)) (hr:Room k X.A) (hg:Gl X x) (ha:VA X EX es tA) (hN:X.N[i]?=some y:=by rfl) (hv:Vis X.env.scope y:=by first | exact Or.inl rfl | exact Or.inr (Or.inl rfl) | exact Or.inr (Or.inr rfl))
  (hd:(y == ("__debug__" : Str))=false:=by decide) (hcd:(y == ("__classdict__" : Str))=false:=by decide) (hp:(Expr.Name y p2 :: es).all plainE=true:=by rfl) (hdb:(x == ("__debug__" : Str))=false:=by decide) :
  VE X EX (.Call (.Name x p) (.Name y p2 :: es) [] pos) (vCalB g i tA) :=
 let ⟨_,a1,a2⟩:=ha.u; ⟨_,qe_cal C hr hg (qac (qv i hN hv hd hcd) a1 rfl) hp hdb,fun H0 B H τ σ Q Qd s S h xc kk=>by
  unfold vCalB at h
  split at h
  ·rename_i d e1
   obtain ⟨ad,e2,_,hb,ow⟩:=S.own i d e1
   refine ⟨.ref ad,e2,a2 H0 B H τ σ _ _ s S h (xno fun _ q=>q) fun ds vs B1 H1 p1 q1 h1=>?_⟩
   have ow1:OwnAt X.K B1 H1 d ad:=ow.step p1.b (p1.h.at ow.some)
   have hb1:B1 ad=none:=p1.keep hb ow.some ow.nt
   obtain ⟨o,eo,rp⟩:=ow1.pub hb1
   refine ⟨d :: ds,upd B1 ad o,_,same_updL p1.s eo,?_,h1,fun n C B' H' hq _ _=>?_,fun r v B2 H2 hq p2 q2=>?_⟩
   ·rw [List.append_nil]
    exact .cons rp (q1.same (same_upd hb1 _))
   ·exact (show False from hq).elim
   ·unfold scalR at hq
    split at hq
    ·rename_i d'
     split at hq
     ·rename_i z ez
      have:=(show Pk X.K B2 H2 (.val d') v from q2).scal ez
      subst this
      exact kk (.val d') _ B1 H2 (p1.trans (.grow p1.s p2.h)) (repV ez) hq
     ·exact hq.elim
    ·exact hq.elim
  ·exact h.elim⟩
end
def keyW (w:List Str):List (List Nat):=w.map (·.cps.toList)
theorem keyW_inj:∀ {a b:List Str},keyW a=keyW b→a=b
 | [],[],_=>rfl
 | [],_ :: _,h=>by cases h
 | _ :: _,[],h=>by cases h
 | x :: a,y :: b,h=>by
  injection h with h1 h2
  rw [str_ext h1,keyW_inj h2]
theorem ltDs_way:∀ a b:List Str,ltDs (a.map D.str) (b.map D.str)=decide (keyW a < keyW b)
 | [],[]=>by unfold ltDs; simp [keyW]
 | [],y :: b=>by
  show ltDs [] (.str y :: b.map D.str)=_
  unfold ltDs
  simp [keyW]
 | x :: a,[]=>by
  show ltDs (.str x :: a.map D.str) []=_
  unfold ltDs
  simp [keyW]
 | x :: a,y :: b=>by
  show ltDs (.str x :: a.map D.str) (.str y :: b.map D.str)=decide (x.cps.toList :: keyW a < y.cps.toList :: keyW b)
  unfold ltDs
  rw [ltDs_way a b]
  by_cases e:x=y
  ·subst e
   rw [if_pos (eqD_refl _)]
   exact decide_eq_decide.mpr (by rw [List.cons_lt_cons_iff]; simp [List.lt_irrefl])
  ·rw [if_neg (fun z=>e (D.str.inj (eqD_eq z)))]
   unfold ltD
   refine decide_eq_decide.mpr ?_
   rw [List.cons_lt_cons_iff]
   constructor
   ·exact .inl
   ·rintro (z | ⟨z,_⟩)
    ·exact z
    ·exact absurd (str_ext z) e
theorem keyW_tr {a b c:List (List Nat)} (h1:a < b) (h2:b < c):a < c:=List.lt_trans h1 h2
theorem keyW_as {a b:List (List Nat)} (h1:a < b):¬ b < a:=fun h2=>List.lt_irrefl a (List.lt_trans h1 h2)
theorem keyW_tot (a b:List (List Nat)) (h:a≠b):a < b∨b < a:=by
 by_cases h1:a < b
 ·exact .inl h1
 ·by_cases h2:b < a
  ·exact .inr h2
  ·exact absurd (List.le_antisymm (List.not_lt.mp h2) (List.not_lt.mp h1)) h
def ltW (a b:List Str):Bool:=decide (keyW a < keyW b)
theorem ltD_way (a b:List Str):ltD (wayD a) (wayD b)=ltW a b:=by
 show ltD (.tup (a.map D.str)) (.tup (b.map D.str))=_
 unfold ltD
 exact ltDs_way a b
theorem ltW_tr {a b c:List Str} (h1:ltW a b=true) (h2:ltW b c=true):ltW a c=true:=decide_eq_true (keyW_tr (of_decide_eq_true h1) (of_decide_eq_true h2))
theorem ltW_as {a b:List Str} (h1:ltW a b=true):ltW b a=false:=decide_eq_false (keyW_as (of_decide_eq_true h1))
theorem ltW_tot {a b:List Str} (h:a≠b):ltW a b=true∨ltW b a=true:=(keyW_tot _ _ fun e=>h (keyW_inj e)).imp decide_eq_true decide_eq_true
theorem ord_strs:∀ a b:List Str,ordDs (a.map D.str) (b.map D.str)=true
 | [],_=>by
  show ordDs [] _=true
  unfold ordDs
  rfl
 | _ :: _,[]=>by
  show ordDs (_ :: _) []=true
  unfold ordDs
  rfl
 | x :: a,y :: b=>by
  show ordDs (.str x :: a.map D.str) (.str y :: b.map D.str)=true
  unfold ordDs
  rw [ord_strs a b]
  unfold ordD
  rfl
theorem dep_way (a:List Str):depDs (a.map D.str)=0:=by
 induction a with
 | nil=>rfl
 | cons x a ih =>
  show max (depD (.str x)) (depDs (a.map D.str))=0
  rw [ih]
  rfl
theorem wayD_inj {a b:List Str} (h:wayD a=wayD b):a=b:=by
 have h':a.map D.str=b.map D.str:=D.tup.inj h
 exact (map_str_iff _ _).mp h'
theorem sortD_ways {ws:List (List Str)} (nd:ws.Nodup):SortD (ws.map wayD) where
 tup:=.inl fun d hd=>by
  obtain ⟨w,_,rfl⟩:=List.mem_map.mp hd
  refine ⟨w.map D.str,rfl,by rw [dep_way]; lia,fun x hx=>?_⟩
  rw [List.getElem?_map] at hx
  obtain ⟨z,_,rfl⟩:=Option.map_eq_some_iff.mp hx
  rfl
 ord:=fun d hd e he=>by
  obtain ⟨a,_,rfl⟩:=List.mem_map.mp hd
  obtain ⟨b,_,rfl⟩:=List.mem_map.mp he
  show ordD (.tup _) (.tup _)=true
  unfold ordD
  exact ord_strs a b
 tr:=fun d hd e he f hf=>by
  obtain ⟨a,_,rfl⟩:=List.mem_map.mp hd
  obtain ⟨b,_,rfl⟩:=List.mem_map.mp he
  obtain ⟨c,_,rfl⟩:=List.mem_map.mp hf
  rw [ltD_way,ltD_way,ltD_way]
  exact ltW_tr
 as:=fun d hd e he=>by
  obtain ⟨a,_,rfl⟩:=List.mem_map.mp hd
  obtain ⟨b,_,rfl⟩:=List.mem_map.mp he
  rw [ltD_way,ltD_way]
  exact ltW_as
 tot:=fun d hd e he ne=>by
  obtain ⟨a,_,rfl⟩:=List.mem_map.mp hd
  obtain ⟨b,_,rfl⟩:=List.mem_map.mp he
  rw [ltD_way,ltD_way]
  exact ltW_tot fun z=>ne (by rw [z])
 nd:=by
  rw [List.nodup_iff_pairwise_ne] at nd ⊢
  rw [List.pairwise_map]
  exact nd.imp fun h z=>h (wayD_inj z)
theorem sorted_one {α:Type} {lt:α→α→Bool} (as:∀ a b,lt a b=true→lt b a=false):∀ {xs ys:List α},xs.Perm ys→xs.Pairwise (fun a b=>lt a b=true)→ys.Pairwise (fun a b=>lt a b=true)→xs=ys
 | [],ys,hp,_,_=>(List.nil_perm.mp hp).symm ▸ rfl
 | x :: xs,[],hp,_,_=>by cases hp.length_eq
 | x :: xs,y :: ys,hp,hx,hy=>by
  rw [List.pairwise_cons] at hx hy
  have e:x=y:=by
   have m1:x∈y :: ys:=hp.mem_iff.mp (List.mem_cons_self ..)
   have m2:y∈x :: xs:=hp.mem_iff.mpr (List.mem_cons_self ..)
   rcases List.mem_cons.mp m1 with z | z
   ·exact z
   rcases List.mem_cons.mp m2 with w | w
   ·exact w.symm
   have l1:=hx.1 y w
   have l2:=hy.1 x z
   rw [as _ _ l1] at l2
   cases l2
  subst e
  rw [sorted_one as (List.perm_cons x |>.mp hp) hx.2 hy.2]
end L2
namespace L2
open PySem PySem.Spec PyProof.Rows
section
variable {X:Cx} {pos:Pos} {k v:Expr} {tk tv:TE}
end
section
variable {X:Cx} {EX:St→XK} {pos:Pos} {k v:Expr} {tk tv:TV}
end
end L2
namespace L2
open PySem PySem.Spec PyProof.Rows
theorem Room.dict {k:Nat} {A:Around} (r:Room k A):A.units+64 < cLine:=by
 have:=r.un
 lia
end L2
namespace L2
open PySem PySem.Spec PyProof.Rows
section
variable {X:Cx} {EX:St→XK} {a:Expr} {ta:TV} {p pos:Pos}
end
end L2
namespace L2
open PySem PySem.Spec PyProof.Rows
theorem eqW (a b:List Str):eqD (.tup (a.map D.str)) (.tup (b.map D.str))=decide (a=b):=bool_iff (by
  rw [eqD_iff,decide_eq_true_eq]
  exact ⟨fun z=>wayD_inj z,fun z=>by rw [z]⟩)
theorem cmpW (a b:List Str):cmpD (.tup (a.map D.str)) (.tup (b.map D.str))=true:=by
 unfold cmpD
 exact cmp_strs _ _
theorem depW (a:List Str):depD (.tup (a.map D.str))≤50:=by
 unfold depD
 rw [dep_strs]
 decide
def unW:D→List Str
 | .tup es=>(strsOf es).getD []
 | _=>[]
theorem unW_way (w:List Str):unW (wayD w)=w:=by
 show (strsOf (w.map D.str)).getD []=w
 rw [strsOf_map]
 rfl
theorem ways_back {ds:List D} {ws:List (List Str)} (hp:ds.Perm (ws.map wayD)) (hs:ds.Pairwise (fun a b=>ltD a b=true)):∃ vs:List (List Str),ds=vs.map wayD∧vs.Perm ws∧vs.Pairwise (fun a b=>ltW a b=true):=by
 have e:ds=(ds.map unW).map wayD:=by
  rw [List.map_map]
  refine (List.map_id _).symm.trans (List.map_congr_left fun d hd=>?_)
  obtain ⟨w,_,rfl⟩:=List.mem_map.mp (hp.mem_iff.mp hd)
  show wayD w=wayD (unW (wayD w))
  rw [unW_way]
 refine ⟨ds.map unW,e,?_,?_⟩
 ·have:=hp.map unW
  rw [List.map_map] at this
  exact this.trans (List.Perm.of_eq ((List.map_congr_left fun w _=>unW_way w).trans (List.map_id _)))
 ·rw [e,List.pairwise_map] at hs
  exact hs.imp fun h=>by rw [← ltD_way]; exact h
abbrev Row:=List Str × Str × Str
def rowD (r:Row):D:=.tup [wayD r.1,.str r.2.1,.str r.2.2]
def unR:D→Row
 | .tup [w,.str m,.str t]=>(unW w,m,t)
 | _=>([],"","")
theorem unR_row (r:Row):unR (rowD r)=r:=by
 show (unW (wayD r.1),r.2.1,r.2.2)=r
 rw [unW_way]
theorem rowD_inj {a b:Row} (h:rowD a=rowD b):a=b:=by rw [← unR_row a,← unR_row b,h]
theorem cmpR (a b:Row):cmpD (rowD a) (rowD b)=true:=by
 show cmpD (.tup [.tup (a.1.map D.str),.str a.2.1,.str a.2.2]) (.tup [.tup (b.1.map D.str),.str b.2.1,.str b.2.2])=true
 have h:=cmpW a.1 b.1
 unfold cmpD at h ⊢
 simp only [cmpDs,cmpD,h,cmp_str,Bool.and_self,Bool.true_and]
theorem dep_row (a:Row):depD (rowD a)=1+0∨depD (rowD a)≤20:=by
 right
 show depD (.tup [.tup (a.1.map D.str),.str a.2.1,.str a.2.2])≤20
 unfold depD
 simp only [depDs,depD,dep_strs]
 decide
theorem depR (a:Row):depD (rowD a)≤20:=by
 rcases dep_row a with h | h
 ·lia
 ·exact h
theorem eqR (a b:Row):eqD (rowD a) (rowD b)=decide (a=b):=bool_iff (by
  rw [eqD_iff,decide_eq_true_eq]
  exact ⟨rowD_inj,fun z=>by rw [z]⟩)
theorem nodup_one {rs:List Row} (nd:(rs.map (·.1)).Nodup) {a b:Row} (ha:a∈rs) (hb:b∈rs) (h:a.1=b.1):a=b:=by
 induction rs with
 | nil=>cases ha
 | cons r rs ih =>
  rw [List.map_cons,List.nodup_cons] at nd
  rcases List.mem_cons.mp ha with ea | ha2
  ·rcases List.mem_cons.mp hb with eb | hb2
   ·rw [ea,eb]
   ·exact absurd (show r.1∈rs.map (·.1) from List.mem_map.mpr ⟨b,hb2,by rw [← h,ea]⟩) nd.1
  ·rcases List.mem_cons.mp hb with eb | hb2
   ·exact absurd (show r.1∈rs.map (·.1) from List.mem_map.mpr ⟨a,ha2,by rw [h,eb]⟩) nd.1
   ·exact ih nd.2 ha2 hb2
abbrev RSorted (rs:List Row):Prop:=rs.Pairwise (fun a b=>ltW a.1 b.1=true)
theorem rsorted_nd {rs:List Row} (h:RSorted rs):(rs.map (·.1)).Nodup:=by
 rw [List.nodup_iff_pairwise_ne,List.pairwise_map]
 exact h.imp fun {a b} q z=>by
  rw [z] at q
  have:=ltW_as q
  rw [q] at this
  cases this
theorem rsorted_one {rs ts:List Row} (hp:rs.Perm ts) (h1:RSorted rs) (h2:RSorted ts):rs=ts:=sorted_one (lt:=fun a b:Row=>ltW a.1 b.1) (fun _ _=>ltW_as) hp h1 h2
def rowsL (rs:List Row):D:=.lst (rs.map rowD)
theorem cmpRs:∀ rs ts:List Row,cmpDs (rs.map rowD) (ts.map rowD)=true
 | [],_=>by cases ‹List Row› <;> rfl
 | _ :: _,[]=>rfl
 | a :: rs,b :: ts=>by
  show cmpDs (rowD a :: rs.map rowD) (rowD b :: ts.map rowD)=true
  unfold cmpDs
  rw [cmpR,cmpRs rs ts]
  rfl
theorem cmpRL (rs ts:List Row):cmpD (rowsL rs) (rowsL ts)=true:=by
 show cmpD (.lst _) (.lst _)=true
 unfold cmpD
 exact cmpRs rs ts
theorem depRs:∀ rs:List Row,depDs (rs.map rowD)≤20
 | []=>by
  show depDs []≤20
  unfold depDs
  lia
 | a :: rs=>by
  show depDs (rowD a :: rs.map rowD)≤20
  unfold depDs
  have:=depR a
  have:=depRs rs
  lia
theorem depRL (rs:List Row):depD (rowsL rs)≤21:=by
 show depD (.lst _)≤21
 unfold depD
 have:=depRs rs
 lia
theorem rows_inj {rs ts:List Row} (h:rs.map rowD=ts.map rowD):rs=ts:=by
 have:=congrArg (List.map unR) h
 rw [List.map_map,List.map_map] at this
 exact ((List.map_id _).symm.trans (List.map_congr_left fun r _=>(unR_row r).symm)).trans (this.trans ((List.map_congr_left fun r _=>unR_row r).trans (List.map_id _)))
theorem eqRL (rs ts:List Row):eqD (rowsL rs) (rowsL ts)=decide (rs=ts):=bool_iff (by
  rw [eqD_iff,decide_eq_true_eq]
  exact ⟨fun z=>rows_inj (D.lst.inj z),fun z=>by rw [z]⟩)
section
variable {X:Cx} {pins:List (Addr × Obj)} {σ:St} {H:Hp} {s:Shared}
theorem rn_tup {A:Around} (I:Inv X pins σ H s) {a b:Addr} {ds es:List D} {xs ys:List V} (ha:SqT X.K H a xs) (hb:SqT X.K H b ys) (r1:Reps X.K H ds xs) (r2:Reps X.K H es ys) (hc:cmpDs ds es=true) (hu:A.units < cLine)
  (ih:∀ d∈ds,∀ (e:D) (v z:V) (u w:Value),Rep X.K H d v→Rep X.K H e z→RelV v u→RelV z w→cmpD d e=true→SeqAt.EqAt A.in1 s u w (eqD d e)):SeqAt.RcNeAt A s (.ref a) (.ref b) (!eqD (.tup ds) (.tup es)):=by
 obtain ⟨its,v1,p1,_⟩:=I.tuple ha
 obtain ⟨its2,v2,p2,_⟩:=I.tuple hb
 have:=SeqAt.RcNeAt.tuples (A:=A) (s:=s) (e:=fun j=>eqD (ds.getD j .non) (es.getD j .non)) (show s.heap.IsTuple a its.toArray from p1) (show s.heap.IsTuple b its2.toArray from p2) hu (items_D r1 r2 v1 v2 hc ih)
 rw [List.size_toArray,List.size_toArray,← v1.length,← v2.length,← r1.length,← r2.length,eqDs_range] at this
 rw [eqD_tup]
 exact this
theorem rn_lst {A:Around} (I:Inv X pins σ H s) {a b:Addr} {ds es:List D} {xs ys:List V} (ha:H a=some (.lst xs)) (hb:H b=some (.lst ys)) (r1:Reps X.K H ds xs) (r2:Reps X.K H es ys) (hc:cmpDs ds es=true) (hu:A.units < cLine)
  (ih:∀ d∈ds,∀ (e:D) (v z:V) (u w:Value),Rep X.K H d v→Rep X.K H e z→RelV v u→RelV z w→cmpD d e=true→SeqAt.EqAt A.in1 s u w (eqD d e)):SeqAt.RcNeAt A s (.ref a) (.ref b) (!eqD (.lst ds) (.lst es)):=by
 obtain ⟨its,v1,p1,_⟩:=I.list (SqL.of ha)
 obtain ⟨its2,v2,p2,_⟩:=I.list (SqL.of hb)
 have er:=eqDs_range ds es
 rw [eqD_lst]
 by_cases hl:ds.length=es.length
 ·have hz:its.toArray.size=its2.toArray.size:=by rw [List.size_toArray,List.size_toArray,← v1.length,← v2.length,← r1.length,← r2.length,hl]
  have:=SeqAt.RcNeAt.lists (A:=A) (s:=s) (e:=fun j=>eqD (ds.getD j .non) (es.getD j .non)) p1.isList p2.isList hz hu (items_D r1 r2 v1 v2 hc ih)
  rw [List.size_toArray,← v1.length,← r1.length] at this
  rw [← hl,Nat.min_self] at er
  have e2:(ds.length == ds.length)=true:=by simp
  rw [e2,Bool.and_true] at er
  rw [er] at this
  exact this
 ·have e2:(ds.length == es.length)=false:=by simpa using hl
  rw [e2,Bool.and_false] at er
  rw [← er]
  refine SeqAt.RcNeAt.lists_lengths p1.isList p2.isList ?_ hu
  rw [List.size_toArray,List.size_toArray,← v1.length,← v2.length,← r1.length,← r2.length]
  simpa using hl
theorem op_neD (hu:X.A.units+60 < cLine):OpR X (compareOp .NotEq) (rEqD X.K not):=by
 intro pins s σ H x y v u Q I rx ry h
 obtain ⟨d,e,hd,he,hc,hn,q⟩:=h
 have fin:EP X pins σ Q (.bool (!eqD d e)) s:=⟨.bl (!eqD d e),H,I,rfl,q⟩
 have un:X.A.in1.units=X.A.units+1:=rfl
 cases d with
 | tup ds =>
  cases e with
  | tup es =>
   unfold Rep at hd he
   obtain ⟨a,xs,rfl,ha,r1⟩:=hd
   obtain ⟨b,ys,rfl,hb,r2⟩:=he
   cases rx
   cases ry
   unfold cmpD at hc
   unfold depD at hn
   exact rn_tup I ha.sq hb.sq r1 r2 hc (by lia) (fun d hd e v z u w h1 h2 h3 h4 h5=>eqAt_D I _ X.A.in1 d e v z u w (Nat.le_refl _) h1 h2 h3 h4 h5 (by have:=depD_mem hd; lia)) _ _ _ _ fin
  | _=>unfold cmpD at hc; cases hc
 | lst ds =>
  cases e with
  | lst es =>
   unfold Rep at hd he
   obtain ⟨a,xs,rfl,ha,r1⟩:=hd
   obtain ⟨b,ys,rfl,hb,r2⟩:=he
   cases rx
   cases ry
   unfold cmpD at hc
   unfold depD at hn
   exact rn_lst I ha hb r1 r2 hc (by lia) (fun d hd e v z u w h1 h2 h3 h4 h5=>eqAt_D I _ X.A.in1 d e v z u w (Nat.le_refl _) h1 h2 h3 h4 h5 (by have:=depD_mem hd; lia)) _ _ _ _ fin
  | _=>unfold cmpD at hc; cases hc
 | _ =>
  obtain ⟨v',z',q1,q2,q3⟩:=scal_of hc (fun _ h=>by cases h) (fun _ h=>by cases h)
  have e1:=rep_scal hd q1
  have e2:=rep_scal he q2
  subst e1 e2
  have q':Q (.bl (!eqD _ _)) H:=q
  rw [eqD_scal q1 q2] at q'
  exact op_ne pins s σ H _ _ v u Q I rx ry ⟨q3,q'⟩
def vNeD (rx ry:R) (Q:R→Prop):Prop:=cmpD rx.d ry.d=true∧depD rx.d≤50∧Q (.val (.bl (!eqD rx.d ry.d)))
theorem vo_neD (hu:X.A.units+64 < cLine):VO X (compareOp .NotEq) vNeD :=
 ⟨_,op_neD (by lia),fun B H x y rx ry Q Qd s px py h k=>⟨rx.d,ry.d,px.rep s,py.rep s,h.1,h.2.1,k _ _ B H (.refl s) (repV rfl) h.2.2⟩⟩
end
section
variable {X:Cx} {pos p2:Pos} {e st:Expr} {te:TE} {lo hi:Option Expr} {tl th ts:TO}
end
section
variable {X:Cx} {EX:St→XK} {pos p2:Pos} {e st:Expr} {te:TV} {lo hi:Option Expr} {tl th ts:TVO} {K:PySem.W.Frag} {B:Hp}
end
end L2
namespace L2
section
variable {α:Type} [DecidableEq α]
end
section
variable {α β:Type} [DecidableEq α]
end
end L2
namespace L2
open PySem
abbrev mFolder:Str:="folder"
abbrev mShut:Str:="shut"
abbrev mGone:Str:="gone"
abbrev mFile:Str:="file"
abbrev mLink:Str:="link"
abbrev tEmpty:Str:=""
theorem mne:mShut≠mFolder∧mGone≠mFolder∧mFile≠mFolder∧mLink≠mFolder∧mGone≠mShut∧mFile≠mShut∧mLink≠mShut∧mFile≠mGone∧mLink≠mGone∧mLink≠mFile:=by decide +kernel
theorem lt_snoc (l:List (List Nat)) (x:List Nat):l < l++[x]:=by
 induction l with
 | nil=>exact List.nil_lt_cons _ _
 | cons y l ih=>exact List.cons_lt_cons_iff.mpr (.inr ⟨rfl,ih⟩)
theorem ltW_drop {w:List Str} (h:w≠[]):ltW w.dropLast w=true:=by
 refine decide_eq_true ?_
 conv=>rhs; rw [← List.dropLast_concat_getLast h]
 unfold keyW
 rw [List.map_append]
 exact lt_snoc _ _
def inR (p:List Row) (w:List Str):Bool:=decide (w∈p.map (·.1))
def markR (p:List Row) (w:List Str):Option Str:=(p.find? fun r=>decide (r.1=w)).map (·.2.1)
def hidesO:Option Str→Bool
 | none=>false
 | some m=>!decide (m=mFolder)
def hidBy (p:List Row) (w:List Str):Bool:=(List.range w.length).any fun k=>hidesO (markR p (w.take k))
theorem any_congr {β:Type} {f g:β→Bool}:∀ {l:List β},(∀ x∈l,f x=g x)→l.any f=l.any g
 | [],_=>rfl
 | x :: l,h=>by rw [List.any_cons,List.any_cons,h x (List.mem_cons_self ..),any_congr fun y hy=>h y (List.mem_cons_of_mem _ hy)]
theorem hidBy_snoc (p:List Row) {w:List Str} (h:w≠[]):hidBy p w=(hidBy p w.dropLast || hidesO (markR p w.dropLast)):=by
 have hl:w.length=w.dropLast.length+1:=by
  rw [List.length_dropLast]
  have:=List.length_pos_iff.mpr h
  lia
 unfold hidBy
 rw [hl,List.range_succ,List.any_append]
 congr 1
 ·refine any_congr fun k hk=>?_
  have hk:=List.mem_range.mp hk
  rw [List.dropLast_eq_take,List.take_take,Nat.min_eq_left (by lia)]
 ·rw [List.any_cons,List.any_nil,Bool.or_false,List.dropLast_eq_take,List.length_take,Nat.min_eq_left (by lia)]
theorem markR_in (p:List Row) (w:List Str):(markR p w).isSome=inR p w:=by
 unfold markR inR
 rw [Option.isSome_map]
 by_cases h:w∈p.map (·.1)
 ·rw [decide_eq_true h,List.find?_isSome]
  obtain ⟨r,mr,er⟩:=List.mem_map.mp h
  exact ⟨r,mr,decide_eq_true er⟩
 ·rw [decide_eq_false h,Bool.eq_false_iff]
  intro q
  rw [List.find?_isSome] at q
  obtain ⟨r,mr,er⟩:=q
  exact h (List.mem_map.mpr ⟨r,mr,of_decide_eq_true er⟩)
theorem markR_mem {p:List Row} (nd:(p.map (·.1)).Nodup) {r:Row} (h:r∈p):markR p r.1=some r.2.1:=by
 unfold markR
 cases e:p.find? fun q=>decide (q.1=r.1) with
 | none=>exact absurd (decide_eq_true rfl) (List.find?_eq_none.mp e r h)
 | some q =>
  have h1:=List.mem_of_find?_eq_some e
  have h2:q.1=r.1:=of_decide_eq_true (p:=q.1=r.1) (by simpa using List.find?_some e)
  rw [nodup_one nd h1 h h2]
  rfl
theorem markR_none {p:List Row} {w:List Str} (h:inR p w=false):markR p w=none:=by
 rw [← markR_in] at h
 exact Option.not_isSome_iff_eq_none.mp (by rw [h]; exact Bool.false_ne_true)
structure TreeOk (tr:List Row):Prop where
 so:RSorted tr
 cl:∀ r∈tr,r.1≠[]∧(r.1.dropLast=[]∨r.1.dropLast∈tr.map (·.1))
structure PaneOk (p:List Row):Prop where
 so:RSorted p
 cl:∀ r∈p,r.1=[]∨r.1.dropLast=[]∨∃ q∈p,q.1=r.1.dropLast∧q.2.1≠mGone
 mr:∀ r∈p,(r.2.1=mFile∨r.2.1=mLink)∨(r.2.1=mFolder∧r.2.2=tEmpty)∨r.2.1=mShut∨r.2.1=mGone
 rt:∀ r∈p,r.1=[]→r.2.1=mShut
structure Clo (tr:List Row):Prop where
 so:RSorted tr
 cl:∀ r∈tr,r.1=[]∨r.1.dropLast=[]∨r.1.dropLast∈tr.map (·.1)
theorem take_new {rs:List Row} (nd:(rs.map (·.1)).Nodup) {i:Nat} {r:Row} (hr:rs[i]?=some r):r.1∉(rs.take i).map (·.1):=fun m=>by
 obtain ⟨hi,er⟩:=List.getElem?_eq_some_iff.mp hr
 obtain ⟨q,mq,eq⟩:=List.mem_map.mp m
 rw [List.nodup_iff_pairwise_ne,List.pairwise_map,List.pairwise_iff_getElem] at nd
 obtain ⟨j,hj,ej⟩:=List.mem_iff_getElem.mp mq
 have hj':j < i:=by rw [List.length_take] at hj; lia
 have:=nd j i (by lia) hi hj'
 rw [List.getElem_take] at ej
 rw [ej,er] at this
 exact this eq
def aloneR (p tr:List Row):List Row:=tr.filter fun r=>!inR p r.1 && !hidBy p r.1
def shownR (r:Row):Row:=if r.2.1=mShut then (r.1,mFolder,tEmpty) else r
def putR (p:List Row):List Row:=(p.filter fun r=>!decide (r.1=[]) && !decide (r.2.1=mGone)).map shownR
theorem shown_1 (r:Row):(shownR r).1=r.1:=by
 unfold shownR
 split <;> rfl
theorem put_ways (p:List Row):(putR p).map (·.1)=(p.filter fun r=>!decide (r.1=[]) && !decide (r.2.1=mGone)).map (·.1):=by
 unfold putR
 rw [List.map_map]
 exact List.map_congr_left fun r _=>shown_1 r
theorem laid_nd {p tr:List Row} (hp:(p.map (·.1)).Nodup) (ht:(tr.map (·.1)).Nodup):((aloneR p tr++putR p).map (·.1)).Nodup:=by
 rw [List.map_append,put_ways,List.nodup_append]
 refine ⟨ht.sublist ((List.filter_sublist).map _),hp.sublist ((List.filter_sublist).map _),fun x hx y hy e=>?_⟩
 subst e
 obtain ⟨r,mr,rfl⟩:=List.mem_map.mp hx
 obtain ⟨q,mq,eq⟩:=List.mem_map.mp hy
 have h1:=(List.mem_filter.mp mr).2
 have h2:inR p r.1=true:=decide_eq_true (List.mem_map.mpr ⟨q,(List.mem_filter.mp mq).1,eq⟩)
 rw [h2] at h1
 cases h1
theorem laid_tree {p tr ts:List Row} (P:PaneOk p) (T:TreeOk tr) (hp:ts.Perm (aloneR p tr++putR p)) (hs:RSorted ts):TreeOk ts:=by
 refine ⟨hs,fun r hr=>?_⟩
 have mem:∀ w,w∈ts.map (·.1)↔w∈(aloneR p tr).map (·.1)∨w∈(putR p).map (·.1):=fun w=>by
  rw [(hp.map (·.1)).mem_iff,List.map_append,List.mem_append]
 have ndp:=rsorted_nd P.so
 rcases List.mem_append.mp (hp.mem_iff.mp hr) with h | h
 ·obtain ⟨mr,hb⟩:=List.mem_filter.mp h
  obtain ⟨h0,hc⟩:=T.cl r mr
  refine ⟨h0,?_⟩
  rcases hc with hc | hc
  ·exact .inl hc
  right
  rw [mem]
  have hb':inR p r.1=false∧hidBy p r.1=false:=by simpa using hb
  have hs2:=hidBy_snoc p h0
  rw [hb'.2] at hs2
  have hs3:hidBy p r.1.dropLast=false∧hidesO (markR p r.1.dropLast)=false:=by simpa using hs2.symm
  by_cases hin:inR p r.1.dropLast=true
  ·right
   rw [put_ways]
   obtain ⟨q,mq,eq⟩:=List.mem_map.mp (of_decide_eq_true hin)
   refine List.mem_map.mpr ⟨q,List.mem_filter.mpr ⟨mq,?_⟩,eq⟩
   have e1:q.2.1=mFolder:=by
    have:=hs3.2
    rw [← eq,markR_mem ndp mq] at this
    simpa [hidesO] using this
   have e2:q.1≠[]:=fun z=>by
    have:=P.rt q mq z
    rw [e1] at this
    exact mne.1 this.symm
   rw [decide_eq_false e2,e1,decide_eq_false (Ne.symm mne.2.1)]
   rfl
  ·left
   rw [Bool.not_eq_true] at hin
   obtain ⟨q,mq,eq⟩:=List.mem_map.mp hc
   refine List.mem_map.mpr ⟨q,List.mem_filter.mpr ⟨mq,?_⟩,eq⟩
   rw [eq,hin,hs3.1]
   rfl
 ·unfold putR at h
  obtain ⟨q,mq,rfl⟩:=List.mem_map.mp h
  rw [shown_1]
  obtain ⟨mq,hb⟩:=List.mem_filter.mp mq
  have hb':q.1≠[]∧q.2.1≠mGone:=by simpa using hb
  refine ⟨hb'.1,?_⟩
  rcases P.cl q mq with c | c | ⟨o,mo,eo,go⟩
  ·exact absurd c hb'.1
  ·exact .inl c
  ·by_cases c:q.1.dropLast=[]
   ·exact .inl c
   right
   rw [mem]
   right
   rw [put_ways]
   refine List.mem_map.mpr ⟨o,List.mem_filter.mpr ⟨mo,?_⟩,eo⟩
   rw [decide_eq_false (by rw [eo]; exact c),decide_eq_false go]
   rfl
def thD:Str × Str→D:=fun t=>.tup [.str t.1,.str t.2]
def WyOk (w:List Str):Prop:=w.length≤20∧∀ z∈w,1≤z.length∧z.length≤12
def Wy14 (w:List Str):Prop:=w.length≤14∧∀ z∈w,1≤z.length∧z.length≤12
theorem Wy14.ok {w:List Str} (h:Wy14 w):WyOk w:=⟨by have:=h.1; lia,h.2⟩
theorem WyOk.ne {w:List Str} (h:WyOk w):("" : Str)∉w:=fun m=>by
 have:=(h.2 _ m).1
 have e:("" : Str).length=0:=by decide +kernel
 lia
theorem WyOk.take {w:List Str} (h:WyOk w) (k:Nat):WyOk (w.take k):=⟨by rw [List.length_take]; have:=h.1; lia,fun z m=>h.2 z (List.mem_of_mem_take m)⟩
theorem WyOk.drop {w:List Str} (h:WyOk w):WyOk w.dropLast:=by rw [List.dropLast_eq_take]; exact h.take _
def prR (r:Row):List Str × D:=(r.1,thD r.2)
theorem lkP_pr (rs:List Row) (w:List Str):lkP (rs.map prR) w=(rs.find? fun r=>decide (r.1=w)).map fun r=>thD r.2:=by
 unfold lkP
 rw [List.find?_map,Option.map_map]
 rfl
theorem ways_pr (rs:List Row):(rs.map prR).map (·.1)=rs.map (·.1):=by rw [List.map_map]; rfl
def shutR (rs:List Row) (w:List Str):Bool:=(List.range w.length).any fun k=>decide (markR rs (w.take k)=some mShut)
noncomputable def sortR (rs:List Row):List Row:=open Classical in if h:∃ ts:List Row,ts.Perm rs∧RSorted ts then Classical.choose h else rs
theorem sortR_eq {ts rs:List Row} (hp:ts.Perm rs) (hs:RSorted ts):sortR rs=ts:=by
 have h:∃ ts:List Row,ts.Perm rs∧RSorted ts:=⟨ts,hp,hs⟩
 unfold sortR
 rw [dif_pos h]
 exact rsorted_one ((Classical.choose_spec h).1.trans hp.symm) (Classical.choose_spec h).2 hs
noncomputable def laidR (p tr:List Row):List Row:=sortR (aloneR p tr++putR p)
def bulk (p:List Row):Nat:=(p.filter fun r=>!decide (r.1=[])).length
def mkOk (r:Row):Prop:=(r.2.1=mFile∨r.2.1=mLink)∨(r.2.1=mFolder∧r.2.2=tEmpty)∨r.2.1=mShut∨r.2.1=mGone
def FS (m:Str):Prop:=m=mFolder∨m=mShut
theorem FS.live {m:Str} (h:FS m):m≠mGone:=by
 rcases h with rfl | rfl
 ·exact Ne.symm mne.2.1
 ·exact Ne.symm mne.2.2.2.2.1
def FolIn (rs:List Row) (f:List Str):Prop:=Wy14 f∧(f=[]∨∃ q∈rs,q.1=f∧FS q.2.1)
def RowIn (rs:List Row) (r:Row):Prop:=(r.1=[]∧r.2.1=mShut)∨(r.1≠[]∧Wy14 r.1∧FolIn rs r.1.dropLast∧mkOk r)
structure PInv (i:Nat) (rs:List Row) (fs:List (List Str)):Prop where
 nd:(rs.map (·.1)).Nodup
 row:∀ r∈rs,RowIn rs r
 blk:bulk rs≤i
 len:rs.length≤i+1
 ne:fs≠[]
 fol:∀ f∈fs,FolIn rs f
 fln:fs.length≤i+1
 nu:∀ r∈rs,r.2.1=mGone∨r.2.1=mShut→hidBy rs r.1=false
theorem anc {rs:List Row} (row:∀ r∈rs,RowIn rs r):∀ (n:Nat) (f:List Str),f.length=n→FolIn rs f→∀ k,0 < k→k≤f.length→∃ q∈rs,q.1=f.take k∧FS q.2.1
 | 0,f,hn,_,k,h0,hk=>by lia
 | n+1,f,hn,hf,k,h0,hk=>by
  have fne:f≠[]:=fun z=>by rw [z] at hn; cases hn
  obtain ⟨q,mq,eq,fq⟩:=hf.2.resolve_left fne
  rcases Nat.lt_or_ge k f.length with h | h
  ·rcases row q mq with c | ⟨_,_,c,_⟩
   ·exact absurd (eq ▸ c.1) fne
   ·rw [eq] at c
    have hl:f.dropLast.length=n:=by rw [List.length_dropLast]; lia
    obtain ⟨o,mo,eo,fo⟩:=anc row n f.dropLast hl c k h0 (by lia)
    refine ⟨o,mo,?_,fo⟩
    rw [eo,List.dropLast_eq_take,List.take_take,Nat.min_eq_left (by lia)]
  ·have:k=f.length:=by lia
   rw [this,List.take_length]
   exact ⟨q,mq,eq,fq⟩
theorem hid_shut {rs:List Row} (nd:(rs.map (·.1)).Nodup) {w:List Str} (h:∀ k,0 < k→k < w.length→∃ q∈rs,q.1=w.take k∧FS q.2.1) (rt:∀ r∈rs,r.1=[]→r.2.1=mShut):hidBy rs w=shutR rs w:=by
 unfold hidBy shutR
 refine any_congr fun k hk=>?_
 have hk:=List.mem_range.mp hk
 have key:∀ q∈rs,q.1=w.take k→FS q.2.1→hidesO (markR rs (w.take k))=decide (markR rs (w.take k)=some mShut):=fun q mq eq fq=>by
  rw [← eq,markR_mem nd mq]
  rcases fq with e | e
  ·rw [e,decide_eq_false (fun z=>mne.1 (Option.some.inj z).symm)]; simp [hidesO]
  ·rw [e,decide_eq_true rfl]; simp [hidesO,mne.1]
 by_cases h0:k=0
 ·subst h0
  rw [List.take_zero] at key ⊢
  by_cases hi:inR rs []=true
  ·obtain ⟨q,mq,eq⟩:=List.mem_map.mp (of_decide_eq_true hi)
   exact key q mq eq (.inr (rt q mq eq))
  ·rw [Bool.not_eq_true] at hi
   rw [markR_none hi]
   rfl
 ·obtain ⟨q,mq,eq,fq⟩:=h k (by lia) hk
  exact key q mq eq fq
theorem markR_snoc {rs:List Row} {r:Row} {w:List Str} (h:r.1≠w):markR (rs++[r]) w=markR rs w:=by
 unfold markR
 rw [List.find?_append]
 have:[r].find? (fun q=>decide (q.1=w))=none:=by simp [h]
 rw [this,Option.or_none]
theorem hidBy_more {rs:List Row} {r:Row} {w:List Str} (h:∀ k,k < w.length→r.1≠w.take k):hidBy (rs++[r]) w=hidBy rs w:=by
 unfold hidBy
 exact any_congr fun k hk=>by rw [markR_snoc (h k (List.mem_range.mp hk))]
theorem Wy14.nil:Wy14 []:=⟨Nat.zero_le _,fun _ h=>by cases h⟩
theorem PInv.start {rs:List Row} (h:rs=[]∨rs=[([],mShut,tEmpty)]):PInv 0 rs [[]]:=by
 rcases h with rfl | rfl
 ·exact ⟨List.nodup_nil,(fun _ h=>by cases h),Nat.le_refl _,Nat.zero_le _,by simp,fun f hf=>by rw [List.mem_singleton.mp hf]; exact ⟨.nil,.inl rfl⟩,Nat.le_refl _,(fun _ h=>by cases h)⟩
 ·exact ⟨by simp,fun r hr=>by rw [List.mem_singleton.mp hr]; exact .inl ⟨rfl,rfl⟩,Nat.le_refl _,Nat.le_refl _,by simp,fun f hf=>by rw [List.mem_singleton.mp hf]; exact ⟨.nil,.inl rfl⟩,Nat.le_refl _,fun r hr _=>by rw [List.mem_singleton.mp hr]; rfl⟩
theorem FolIn.more {rs:List Row} {f:List Str} (h:FolIn rs f) (r:Row):FolIn (rs++[r]) f:=⟨h.1,h.2.imp id fun ⟨q,mq,e,g⟩=>⟨q,List.mem_append_left _ mq,e,g⟩⟩
theorem PInv.stay {i:Nat} {rs:List Row} {fs:List (List Str)} (P:PInv i rs fs):PInv (i+1) rs fs:=⟨P.nd,P.row,Nat.le_succ_of_le P.blk,Nat.le_succ_of_le P.len,P.ne,P.fol,Nat.le_succ_of_le P.fln,P.nu⟩
theorem PInv.put {i:Nat} {rs:List Row} {fs:List (List Str)} (P:PInv i rs fs) {f:List Str} (hf:f∈fs) {z:Str} {m t:Str} (hm:mkOk (f++[z],m,t)) (hw:Wy14 (f++[z])) (nw:f++[z]∉rs.map (·.1)) (hsh:m=mGone∨m=mShut→shutR rs (f++[z])=false):PInv (i+1) (rs++[(f++[z],m,t)]) fs∧(FS m→PInv (i+1) (rs++[(f++[z],m,t)]) (fs++[f++[z]])):=by
 have A:PInv (i+1) (rs++[(f++[z],m,t)]) fs:=by
  refine ⟨?_,fun r hr=>?_,?_,?_,P.ne,fun g hg=>(P.fol g hg).more _,Nat.le_succ_of_le P.fln,fun r hr hm2=>?_⟩
  ·rw [List.map_append,List.nodup_append]
   refine ⟨P.nd,by simp,fun a ha b hb e=>?_⟩
   have:b=f++[z]:=by simpa using hb
   rw [e,this] at ha
   exact nw ha
  ·rcases List.mem_append.mp hr with q | q
   ·rcases P.row r q with h | ⟨h1,h2,h3,h4⟩
    ·exact .inl h
    ·exact .inr ⟨h1,h2,h3.more _,h4⟩
   ·rw [List.mem_singleton.mp q]
    refine .inr ⟨by simp,hw,?_,hm⟩
    show FolIn _ (f++[z]).dropLast
    rw [List.dropLast_concat]
    exact (P.fol f hf).more _
  ·have:=P.blk
   unfold bulk at this ⊢
   rw [List.filter_append,List.length_append]
   have:=List.length_filter_le (fun r:Row=>!decide (r.1=[])) [(f++[z],m,t)]
   rw [List.length_singleton] at this
   lia
  ·have:=P.len
   rw [List.length_append,List.length_singleton]
   lia
  ·rcases List.mem_append.mp hr with q | q
   ·have old:=P.nu r q hm2
    rw [hidBy_more (fun k hk e=>?_)]
    ·exact old
    ·have e':f++[z]=r.1.take k:=e
     rcases P.row r q with c | ⟨_,_,c,_⟩
     ·rw [c.1] at hk
      cases hk
     ·have k0:0 < k:=by
       rcases Nat.eq_zero_or_pos k with z0 | z0
       ·rw [z0,List.take_zero] at e'
        exact absurd e' (by simp)
       ·exact z0
      obtain ⟨o,mo,eo,_⟩:=anc P.row _ r.1.dropLast rfl c k k0 (by rw [List.length_dropLast]; lia)
      refine nw (List.mem_map.mpr ⟨o,mo,?_⟩)
      rw [eo,e',List.dropLast_eq_take,List.take_take,Nat.min_eq_left (by lia)]
   ·have er:=List.mem_singleton.mp q
    subst er
    show hidBy (rs++[(f++[z],m,t)]) (f++[z])=false
    rw [hidBy_more (fun k hk e=>?_)]
    ·rw [hid_shut P.nd (fun k k0 k1=>?_) fun r hr h0=>?_]
     ·exact hsh hm2
     ·rw [List.length_append,List.length_singleton] at k1
      obtain ⟨o,mo,eo,fo⟩:=anc P.row _ f rfl (P.fol f hf) k k0 (by lia)
      exact ⟨o,mo,by rw [eo,List.take_append_of_le_length (by lia)],fo⟩
     ·rcases P.row r hr with c | c
      ·exact c.2
      ·exact absurd h0 c.1
    ·have:=congrArg List.length (show f++[z]=(f++[z]).take k from e)
     rw [List.length_take] at this
     lia
 refine ⟨A,fun hg=>⟨A.nd,A.row,A.blk,A.len,by simp,fun g hg2=>?_,?_,?_⟩⟩
 ·rcases List.mem_append.mp hg2 with q | q
  ·exact A.fol g q
  ·rw [List.mem_singleton.mp q]
   exact ⟨hw,.inr ⟨(f++[z],m,t),by simp,rfl,hg⟩⟩
 ·have:=P.fln
  rw [List.length_append,List.length_singleton]
  lia
 ·exact A.nu
theorem PInv.pane {i:Nat} {rs ts:List Row} {fs:List (List Str)} (P:PInv i rs fs) (hp:ts.Perm rs) (hs:RSorted ts):PaneOk ts∧(∀ r∈ts,Wy14 r.1)∧bulk ts≤i∧ts.length≤i+1∧∀ r∈ts,r.2.1=mGone∨r.2.1=mShut→hidBy ts r.1=false:=by
 have mem:∀ r,r∈ts→RowIn rs r:=fun r hr=>P.row r (hp.mem_iff.mp hr)
 refine ⟨⟨hs,fun r hr=>?_,fun r hr=>?_,fun r hr h0=>?_⟩,fun r hr=>?_,?_,?_,fun r hr hm=>?_⟩
 ·rcases mem r hr with h | ⟨h1,_,h3,_⟩
  ·exact .inl h.1
  ·rcases h3.2 with h | ⟨q,mq,e,g⟩
   ·exact .inr (.inl h)
   ·exact .inr (.inr ⟨q,hp.mem_iff.mpr mq,e,g.live⟩)
 ·rcases mem r hr with h | ⟨_,_,_,h4⟩
  ·exact .inr (.inr (.inl h.2))
  ·exact h4
 ·rcases mem r hr with h | ⟨h1,_⟩
  ·exact h.2
  ·exact absurd h0 h1
 ·rcases mem r hr with h | ⟨_,h2,_⟩
  ·rw [h.1]; exact .nil
  ·exact h2
 ·have:=P.blk
  unfold bulk at this ⊢
  rw [(hp.filter _).length_eq]
  exact this
 ·rw [hp.length_eq]
  exact P.len
 ·have nt:=rsorted_nd hs
  have:∀ w,markR ts w=markR rs w:=fun w=>by
   by_cases h:inR ts w=true
   ·obtain ⟨q,mq,e⟩:=List.mem_map.mp (of_decide_eq_true h)
    rw [← e,markR_mem nt mq,markR_mem P.nd (hp.mem_iff.mp mq)]
   ·have h2:inR rs w=false:=by
     rw [Bool.not_eq_true] at h
     refine decide_eq_false fun m=>of_decide_eq_false h ?_
     exact ((hp.map (·.1)).mem_iff).mpr m
    rw [Bool.not_eq_true] at h
    rw [markR_none h,markR_none h2]
  have e:hidBy ts r.1=hidBy rs r.1:=any_congr fun k _=>by rw [this]
  rw [e]
  exact P.nu r (hp.mem_iff.mp hr) hm
def lkR (rs:List Row) (w:List Str):Str × Str:=((rs.find? fun r=>decide (r.1=w)).map (·.2)).getD (tEmpty,tEmpty)
theorem find_one {rs:List Row} (nd:(rs.map (·.1)).Nodup) {r:Row} (h:r∈rs):(rs.find? fun q=>decide (q.1=r.1))=some r:=by
 cases e:rs.find? fun q=>decide (q.1=r.1) with
 | none=>exact absurd (decide_eq_true rfl) (List.find?_eq_none.mp e r h)
 | some q =>
  have h1:=List.mem_of_find?_eq_some e
  have h2:q.1=r.1:=of_decide_eq_true (p:=q.1=r.1) (by simpa using List.find?_some e)
  rw [nodup_one nd h1 h h2]
theorem rows_of_ways {rs:List Row} (nd:(rs.map (·.1)).Nodup) {vs:List (List Str)} (hv:vs.Perm (rs.map (·.1))) (hs:vs.Pairwise (fun a b=>ltW a b=true)):(vs.map fun w=>(w,lkR rs w)).Perm rs∧RSorted (vs.map fun w=>(w,lkR rs w)):=by
 constructor
 ·refine (hv.map _).trans (List.Perm.of_eq ?_)
  rw [List.map_map]
  refine (List.map_congr_left fun r hr=>?_).trans (List.map_id _)
  show (r.1,lkR rs r.1)=r
  unfold lkR
  rw [find_one nd hr]
  rfl
 ·show List.Pairwise _ (List.map _ _)
  rw [List.pairwise_map]
  exact hs
theorem lkP_lkR {rs:List Row} (nd:(rs.map (·.1)).Nodup) {w:List Str} (h:w∈rs.map (·.1)):lkP (rs.map prR) w=some (thD (lkR rs w)):=by
 obtain ⟨r,mr,rfl⟩:=List.mem_map.mp h
 rw [lkP_pr]
 unfold lkR
 rw [find_one nd mr]
 rfl
def s6 (u:Nat):Nat:=u % 99991 % 9+(u+96542 * 1) % 99991 % 9+(u+96542 * 2) % 99991 % 9+(u+96542 * 3) % 99991 % 9+(u+96542 * 4) % 99991 % 9+(u+96542 * 5) % 99991 % 9
end L2
namespace L2
open PySem PySem.Spec PyProof.Rows
section
variable {K:PySem.W.Frag} {B:Hp} {ad:Addr}
end
section
variable {X:Cx} {EX:St→XK} {pos p:Pos} {x y:Str} {es:List Expr} {tA:TVA}
end
end L2
namespace L2
open PySem PySem.Spec PyProof.Rows
structure PaneC (p:List Row):Prop where
 so:RSorted p
 cl:∀ r∈p,r.1=[]∨r.1.dropLast=[]∨∃ q∈p,q.1=r.1.dropLast∧q.2.1≠mGone
section
variable {α:Type} {f:α→D} {τ:VSt} {k:Nat} {g:TVG} {ti:TVT} {te:TV} {Q:R→Prop}
end
theorem ins_ex (r:Row):∀ ts:List Row,RSorted ts→r.1∉ts.map (·.1)→∃ us:List Row,us.Perm (r :: ts)∧RSorted us
 | [],_,_=>⟨[r],.refl _,List.pairwise_singleton _ _⟩
 | t :: ts,h,hn=>by
  have h':=List.pairwise_cons.mp h
  rw [List.map_cons,List.mem_cons,not_or] at hn
  rcases ltW_tot hn.1 with q | q
  ·refine ⟨r :: t :: ts,.refl _,List.pairwise_cons.mpr ⟨fun x hx=>?_,h⟩⟩
   rcases List.mem_cons.mp hx with e | hx
   ·rw [e]; exact q
   ·exact ltW_tr q (h'.1 x hx)
  ·obtain ⟨us,p1,p2⟩:=ins_ex r ts h'.2 hn.2
   refine ⟨t :: us,(p1.cons t).trans (.swap r t ts),List.pairwise_cons.mpr ⟨fun x hx=>?_,p2⟩⟩
   rcases List.mem_cons.mp (p1.mem_iff.mp hx) with e | hx
   ·rw [e]; exact q
   ·exact h'.1 x hx
theorem sort_ex:∀ rs:List Row,(rs.map (·.1)).Nodup→∃ ts:List Row,ts.Perm rs∧RSorted ts
 | [],_=>⟨[],.nil,.nil⟩
 | r :: rs,h=>by
  rw [List.map_cons,List.nodup_cons] at h
  obtain ⟨ts,p1,p2⟩:=sort_ex rs h.2
  obtain ⟨us,q1,q2⟩:=ins_ex r ts p2 fun m=>h.1 (((p1.map (·.1)).mem_iff).mp m)
  exact ⟨us,q1.trans (p1.cons r),q2⟩
theorem sortR_ok {rs:List Row} (h:(rs.map (·.1)).Nodup):(sortR rs).Perm rs∧RSorted (sortR rs):=by
 obtain ⟨ts,p1,p2⟩:=sort_ex rs h
 rw [sortR_eq p1 p2]
 exact ⟨p1,p2⟩
theorem laid_ok {p tr:List Row} (P:PaneOk p) (T:TreeOk tr):TreeOk (laidR p tr)∧(laidR p tr).Perm (aloneR p tr++putR p) :=
 let ⟨p1,p2⟩:=sortR_ok (laid_nd (rsorted_nd P.so) (rsorted_nd T.so))
 ⟨laid_tree P T p1 p2,p1⟩
def s5 (u:Nat):Nat:=u % 99991 % 8+(u+96542 * 1) % 99991 % 8+(u+96542 * 2) % 99991 % 8+(u+96542 * 3) % 99991 % 8+(u+96542 * 4) % 99991 % 8
theorem v_if {t:TVT} {a b:TVS} {Dv:VEnds} {τ:VSt} (P:Bool→Prop) (ht:∀ Y:Bool→Prop,(∀ c,P c→Y c)→t τ Y) (ha:P true→a Dv τ) (hb:P false→b Dv τ):vIfS t a b Dv τ :=
 ht _ fun c hc=>by
  cases c with
  | true=>exact iteT (ha hc)
  | false=>exact iteF (hb hc)
end L2
namespace L2
open PySem PySem.Spec PyProof.Rows
section
variable {X:Cx} {pins:List (Addr × Obj)} {σ:St} {H:Hp} {s:Shared} {h':Heap}
end
section
variable {X:Cx} {elts:List Expr} {kk:Nat} {tp p pos:Pos}
end
section
variable {X:Cx} {EX:St→XK} {elts:List Expr} {kk:Nat} {tp p pos:Pos} {K:PySem.W.Frag} {B:Hp} {a:Expr} {ta:TV}
end
end L2
namespace L2
open PySem PySem.Spec PyProof.Rows
section
variable {prog:Program} {w:World} {A:Around}
end
section
variable {X:Cx} {p kp pos:Pos} {a d:Expr}
end
section
variable {X:Cx} {EX:St→XK} {p kp pos cp:Pos} {a:Expr} {te:TV} {j:Nat}
end
end L2
namespace L2
open PySem PySem.Spec PyProof.Rows
section
variable {X:Cx} {EX:St→XK} {pos pos' p apos cpos:Pos} {x y:Str} {e:Expr}
end
end L2
namespace L2
open PySem PySem.Spec PyProof.Rows
section
variable {X:Cx} {pins:List (Addr × Obj)} {σ:St} {H:Hp} {s:Shared} {tg:Expr}
theorem Inv.frzD {a:Addr} {kvs:List (List Key × V)} (I:Inv X pins σ H s) (e:H a=some (.dT kvs)):∃ o,Inv X pins σ (upd H a (.frz o (.dT kvs))) s:=by
 have ok:ObjOk X.prog X.w H s.heap a (.dT kvs):=I.hok a _ e
 obtain ⟨_,_,_,_,o,es,ep,h1,_⟩:=id ok
 have nt:∀ c xs,H c=some (.tup xs)→c≠a:=fun c xs q z=>by rw [z,e] at q; cases q
 have no:∀ c,H c=some (.own a)→c≠a:=fun c q z=>by rw [z,e] at q; cases q
 refine ⟨o,I.write (x:=a) (e:=a) (t':=s.toks) (h':=s.heap) (by rw [e]; exact trivial) (.inl rfl) (fun _ _ _ q=>q) ⟨o,h1⟩ ⟨h1,ok.stay (fun _ _ _ q=>q) (fun c q=>by rw [upd_ne (no c q)]; exact q) fun c xs q=>by rw [upd_ne (nt c xs q)]; exact q⟩⟩
def tFrzD (i:Nat) (t:TS):TS:=fun D σ H=>∃ a kvs,σ[i]?=some (some (.ref a))∧H a=some (.dT kvs)∧∀ o,t D σ (upd H a (.frz o (.dT kvs)))
theorem qss_frzD {ss:List Stmt} {t:TS} (i:Nat) (h:QSs X ss t):QSs X ss (tFrzD i t):=⟨fun pins s σ H D I ⟨a,kvs,_,e2,k⟩=>by
 obtain ⟨o,I2⟩:=Inv.frzD I e2
 exact h.u pins s σ _ D I2 (k o)⟩
end
section
variable {X:Cx} {EX:St→XK} {K:PySem.W.Frag} {B H:Hp} {tg:Expr} {x:Str} {pos:Pos} {rest:List Stmt} {t:TVS}
def vFrzD (i:Nat) (t:TVS):TVS:=fun Dv τ=>match τ[i]? with
 | some (some (.own (.dT ks ds)))=>t Dv (τ.set i (some (.peek (.dT ks ds))))
 | _=>False
theorem vss_frzD (i:Nat) (h:VSs X EX rest t):VSs X EX rest (vFrzD i t) :=
 let ⟨_,a1,a2⟩:=h.u; ⟨_,qss_frzD i a1,fun B0 H0 B H τ σ Dv Dh p S h E=>by
  unfold vFrzD at h
  split at h
  ·rename_i ks ds e
   obtain ⟨a,q,h0,hb,kvs,e1,e2,e3⟩:=S.own i _ e
   refine ⟨a,kvs,q,e1,fun o=>?_⟩
   have sb:=same_upd hb (HO.frz o (.dT kvs))
   refine a2 B0 H0 (upd B a (.frz o (.dT kvs))) _ _ σ _ _ ⟨p.b.trans sb,p.h.put h0,fun c u q=>?_,fun c z=>?_⟩ ⟨by rw [List.length_set,S.len],fun j f q'=>?_,fun j f q'=>?_,fun j f q'=>?_,fun j k f g c q1 q2 q3 q4=>?_⟩ h E
   ·by_cases z:c=a
    ·subst z
     rw [upd_same] at q ⊢
     exact q
    ·rw [upd_ne z] at q ⊢
     exact p.s _ _ q
   ·by_cases w:c=a
    ·exact .inr (.inl (w ▸ h0))
    ·rw [upd_ne w] at z
     exact p.d c z
   ·rcases getSet q' with ⟨rfl,z,l⟩ | ⟨n,q'⟩
    ·cases z
    ·obtain ⟨w,q1,r⟩:=S.val j f q'
     exact ⟨w,q1,r.same sb⟩
   ·rcases getSet q' with ⟨rfl,z,l⟩ | ⟨n,q'⟩
    ·cases z
     exact ⟨_,q,a,ks,ds,kvs,o,rfl,rfl,upd_same,e2,e3.same sb⟩
    ·obtain ⟨w,q1,r⟩:=S.fz j f q'
     exact ⟨w,q1,r.same sb⟩
   ·rcases getSet q' with ⟨rfl,z,l⟩ | ⟨n,q'⟩
    ·cases z
    ·obtain ⟨c,q1,h0',hb',w⟩:=S.own j f q'
     have ne:c≠a:=fun z=>by subst z; exact n (S.sep i j _ f c e q' q q1)
     exact ⟨c,q1,h0',by rw [upd_ne ne]; exact hb',w.step sb (upd_ne ne)⟩
   ·rcases getSet q1 with ⟨rfl,z,l⟩ | ⟨n,q1⟩
    ·cases z
    rcases getSet q2 with ⟨rfl,z,l⟩ | ⟨n2,q2⟩
    ·cases z
    exact S.sep j k f g c q1 q2 q3 q4
  ·exact h.elim⟩
end
end L2
namespace L2
open PySem PySem.Spec PyProof.Rows
section
variable {X:Cx}
end
section
variable {X:Cx} {EX:St→XK} {pos pos' p apos cpos:Pos} {x:Str} {e:Expr} {es:List Expr} {te:TV} {tA:TVA} {K:PySem.W.Frag} {B B' H H0:Hp} {τ:VSt} {σ:St}
end
end L2
namespace L2
open PySem PySem.Spec PyProof.Rows
section
variable {X:Cx} {pins:List (Addr × Obj)} {σ:St} {H:Hp} {s:Shared} {st:Stmt} {rest:List Stmt}
end
section
variable {X:Cx} {EX:St→XK} {K:PySem.W.Frag} {B B' H H0:Hp} {τ:VSt} {σ:St} {x:Str} {e:Expr} {te:TV} {rest:List Stmt} {u:TVS} {pos pos':Pos}
end
end L2
namespace L2
open PySem PySem.Spec PyProof.Rows
section
variable {X:Cx} {EX:St→XK} {pos p cpos:Pos} {x y:Str} {e:Expr} {es:List Expr} {tA:TVA} {K:PySem.W.Frag} {B B' H H0:Hp} {τ:VSt} {σ:St}
end
end L2
namespace L2
open PySem PySem.Spec PyProof.Rows
section
variable {X:Cx} {elts:List Expr} {kk:Nat} {tp p pos:Pos}
end
section
variable {X:Cx} {EX:St→XK} {elts:List Expr} {kk:Nat} {tp p pos:Pos} {K:PySem.W.Frag} {B:Hp} {a b:Expr} {ta tb:TV}
end
section
variable {X:Cx} {EX:St→XK}
end
end L2
namespace L2
open PySem PySem.Spec PyProof.Rows Builtin.Str
section
variable {X:Cx}
abbrev TJ:=St→Hp→Str→VK→Prop
structure QJ (X:Cx) (vs:List Expr) (t:TJ):Prop where
 u:∀ (pins:List (Addr × Obj)) (s:Shared) (σ:St) (H:Hp) (out:Str) (Q:VK),Inv X pins σ H s→t σ H out Q→wpAny (model X.prog X.w) X.A (joinParts out (evalEach vs X.env)) (EP X pins σ Q) X.xe s
end
section
variable {X:Cx} {EX:St→XK} {K:PySem.W.Frag} {o e e1 e2:Expr} {to te t1 t2:TV} {apos cpos p pos:Pos} {x:Str} {rest:List Expr}
abbrev TVJ:=VSt→Str→(R→Prop)→Prop
def RfJ (K:PySem.W.Frag) (t:TJ) (u:TVJ):Prop:=∀ (H0 B H:Hp) (τ:VSt) (σ:St) (out:Str) (Q:VK) (Qd:R→Prop),Same B H→Slots K H0 B H τ σ→u τ out Qd→(∀ r v B' H',Stp B H B' H'→RepR K B' H H' r v→Qd r→Q v H')→t σ H out Q
structure VJ (X:Cx) (EX:St→XK) (vs:List Expr) (t:TVJ):Prop where
 u:∃ tj,QJ X vs tj∧RfJ X.K tj t
end
end L2
namespace L2
open PySem PySem.Spec PyProof.Rows
section
variable {X:Cx} {EX:St→XK} {K:PySem.W.Frag} {B H H0:Hp} {e:Expr} {t:TV} {τ:VSt} {σ:St}
end
end L2
namespace L2
open PySem PySem.Spec PyProof.Rows
def hidH (H:Hp) (c:Addr):Hp:=fun b=>if b=c then none else H b
theorem hid_ne {H:Hp} {b c:Addr} (n:b≠c):hidH H c b=H b:=if_neg n
theorem hid_at {H:Hp} {c:Addr}:hidH H c c=none:=if_pos rfl
theorem hid_same {H:Hp} {c:Addr}:Same (hidH H c) H:=fun b o e=>by
 by_cases z:b=c
 ·subst z
  rw [hid_at] at e
  cases e
 ·rw [hid_ne z] at e
  exact e
section
variable {X:Cx} {EX:St→XK} {K:PySem.W.Frag} {B H B' H' H0 B0 B1 H1:Hp} {st:Stmt} {rest:List Stmt} {t u:TVS} {e a:Expr} {te ta:TV} {tT:TVT} {tA:TVA} {es:List Expr} {pos pos' p p2 apos cpos:Pos} {x y:Str} {τ:VSt} {σ:St} {r:R} {v:V}
theorem own_io {c ad:Addr} {ds:List D} (h:OwnAt K B H (.io c ds) ad):ad=c∧∃ xs,H ad=some (.lst xs)∧Reps K B ds xs:=let ⟨xs,e,z,r⟩:=h; ⟨z,xs,e,r⟩
theorem own_ioA {c ad:Addr} {e:D} (h:OwnAt K B H e ad) (ha:ioA e=some c):ad=c:=by
 cases e with
 | io c' ds=>cases ha; exact (own_io h).1
 | ioT c' ks ds=>cases ha; obtain ⟨_,_,z,_⟩:=h; exact z
 | _=>cases ha
theorem io_own {c:Addr} {ds:List D} {xs:List V} (h:H c=some (.lst xs)) (r:Reps K B ds xs):OwnAt K B H (.io c ds) c:=⟨xs,h,rfl,r⟩
theorem Slots.io (S:Slots K H0 B H τ σ) {j:Nat} {ds:List D} (e:τ[j]?=some (some (.own (.lst ds)))):∃ c,Slots K H0 B H (τ.set j (some (.own (.io c ds)))) σ:=by
 obtain ⟨c,q,h0,hb,xs,hx,rp⟩:=S.own j _ e
 refine ⟨c,by rw [List.length_set,S.len],fun k d q'=>?_,fun k d q'=>?_,fun k d q'=>?_,fun k l d f b q1 q2 q3 q4=>?_⟩
 ·rcases getSet q' with ⟨rfl,z,_⟩ | ⟨_,q'⟩
  ·cases z
  ·exact S.val k d q'
 ·rcases getSet q' with ⟨rfl,z,_⟩ | ⟨_,q'⟩
  ·cases z
  ·exact S.fz k d q'
 ·rcases getSet q' with ⟨rfl,z,_⟩ | ⟨_,q'⟩
  ·cases z
   exact ⟨c,q,h0,hb,io_own hx rp⟩
  ·exact S.own k d q'
 ·have hk:∃ d',τ[k]?=some (some (.own d')):=by
   rcases getSet q1 with ⟨rfl,_,_⟩ | ⟨_,q'⟩
   ·exact ⟨_,e⟩
   ·exact ⟨_,q'⟩
  have hl:∃ d',τ[l]?=some (some (.own d')):=by
   rcases getSet q2 with ⟨rfl,_,_⟩ | ⟨_,q'⟩
   ·exact ⟨_,e⟩
   ·exact ⟨_,q'⟩
  obtain ⟨_,hk⟩:=hk
  obtain ⟨_,hl⟩:=hl
  exact S.sep k l _ _ b hk hl q3 q4
def vIo (j:Nat) (t:TVS):TVS:=fun Dv τ=>match τ[j]? with
 | some (some (.own (.lst ds)))=>∀ c:Addr,t Dv (τ.set j (some (.own (.io c ds))))
 | _=>False
theorem vss_io (j:Nat) (h:VSs X EX rest t):VSs X EX rest (vIo j t) :=
 let ⟨_,a1,a2⟩:=h.u; ⟨_,a1,fun B0 H0 B H τ σ Dv Dh p S h E=>by
  unfold vIo at h
  split at h
  ·rename_i ds e
   obtain ⟨c,S2⟩:=S.io e
   exact a2 B0 H0 B H _ σ _ _ p S2 (h c) E
  ·exact h.elim⟩
def vVarI (i:Nat):TV:=fun τ Q=>match τ[i]? with
 | some (some (.own (.io _ ds)))=>Q (.peek (.lst ds))
 | _=>False
theorem rf_varI {i:Nat}:RfE K EX (tVar i) (vVarI i):=fun H0 B H τ σ Q Qd s S h _ k=>by
 unfold vVarI at h
 split at h
 ·rename_i c ds e
  obtain ⟨ad,q,_,hb,ow⟩:=S.own i _ e
  obtain ⟨_,xs,hx,rp⟩:=own_io ow
  exact ⟨.ref ad,q,k (.peek (.lst ds)) (.ref ad) B H (.refl s) ⟨ad,rfl,hb,xs,hx,rp⟩ h⟩
 ·exact h.elim
theorem vvI (i:Nat) (hN:X.N[i]?=some x:=by rfl) (hv:Vis X.env.scope x:=by first | exact Or.inl rfl | exact Or.inr (Or.inl rfl) | exact Or.inr (Or.inr rfl)) (hd:(x == ("__debug__" : Str))=false:=by decide)
  (hcd:(x == ("__classdict__" : Str))=false:=by decide):VE X EX (.Name x pos) (vVarI i):=⟨_,qv i hN hv hd hcd,rf_varI⟩
def vAppendI (i:Nat) (te:TV):TVS:=fun Dv τ=>match τ[i]? with
 | some (some (.own (.io c ds)))=>te τ fun r=>exS τ Dv r (pubR r fun d=>ds.length < sizeLine∧Dv.nx (τ.set i (some (.own (.io c (ds++[d]))))))
 | _=>False
theorem vs_appendI (i:Nat) (h:VE X EX e te) (hN:X.N[i]?=some x:=by rfl) (hv:Vis X.env.scope x:=by first | exact Or.inl rfl | exact Or.inr (Or.inl rfl) | exact Or.inr (Or.inr rfl)) (hd:(x == ("__debug__" : Str))=false:=by decide)
  (hcd:(x == ("__classdict__" : Str))=false:=by decide) (hp:plainE e=true:=by rfl)
  (hbase:attributeBase (.Name x p) "append" X.env (eval (.Name x p) X.env)=eval (.Name x p) X.env:=by rfl) (hline:(apos.endLine == cpos.line)=true:=by rfl)
  (hs:swapsWith (.Call (.Attribute (.Name x p) "append" apos) [e] [] cpos) none pos.line X.env=pure false:=by rfl) :
  VS X EX (.Expr (.Call (.Attribute (.Name x p) "append" apos) [e] [] cpos) pos) (vAppendI i te) :=
 let ⟨_,a1,a2⟩:=h.u; ⟨_,qs_expr (qbm PySem.F.plainAttrs_list PySem.F.slot_list_append PySem.F.type_list_append mt_append (qv i hN hv hd hcd) (qac a1 qa_nil hp) (by simp [hp]) rfl hbase hline) hs,fun B0 H0 B H τ σ Dv Dh p S h E=>by
  unfold vAppendI at h
  split at h
  ·rename_i c ds e1
   obtain ⟨ad,e2,h0,_,ow⟩:=S.own i _ e1
   obtain ⟨rfl,xs,e3,_⟩:=own_io ow
   refine ⟨.ref ad,e2,.inl ⟨rfl,xs,SqL.of e3⟩,a2 H0 B H τ σ _ _ p.s S h (E.raised p S) fun r v B' H' q hr hq=>?_⟩
   obtain ⟨d,B2,q2,_,rp,hz,hn⟩:=pub q hr (hr.okS hq)
   have S2:=S.step q2
   obtain ⟨a',q1,_,hb2,ow2⟩:=S2.own i _ e1
   rw [e2] at q1
   cases q1
   obtain ⟨_,xs2,q4,q3⟩:=own_io ow2
   refine ⟨ad,xs2,v,rfl,rfl,q4,by rw [← q3.length]; exact hz,?_⟩
   exact E.nx B2 _ _ σ ((p.trans q2).upd h0 hb2) (S2.upd e1 e2 (io_own upd_same (q3.append (.one rp)))) hn
  ·exact h.elim⟩
def vRetI (te:TV):TVS:=fun Dv τ=>te τ fun r=>exS τ Dv r (pubR r fun _=>Dv.ro τ r)
theorem vs_retI (h:VE X EX e te):VS X EX (.Return (some e) pos) (vRetI te) :=
 let ⟨_,a1,a2⟩:=h.u; ⟨_,qs_ret a1,fun B0 H0 B H τ σ Dv Dh p S h E=>a2 H0 B H τ σ _ _ p.s S h (E.raised p S) fun r v B' H' q hr hq=>by
  cases r with
  | val d=>exact E.ro (.val d) v B' H' τ σ (p.trans q) (S.step q) hr (fun _ _ _ _ z=>by cases z) hq
  | own d =>
   refine E.ro (.own d) v B' H' τ σ (p.trans q) (S.step q) (hr.back p.h) (fun _ _ i c _ e ha z=>?_) hq
   obtain ⟨ad,rfl,hn,_⟩:=hr
   cases z
   obtain ⟨a',_,_,_,ow⟩:=S.own i _ e
   have:=ow.some
   rw [own_ioA ow ha] at this
   exact this hn
  | peek d=>exact hq.elim
  | exc n=>exact hr.elim⟩
def RfAI (K:PySem.W.Frag) (EX:St→XK) (te:TA) (t:TVA) (k j:Nat):Prop:=∀ (H0 B H:Hp) (τ:VSt) (σ:St) (Q:List V→Hp→Prop) (Qd:AR→Prop),Same B H→Slots K H0 B H τ σ→(∃ c ps,τ[j]?=some (some (R.own (.io c ps))))→t τ Qd→(∀ n C B' H',Stp B H B' H'→clsOf K n C→Qd (.exc n)→EX σ (.ref C) none H') →
 (∀ ds vs B' H' ad,Stp B H B' H'→k≤vs.length→σ[j]?=some (some (.ref ad))→Reps K B' ds vs→Qd (.ok ds)→Q (vs.insertIdx k (.ref ad)) H')→te σ H Q
structure VAI (X:Cx) (EX:St→XK) (es:List Expr) (t:TVA) (k j:Nat):Prop where
 u:∃ te,QA X es te∧RfAI X.K EX te t k j
theorem vai_here (j:Nat) (hr:VA X EX es tA) (hN:X.N[j]?=some x:=by rfl) (hv:Vis X.env.scope x:=by first | exact Or.inl rfl | exact Or.inr (Or.inl rfl) | exact Or.inr (Or.inr rfl)) (hd:(x == ("__debug__" : Str))=false:=by decide)
  (hcd:(x == ("__classdict__" : Str))=false:=by decide):VAI X EX (.Name x pos :: es) tA 0 j :=
 let ⟨_,b1,b2⟩:=hr.u; ⟨_,qac (qv j hN hv hd hcd) b1 rfl,fun H0 B H τ σ Q Qd s S ⟨c,ps,e⟩ h xc k=>by
  obtain ⟨ad,q,_,hb,ow⟩:=S.own j _ e
  exact ⟨.ref ad,q,b2 H0 B H τ σ _ _ s S h xc fun ds vs B1 H1 p1 q1 h1=>k ds vs B1 H1 ad p1 (Nat.zero_le _) q q1 h1⟩⟩
theorem vai_c {k j:Nat} (ha:VE X EX e te) (hr:VAI X EX es tA k j) (hs:plainE e=true:=by rfl):VAI X EX (e :: es) (vCons te tA) (k+1) j :=
 let ⟨_,a1,a2⟩:=ha.u; let ⟨_,b1,b2⟩:=hr.u; ⟨_,qac a1 b1 hs,fun H0 B H τ σ Q Qd s S io h xc kk=>a2 H0 B H τ σ _ _ s S h xc fun r v B1 H1 p q h1=>by
  obtain ⟨d,B2,p2,_,rp,h2⟩:=pub p q (q.okA h1)
  refine b2 H0 B2 H1 τ σ _ _ p2.s (S.step p2) io h2 (xst xc p2) fun ds vs B3 H3 ad p3 lk hj q3 h3=>?_
  exact kk (d :: ds) (v :: vs) B3 H3 ad (p2.trans p3) (Nat.succ_le_succ lk) hj (by unfold Reps; exact ⟨v,vs,rfl,rp.same p3.b,q3⟩) h3⟩
abbrev DPI:=List D→List D→(R→List D→Prop)→Prop
def spOfI (K:PySem.W.Frag) (g:DPI) (k:Nat):Sp:=fun vs H Q _=>∃ ds ws B c ps Qd,Same B H∧Reps K B ds ws∧k≤ws.length∧vs=ws.insertIdx k (.ref c)∧B c=none∧OwnAt K B H (.io c ps) c∧g ds ps Qd ∧
 ∀ r v B' H' ps',Qd r ps'→Stp B (hidH H c) B' H'→B' c=none→OwnAt K B' H' (.io c ps') c→RepR K B' (hidH H c) H' r v→(∀ d,r=.own d→v≠.ref c)→Q v H'
def ioOut (k:Nat) (c:Addr) (τ:VSt) (P:List D→Prop):Prop:=match τ[k]? with
 | some (some (.own (.io c' ps)))=>c'=c∧P ps
 | _=>False
theorem ioOut_of {k:Nat} {c:Addr} {P:List D→Prop} (h:ioOut k c τ P):∃ ps,τ[k]?=some (some (.own (.io c ps)))∧P ps:=by
 unfold ioOut at h
 split at h
 ·rename_i c' ps e
  obtain ⟨rfl,h⟩:=h
  exact ⟨ps,e,h⟩
 ·exact h.elim
abbrev EnI (k:Nat) (c:Addr) (Q:R→List D→Prop):VEnds:={ nx:=fun τ=>ioOut k c τ (Q (.val .non)),rt:=fun _=>False,ro:=fun τ r=>ioOut k c τ (Q r) }
def startI (N:List Str) (k:Nat) (c:Addr) (ds ps:List D):VSt:=(ds.map fun d=>some (R.val d)).insertIdx k (some (.own (.io c ps)))++List.replicate (N.length - (ds.length+1)) none
theorem Slots.consV {d:D} (S:Slots K H0 B H τ σ) (h:Rep K B d v):Slots K H0 B H (some (.val d) :: τ) (some v :: σ):=by
 refine ⟨by have:=S.len; simp [this],fun i f e=>?_,fun i f e=>?_,fun i f e=>?_,fun i j f g ad e1 e2 e3 e4=>?_⟩
 ·cases i with
  | zero=>simp at e; subst e; exact ⟨v,rfl,h⟩
  | succ i=>simpa using S.val i f (by simpa using e)
 ·cases i with
  | zero=>simp at e
  | succ i=>simpa using S.fz i f (by simpa using e)
 ·cases i with
  | zero=>simp at e
  | succ i=>simpa using S.own i f (by simpa using e)
 ·cases i with
  | zero=>simp at e1
  | succ i =>
   cases j with
   | zero=>simp at e2
   | succ j =>
    rw [S.sep i j f g ad (by simpa using e1) (by simpa using e2) (by simpa using e3) (by simpa using e4)]
theorem Slots.consO {d:D} {ds:List D} {c:Addr} (S:Slots K H0 B H (ds.map fun d=>some (R.val d)) σ) (h0:H0 c=none) (hb:B c=none) (o:OwnAt K B H d c):Slots K H0 B H (some (.own d) :: ds.map fun d=>some (R.val d)) (some (.ref c) :: σ):=by
 refine ⟨by have:=S.len; simp [this],fun i f e=>?_,fun i f e=>?_,fun i f e=>?_,fun i j f g ad e1 e2 e3 e4=>?_⟩
 ·cases i with
  | zero=>simp at e
  | succ i=>simpa using S.val i f (by simpa using e)
 ·cases i with
  | zero=>simp at e
  | succ i=>simp at e
 ·cases i with
  | zero=>simp at e; subst e; exact ⟨c,rfl,h0,hb,o⟩
  | succ i=>simp at e
 ·cases i with
  | zero =>
   cases j with
   | zero=>rfl
   | succ j=>simp at e2
  | succ i=>simp at e1
theorem startI_slots {c:Addr} {ps:List D} (h0:H0 c=none) (hb:B c=none) (o:OwnAt K B H (.io c ps) c):∀ (k:Nat) {ds:List D} {ws:List V},Reps K B ds ws→k≤ws.length→Slots K H0 B H ((ds.map fun d=>some (R.val d)).insertIdx k (some (.own (.io c ps)))) ((ws.insertIdx k (.ref c)).map some)
 | 0,ds,ws,h,_=>by
  rw [List.insertIdx_zero,List.insertIdx_zero]
  exact (reps_slots h).consO h0 hb o
 | k+1,ds,ws,h,l=>by
  cases ds with
  | nil =>
   unfold Reps at h
   subst h
   exact absurd l (by simp)
  | cons d ds =>
   unfold Reps at h
   obtain ⟨w,ws,rfl,h1,h2⟩:=h
   rw [List.map_cons,List.insertIdx_succ_cons,List.insertIdx_succ_cons,List.map_cons]
   exact (startI_slots h0 hb o k h2 (Nat.le_of_succ_le_succ l)).consV h1
theorem Fun.okI {P:Program} {w:World} {mg:Str→Option Value} {base:Heap} {x qual:Str} {st:Stmt} {f:Addr} {fd:FuncData} {N ps:List Str} {k m:Nat} {g:DPI} (F:Fun K x qual st f fd) (S:FnScope N ps (defScope st)) (len:∀ ds zs Q,g ds zs Q→ds.length+1=ps.length)
  (hbody:∀ (cdv:Value) (A:Around) (outer:List Env) (s:Shared) (H:Hp) (E:XK),Room m (A.deeper (envOfC qual (defScope st) s.heap.objs.size f cdv)) →
   ∃ t,VSs (cxOf CX0 P w K mg base N qual (defScope st) f cdv A outer s H E).nox EX0 (defBody st) t∧∀ ds zs c Q,g ds zs Q→t (EnI k c Q) (startI N k c ds zs)):FnOk P w K mg base CX0 (m+1) f fd ps (spOfI K g k):=by
 refine F.okQ S (fun vs H Q E h=>?_) (fun cdv A outer s H vs Q E hr h=>?_)
 ·obtain ⟨ds,ws,B,c,zs,Qd,_,rp,lk,rfl,_,_,hg,_⟩:=h
  rw [List.length_insertIdx_of_le_length lk,← rp.length]
  exact len ds zs Qd hg
 ·obtain ⟨ds,ws,B,c,zs,Qd,sm,rp,lk,rfl,hb,ow,hg,kk⟩:=h
  obtain ⟨t,⟨ts,q1,q2⟩,ht⟩:=hbody cdv A outer s H E hr
  refine ⟨ts,q1,q2 B (hidH H c) B H (startI N k c ds zs) (start N (ws.insertIdx k (.ref c))) _ _ ⟨Same.refl _,hid_same,sm,fun _ z=>.inl z⟩ ?_ (ht ds zs c Qd hg) ⟨fun B' H' τ σ p S h=>?_,fun _ _ _ _ _ _ h=>h.elim,fun _ _ _ _ _ _ h=>h.elim,fun _ _ _ _ _ _ h=>h.elim,fun _ _ _ _ _ _ _ _ _ h=>h.elim,fun r v B' H' τ σ p S hr ne h=>?_⟩⟩
  ·unfold startI start
   rw [rp.length,List.length_insertIdx_of_le_length lk]
   exact (startI_slots hid_at hb ow k rp lk).more _
  ·obtain ⟨qs,e,q⟩:=ioOut_of h
   obtain ⟨a',_,_,hb',ow'⟩:=S.own k _ e
   obtain ⟨rfl,_⟩:=own_io ow'
   exact kk (.val .non) .non B' H' qs q p hb' ow' (repV rfl) fun _ z=>by cases z
  ·obtain ⟨qs,e,q⟩:=ioOut_of h
   obtain ⟨a',_,_,hb',ow'⟩:=S.own k _ e
   obtain ⟨rfl,_⟩:=own_io ow'
   exact kk r v B' H' qs q p hb' ow' hr fun d z=>ne d _ k _ z e rfl
theorem Stp.lent {c:Addr} (p:Stp B0 H0 B1 H1) (h0:H0 c=none) (q:Stp B1 (hidH H1 c) B' H') (hb:B' c=none):Stp B0 H0 B' H' :=
 ⟨p.b.trans q.b,fun b o e=>by
  have n:b≠c:=fun z=>by rw [z,h0] at e; cases e
  exact q.h _ _ (by rw [hid_ne n]; exact p.h _ _ e),q.s,fun b z=>by
  have n:b≠c:=fun w=>by rw [w] at z; exact z hb
  rcases q.d b z with w | w | ⟨xs,w⟩
  ·exact p.d b w
  ·rw [hid_ne n] at w
   exact .inr (.inl (p.h.free w))
  ·rw [hid_ne n] at w
   cases e:H0 b with
   | none=>exact .inr (.inl rfl)
   | some o =>
    rw [p.h _ _ e] at w
    exact .inr (.inr ⟨xs,w⟩)⟩
theorem Slots.lent {c:Addr} {j:Nat} {ps qs:List D} (S:Slots K H0 B1 H1 τ σ) (e:τ[j]?=some (some (.own (.io c ps)))) (q:Stp B1 (hidH H1 c) B' H') (hb:B' c=none) (o:OwnAt K B' H' (.io c qs) c):Slots K H0 B' H' (τ.set j (some (.own (.io c qs)))) σ:=by
 obtain ⟨a',e1,h0,_,ow⟩:=S.own j _ e
 obtain ⟨rfl,_⟩:=own_io ow
 refine ⟨by rw [List.length_set,S.len],fun k d q'=>?_,fun k d q'=>?_,fun k d q'=>?_,fun k l d f b q1 q2 q3 q4=>?_⟩
 ·rcases getSet q' with ⟨rfl,z,_⟩ | ⟨_,q'⟩
  ·cases z
  ·obtain ⟨w,w1,w2⟩:=S.val k d q'
   exact ⟨w,w1,w2.same q.b⟩
 ·rcases getSet q' with ⟨rfl,z,_⟩ | ⟨_,q'⟩
  ·cases z
  ·obtain ⟨w,w1,w2⟩:=S.fz k d q'
   exact ⟨w,w1,w2.same q.b⟩
 ·rcases getSet q' with ⟨rfl,z,_⟩ | ⟨n,q'⟩
  ·cases z
   exact ⟨_,e1,h0,hb,o⟩
  ·obtain ⟨b,w1,w2,w3,w4⟩:=S.own k d q'
   have nb:b≠a':=fun z=>n (S.sep j k _ _ a' e q' e1 (by rw [← z]; exact w1))
   have hs:hidH H1 a' b≠none:=by rw [hid_ne nb]; exact w4.some
   refine ⟨b,w1,w2,q.keep w3 hs (fun xs=>by rw [hid_ne nb]; exact w4.nt xs),w4.step q.b ?_⟩
   rw [q.h.at hs,hid_ne nb]
 ·have hk:∃ d',τ[k]?=some (some (.own d')):=by
   rcases getSet q1 with ⟨rfl,_,_⟩ | ⟨_,q'⟩
   ·exact ⟨_,e⟩
   ·exact ⟨_,q'⟩
  have hl:∃ d',τ[l]?=some (some (.own d')):=by
   rcases getSet q2 with ⟨rfl,_,_⟩ | ⟨_,q'⟩
   ·exact ⟨_,e⟩
   ·exact ⟨_,q'⟩
  obtain ⟨_,hk⟩:=hk
  obtain ⟨_,hl⟩:=hl
  exact S.sep k l _ _ b hk hl q3 q4
theorem pubI {c:Addr} {Hh:Hp} {Q:D→Prop} (q:Stp B1 Hh B' H') (hc:B' c=none) (h:RepR K B' Hh H' r v) (ne:∀ d,r=.own d→v≠.ref c) (hq:pubR r Q):∃ d B2,Stp B1 Hh B2 H'∧Same B' B2∧B2 c=none∧Rep K B2 d v∧Q d:=by
 cases r with
 | val d=>exact ⟨d,B',q,Same.refl _,hc,h,hq⟩
 | own d =>
  have ne':=ne d rfl
  obtain ⟨ad,rfl,h0,hb,o⟩:=h
  obtain ⟨u,e,rp⟩:=o.pub hb
  have n:c≠ad:=fun z=>ne' (by rw [z])
  refine ⟨d,upd B' ad u,⟨q.b.trans (same_upd hb _),q.h,same_updL q.s e,fun b z=>?_⟩,same_upd hb _,by rw [upd_ne n]; exact hc,rp,hq⟩
  by_cases w:b=ad
  ·exact .inr (.inl (w ▸ h0))
  ·rw [upd_ne w] at z
   exact q.d b z
 | peek d=>exact hq.elim
 | exc n=>exact hq.elim
def vCallI (g:DPI) (j:Nat) (tA:TVA) (τ:VSt) (k:D→VSt→Prop):Prop:=match τ[j]? with
 | some (some (.own (.io c ps)))=>tA τ fun a=>match a with
  | .ok ds=>g ds ps fun r qs=>pubR r fun d=>k d (τ.set j (some (.own (.io c qs))))
  | .exc _=>False
 | _=>False
theorem rf_callI {g:DPI} {j k:Nat} {teA:TA} (hA:RfAI K EX teA tA k j) {Q:VK} {P:D→VSt→Prop} (pp:Stp B0 H0 B H) (S:Slots K H0 B H τ σ) (h:vCallI g j tA τ P) (kk:∀ d τ' v B' H',Stp B0 H0 B' H'→Slots K H0 B' H' τ' σ→Rep K B' d v→P d τ'→Q v H'):tCall (spOfI K g k) [] E0 teA σ H Q:=by
 unfold vCallI at h
 split at h
 ·rename_i c ps e
  refine hA H0 B H τ σ _ _ pp.s S ⟨c,ps,e⟩ h (xno fun _ q=>q) fun ds vs B1 H1 ad p1 lk hj rp h1=>?_
  have S1:=S.step p1
  obtain ⟨a',e1,h0,hb,ow⟩:=S1.own j _ e
  obtain ⟨rfl,_⟩:=own_io ow
  rw [hj] at e1
  cases e1
  refine ⟨ds,vs,B1,ad,ps,_,p1.s,rp,lk,by rw [List.append_nil],hb,ow,h1,fun r v B' H' qs hq q hc o hr ne=>?_⟩
  obtain ⟨d,B2,q2,s2,hc2,rp2,hd⟩:=pubI q hc hr ne hq
  exact kk d _ v B2 H' ((pp.trans p1).lent h0 q2 hc2) (S1.lent e q2 hc2 (o.step s2 rfl)) rp2 hd
 ·exact h.elim
def vSetCI (i:Nat) (g:DPI) (j:Nat) (tA:TVA):TVS:=fun Dv τ=>vCallI g j tA τ fun d τ'=>Dv.nx (τ'.set i (some (.val d)))
theorem vs_setCI {i m k j:Nat} {ps:List Str} {g:DPI} (hN:X.N.Nodup) (hi:X.N[i]?=some y) (hx:Loc X.env.scope y) (C:Cal X.prog X.w X.K X.mg X.base m x ps (spOfI X.K g k)) (hr:Room m X.A) (hg:Gl X x) (ha:VAI X EX (e :: es) tA k j) (hp:(e :: es).all plainE=true:=by rfl) (hdb:(x == ("__debug__" : Str))=false:=by decide)
  (hs:swapsWith (.Call (.Name x p) (e :: es) [] p2) (some (.Name y pos')) pos.line X.env=pure false:=by rfl)
  (hf:X.fn y=true∨X.env.scope.names.lookup y=some .local:=by first | exact .inl rfl | exact .inr rfl | assumption):VS X EX (.Assign [.Name y pos'] (.Call (.Name x p) (e :: es) [] p2) pos) (vSetCI i g j tA) :=
 let ⟨_,a1,a2⟩:=ha.u; ⟨_,qs_set hN hi hx (qe_cal C hr hg a1 hp hdb) hs hf,fun B0 H0 B H τ σ Dv Dh p S h E=>rf_callI a2 p S h fun d τ' v B' H' q S' rp hd=>E.nx B' H' _ _ q (S'.setVal i rp) hd⟩
def vAsgI (g:DPI) (j:Nat) (tA:TVA) (tg:TVG):TVS:=fun Dv τ=>vCallI g j tA τ fun d τ'=>tg d τ' Dv.nx
theorem vs_asgI {m k j:Nat} {ps:List Str} {g:DPI} {tg:Expr} {tv:TVG} (C:Cal X.prog X.w X.K X.mg X.base m x ps (spOfI X.K g k)) (hr:Room m X.A) (hg:Gl X x) (ha:VAI X EX (e :: es) tA k j) (ht:VG X tg tv) (hp:(e :: es).all plainE=true:=by rfl) (hdb:(x == ("__debug__" : Str))=false:=by decide)
  (hs:swapsWithSole [tg] (.Call (.Name x p) (e :: es) [] p2) pos.line X.env=pure false:=by rfl) (hw:swappedStores [tg] (.Call (.Name x p) (e :: es) [] p2) X.env=pure none:=by rfl)
  (h1:(assignEach [tg] X.env).map (·.2)=[assign tg X.env]:=by rfl):VS X EX (.Assign [tg] (.Call (.Name x p) (e :: es) [] p2) pos) (vAsgI g j tA tv) :=
 let ⟨_,a1,a2⟩:=ha.u; let ⟨_,b1,b2⟩:=ht.u; ⟨_,qs_asg (qe_cal C hr hg a1 hp hdb) b1 hs hw h1,fun B0 H0 B H τ σ Dv Dh p S h E=>rf_callI a2 p S h fun d τ' v B' H' q S' rp hd=>b2 H0 B' H' τ' σ v d _ _ q.s S' rp hd fun τ2 σ2 S2 _ h2=>E.nx B' H' _ _ q S2 h2⟩
end
section
variable {K:PySem.W.Frag} {x qual:Str} {st:Stmt} {f:Addr} {fd:FuncData} {ps:List Str}
theorem len_cons {α:Type} {us:List α} {n:Nat} (h:us.length=n+1):∃ a t,us=a :: t∧t.length=n:=by
 cases us with
 | nil=>cases h
 | cons a t=>exact ⟨a,t,rfl,Nat.succ.inj h⟩
theorem Fun.binds1 (F:Fun K x qual st f fd) (hp:ps.length=1) (h:∀ (kV doc pm:Value) (an:Option Addr) (cdv ct a0:Value),bindArgs (PySem.W.fnOf x qual (defArgs st) (defBody st) (defScope st) .none kV doc pm an cdv ct) ⟨[a0],[]⟩=pure (ps.zip [a0])):Binds K fd ps [] :=
 F.binds fun kV doc pm an cdv ct us hl=>by
  obtain ⟨a0,t,rfl,h0⟩:=len_cons (hl.trans hp)
  cases List.length_eq_zero_iff.mp h0
  exact h kV doc pm an cdv ct a0
theorem Fun.binds2 (F:Fun K x qual st f fd) (hp:ps.length=2) (h:∀ (kV doc pm:Value) (an:Option Addr) (cdv ct a0 a1:Value),bindArgs (PySem.W.fnOf x qual (defArgs st) (defBody st) (defScope st) .none kV doc pm an cdv ct) ⟨[a0,a1],[]⟩=pure (ps.zip [a0,a1])):Binds K fd ps [] :=
 F.binds fun kV doc pm an cdv ct us hl=>by
  obtain ⟨a0,t,rfl,h0⟩:=len_cons (hl.trans hp)
  obtain ⟨a1,t,rfl,h1⟩:=len_cons h0
  cases List.length_eq_zero_iff.mp h1
  exact h kV doc pm an cdv ct a0 a1
theorem Fun.binds3 (F:Fun K x qual st f fd) (hp:ps.length=3) (h:∀ (kV doc pm:Value) (an:Option Addr) (cdv ct a0 a1 a2:Value),bindArgs (PySem.W.fnOf x qual (defArgs st) (defBody st) (defScope st) .none kV doc pm an cdv ct) ⟨[a0,a1,a2],[]⟩=pure (ps.zip [a0,a1,a2])):Binds K fd ps [] :=
 F.binds fun kV doc pm an cdv ct us hl=>by
  obtain ⟨a0,t,rfl,h0⟩:=len_cons (hl.trans hp)
  obtain ⟨a1,t,rfl,h1⟩:=len_cons h0
  obtain ⟨a2,t,rfl,h2⟩:=len_cons h1
  cases List.length_eq_zero_iff.mp h2
  exact h kV doc pm an cdv ct a0 a1 a2
theorem Fun.binds4 (F:Fun K x qual st f fd) (hp:ps.length=4) (h:∀ (kV doc pm:Value) (an:Option Addr) (cdv ct a0 a1 a2 a3:Value),bindArgs (PySem.W.fnOf x qual (defArgs st) (defBody st) (defScope st) .none kV doc pm an cdv ct) ⟨[a0,a1,a2,a3],[]⟩=pure (ps.zip [a0,a1,a2,a3])):Binds K fd ps [] :=
 F.binds fun kV doc pm an cdv ct us hl=>by
  obtain ⟨a0,t,rfl,h0⟩:=len_cons (hl.trans hp)
  obtain ⟨a1,t,rfl,h1⟩:=len_cons h0
  obtain ⟨a2,t,rfl,h2⟩:=len_cons h1
  obtain ⟨a3,t,rfl,h3⟩:=len_cons h2
  cases List.length_eq_zero_iff.mp h3
  exact h kV doc pm an cdv ct a0 a1 a2 a3
end
end L2
namespace L2
open PySem PySem.Spec PyProof.Rows
section
variable {X:Cx} {EX:St→XK} {a b e:Expr} {es:List Expr} {pos p tp:Pos} {tA:TVA} {te:TV}
end
end L2
namespace L2
open PySem PySem.Spec PyProof.Rows
section
variable {X:Cx} {EX:St→XK} {K:PySem.W.Frag} {B H B' H' H0 B0 B1 H1:Hp} {st:Stmt} {rest:List Stmt} {t u:TVS} {e a:Expr} {te ta tk:TV} {tT:TVT} {tA:TVA} {es:List Expr} {pos pos' p p2 apos cpos:Pos} {x y:Str} {τ:VSt} {σ:St} {r:R} {v:V}
def RfAIT (K:PySem.W.Frag) (EX:St→XK) (te:TA) (t:TVA) (k j:Nat):Prop:=∀ (H0 B H:Hp) (τ:VSt) (σ:St) (Q:List V→Hp→Prop) (Qd:AR→Prop),Same B H→Slots K H0 B H τ σ→(∃ ks ps,τ[j]?=some (some (R.own (.dT ks ps))))→t τ Qd→(∀ n C B' H',Stp B H B' H'→clsOf K n C→Qd (.exc n)→EX σ (.ref C) none H') →
 (∀ ds vs B' H' ad,Stp B H B' H'→k≤vs.length→σ[j]?=some (some (.ref ad))→Reps K B' ds vs→Qd (.ok ds)→Q (vs.insertIdx k (.ref ad)) H')→te σ H Q
structure VAIT (X:Cx) (EX:St→XK) (es:List Expr) (t:TVA) (k j:Nat):Prop where
 u:∃ te,QA X es te∧RfAIT X.K EX te t k j
end
section
variable {X:Cx} {p kp pos:Pos} {a d:Expr}
end
section
variable {X:Cx} {EX:St→XK} {p kp pos cp:Pos} {a:Expr} {te:TV} {j:Nat}
end
section
variable {prog:Program} {w:World} {A:Around} {E:Value→Shared→Prop} {s:Shared} {d:Addr} {es:Array DictEntry} {ep:Nat}
end
section
variable {X:Cx}
end
section
variable {P:Program} {w:World} {K:PySem.W.Frag} {mg:Str→Option Value} {base h:Heap} {x:Str} {st:Stmt} {k:Nat} {ps:List Str} {sp:Sp}
end
end L2
namespace L2
open PySem PySem.Spec PyProof.Rows
section
variable {X:Cx}
end
end L2
namespace L2
open PySem PySem.Spec PyProof.Rows
section
variable {X:Cx} {EX:St→XK} {K:PySem.W.Frag} {B B' H H0:Hp} {τ:VSt} {σ:St} {x:Str} {e:Expr} {te:TV} {rest:List Stmt} {u:TVS} {pos pos':Pos}
end
end L2
namespace L2
open PySem PySem.Spec PyProof.Rows
section
variable {X:Cx} {EX:St→XK} {e a o i:Expr} {te ta to ti:TV} {pos pos' p p2 apos cpos:Pos} {x:Str} {f:Expr} {tf:TV}
end
end L2
namespace L2
open PySem PySem.Spec PyProof.Rows
section
variable {X:Cx}
end
end L2
namespace PySem
section
variable {prog:Program} {w:World} {K:Type} [DecidableEq K] {knd:HeapKind prog w K} {A:Around} {E:Value→Shared→Prop} {s:Shared}
end
section
variable {prog:Program} {w:World} {K:Type} [DecidableEq K] (knd:HeapKind prog w K) (d a:Addr)
end
end PySem
namespace L2
open PySem PySem.Spec PyProof.Rows
section
variable {X:Cx} {pins:List (Addr × Obj)} {σ:St} {H:Hp} {s:Shared} {a b:Addr} {u r:Value} {d:V} {A:Around} {E:Value→Shared→Prop}
end
end L2
namespace L2
open PySem PySem.Spec PyProof.Rows
section
variable {X:Cx} {o e f:Expr} {apos cpos:Pos} {td ty tx:TE}
end
section
variable {X:Cx} {EX:St→XK} {K:PySem.W.Frag} {B H B' H' H0 B0 B1 H1:Hp} {st:Stmt} {rest:List Stmt} {t u:TVS} {e f a:Expr} {te ta tk tf:TV} {tT:TVT} {tA:TVA} {es:List Expr} {pos pos' p p2 p3 apos cpos:Pos} {x y:Str} {τ:VSt} {σ:St} {r:R} {v:V}
def ioL (τ:VSt) (i:Nat) (k:Addr→List D→Prop):Prop:=match τ[i]? with
 | some (some (.own (.io c ds)))=>k c ds
 | _=>False
def vRetCI (g:DPI) (j:Nat) (tA:TVA):TVS:=fun Dv τ=>vCallI g j tA τ fun d τ'=>Dv.ro τ' (.val d)
theorem vs_retCI {m k j:Nat} {ps:List Str} {g:DPI} (C:Cal X.prog X.w X.K X.mg X.base m x ps (spOfI X.K g k)) (hr:Room m X.A) (hg:Gl X x) (ha:VAI X EX (e :: es) tA k j) (hp:(e :: es).all plainE=true:=by rfl) (hdb:(x == ("__debug__" : Str))=false:=by decide):VS X EX (.Return (some (.Call (.Name x p) (e :: es) [] p2)) pos) (vRetCI g j tA) :=
 let ⟨_,a1,a2⟩:=ha.u; ⟨_,qs_ret (qe_cal C hr hg a1 hp hdb),fun B0 H0 B H τ σ Dv Dh p S h E=>rf_callI a2 p S h fun d τ' v B' H' q S' rp hd=>E.ro (.val d) v B' H' τ' σ q S' rp (fun _ _ _ _ z=>by cases z) hd⟩
end
end L2
namespace PySem
namespace SetTable
def stp5:Nat→Nat→Nat
 | 0,x=>x
 | n+1,x=>stp5 n (x * 5+1)
theorem stp5_add:∀ (n m x:Nat),stp5 (n+m) x=stp5 m (stp5 n x)
 | 0,m,x=>by rw [Nat.zero_add]; rfl
 | n+1,m,x=>by
  rw [show n+1+m=(n+m)+1 by lia]
  show stp5 (n+m) (x * 5+1)=stp5 m (stp5 n (x * 5+1))
  exact stp5_add n m _
theorem stp5_pow:∀ k:Nat,∃ c:Nat,∀ x,stp5 (2 ^ k) x=x+2 ^ k * (2 * c+1) * (4 * x+1)
 | 0=>⟨0,fun x=>by show x * 5+1=_; simp; lia⟩
 | k+1=>by
  obtain ⟨c,h⟩:=stp5_pow k
  refine ⟨c+2 ^ k * (2 * c+1) * (2 * c+1),fun x=>?_⟩
  rw [show 2 ^ (k+1)=2 ^ k+2 ^ k by rw [Nat.pow_succ]; lia,stp5_add,h x,h]
  generalize 2 ^ k=P
  generalize hS:P * (2 * c+1)=S
  have e:(P+P) * (2 * (c+S * (2 * c+1))+1)=S * (2+4 * S):=by
   rw [← hS]
   simp only [Nat.mul_add,Nat.add_mul,Nat.mul_one,Nat.one_mul,Nat.mul_assoc,Nat.mul_left_comm,Nat.mul_comm]
   lia
  rw [e]
  simp only [Nat.mul_add,Nat.add_mul,Nat.mul_one,Nat.one_mul,Nat.mul_assoc,Nat.mul_left_comm,Nat.mul_comm]
  lia
theorem stp5_all:∀ (k x q:Nat),∃ n,n < 2 ^ k∧stp5 n x % 2 ^ k=q % 2 ^ k
 | 0,x,q=>⟨0,by decide,by rw [Nat.pow_zero,Nat.mod_one,Nat.mod_one]⟩
 | k+1,x,q=>by
  obtain ⟨n,hn,e⟩:=stp5_all k x q
  obtain ⟨c,hc⟩:=stp5_pow k
  have hp:0 < 2 ^ k:=Nat.pow_pos (by decide)
  have e2:2 ^ (k+1)=2 ^ k * 2:=Nat.pow_succ ..
  generalize hy:stp5 n x=y at e
  by_cases z:y % (2 ^ k * 2)=q % (2 ^ k * 2)
  ·exact ⟨n,by rw [e2]; lia,by rw [e2,hy]; exact z⟩
  ·refine ⟨n+2 ^ k,by rw [e2]; lia,?_⟩
   rw [e2,stp5_add,hy,hc y]
   have e3:y+2 ^ k * (2 * c+1) * (4 * y+1)=(y+2 ^ k)+2 ^ k * 2 * (c * (4 * y+1)+2 * y):=by
    simp only [Nat.mul_add,Nat.add_mul,Nat.mul_one,Nat.one_mul,Nat.mul_assoc,Nat.mul_left_comm,Nat.mul_comm]
    lia
   rw [e3,Nat.add_mul_mod_self_left]
   rw [Nat.mod_mul,Nat.mod_mul,e] at z
   rw [Nat.mod_mul,Nat.mod_mul,Nat.add_mod_right,Nat.add_div_right _ hp,e]
   have a:=Nat.mod_lt (y / 2 ^ k) (show 2 > 0 by decide)
   have b:=Nat.mod_lt (q / 2 ^ k) (show 2 > 0 by decide)
   have n1:y / 2 ^ k % 2≠q / 2 ^ k % 2:=fun w=>z (by rw [w])
   have:(y / 2 ^ k+1) % 2=q / 2 ^ k % 2:=by lia
   rw [this]
def stM (m:Nat):Nat→Nat→Nat
 | 0,x=>x
 | n+1,x=>stM m n ((x * 5+1) % m)
theorem stM_eq (m:Nat):∀ (n x:Nat),stM m n (x % m)=stp5 n x % m
 | 0,x=>rfl
 | n+1,x=>by
  show stM m n ((x % m * 5+1) % m)=stp5 n (x * 5+1) % m
  rw [← stM_eq m n (x * 5+1)]
  congr 1
  rw [Nat.add_mod,Nat.mul_mod,Nat.mod_mod,← Nat.mul_mod,← Nat.add_mod]
theorem stM_all {k x q:Nat} (hx:x < 2 ^ k) (hq:q < 2 ^ k):∃ n,n < 2 ^ k∧stM (2 ^ k) n x=q:=by
 obtain ⟨n,hn,e⟩:=stp5_all k x q
 refine ⟨n,hn,?_⟩
 have:=stM_eq (2 ^ k) n x
 rw [Nat.mod_eq_of_lt hx] at this
 rw [this,e,Nat.mod_eq_of_lt hq]
def leaps (mask:Nat):Nat→Nat × Nat→Nat × Nat
 | 0,p=>p
 | n+1,p=>leaps mask n (leap mask p.1 p.2)
theorem leaps_add (mask:Nat):∀ (n m:Nat) (p:Nat × Nat),leaps mask (n+m) p=leaps mask m (leaps mask n p)
 | 0,m,p=>by rw [Nat.zero_add]; rfl
 | n+1,m,p=>by
  rw [show n+1+m=(n+m)+1 by lia]
  exact leaps_add mask n m _
theorem leaps_pert (mask:Nat):∀ (n:Nat) (p:Nat × Nat),(leaps mask n p).2=p.2 / 32 ^ n
 | 0,p=>by simp [leaps]
 | n+1,p=>by
  show (leaps mask n (leap mask p.1 p.2)).2=_
  rw [leaps_pert mask n]
  show p.2 / 32 / 32 ^ n=_
  rw [Nat.div_div_eq_div_mul,Nat.pow_succ,Nat.mul_comm]
theorem leaps_low {mask:Nat}:∀ (n:Nat) {p:Nat × Nat},p.1≤mask→(leaps mask n p).1≤mask
 | 0,p,h=>h
 | n+1,p,h=>leaps_low n (Nat.le_of_lt_succ (Nat.mod_lt _ (Nat.succ_pos _)))
theorem leaps_zero (mask:Nat):∀ (n i:Nat),leaps mask n (i,0)=(stM (mask+1) n i,0)
 | 0,i=>rfl
 | n+1,i=>by
  show leaps mask n (leap mask i 0)=_
  have:leap mask i 0=((i * 5+1) % (mask+1),0):=by unfold leap; rfl
  rw [this,leaps_zero mask n]
  rfl
theorem bits_lt (h:Int):bits h < 2 ^ 64:=by
 unfold bits
 have h0:=Int.emod_nonneg h (show (2 ^ 64:Int)≠0 by decide)
 have h1:=Int.emod_lt_of_pos h (show (0:Int) < 2 ^ 64 by decide)
 have e:((2 ^ 64:Nat):Int)=2 ^ 64:=by decide
 lia
theorem leaps_all {mask k i per q:Nat} (hm:mask+1=2 ^ k) (hi:i≤mask) (hp:per < 2 ^ 64) (hq:q≤mask):∃ n,n < mask+14∧(leaps mask n (i,per)).1=q:=by
 have h13:(leaps mask 13 (i,per)).2=0:=by
  rw [leaps_pert]
  exact Nat.div_eq_of_lt (Nat.lt_of_lt_of_le hp (by decide))
 have l13:(leaps mask 13 (i,per)).1≤mask:=leaps_low 13 hi
 obtain ⟨n,hn,e⟩:=stM_all (k:=k) (x:=(leaps mask 13 (i,per)).1) (q:=q) (by lia) (by lia)
 refine ⟨13+n,by lia,?_⟩
 rw [leaps_add,show leaps mask 13 (i,per)=((leaps mask 13 (i,per)).1,0) from Prod.ext rfl h13,leaps_zero,hm]
 exact e
end SetTable
end PySem
namespace PySem
namespace SetTable
theorem sub_len {α:Type} [DecidableEq α]:∀ {l l':List α},l.Nodup→(∀ x∈l,x∈l')→l.length≤l'.length
 | [],_,_,_=>Nat.zero_le _
 | a :: l,l',nd,h=>by
  have n:=List.nodup_cons.mp nd
  have ha:=h a List.mem_cons_self
  have:=sub_len (l:=l) (l':=l'.erase a) n.2 fun x m=>(List.mem_erase_of_ne (fun e=>n.1 (by rw [← e]; exact m))).mpr (h x (List.mem_cons_of_mem _ m))
  rw [List.length_erase_of_mem ha] at this
  have:=List.length_pos_of_mem ha
  rw [List.length_cons]
  lia
def Inc (xs:Array Nat):Prop:=∀ i j (hi:i < xs.size) (hj:j < xs.size),i < j→xs[i] < xs[j]
theorem Inc.inj {xs:Array Nat} (h:Inc xs) {i j:Nat} (hi:i < xs.size) (hj:j < xs.size) (e:xs[i]=xs[j]):i=j:=by
 rcases Nat.lt_trichotomy i j with l | l | l
 ·have:=h i j hi hj l; lia
 ·exact l
 ·have:=h j i hj hi l; lia
theorem below_go {xs:Array Nat} (h:Inc xs) (j:Nat):∀ (fuel lo hi:Nat),hi - lo≤fuel→lo≤hi→hi≤xs.size→(∀ i (l:i < xs.size),i < lo→xs[i] < j)→(∀ i (l:i < xs.size),hi≤i→j≤xs[i]) →
  below.go xs j fuel lo hi≤xs.size∧(∀ i (l:i < xs.size),i < below.go xs j fuel lo hi→xs[i] < j)∧(∀ i (l:i < xs.size),below.go xs j fuel lo hi≤i→j≤xs[i])
 | 0,lo,hi,h1,h2,h3,h4,h5=>by
  have:lo=hi:=by lia
  subst this
  exact ⟨h3,h4,h5⟩
 | fuel+1,lo,hi,h1,h2,h3,h4,h5=>by
  unfold below.go
  by_cases l:lo < hi
  ·rw [if_pos l]
   have ml:(lo+hi) / 2 < xs.size:=by lia
   have eg:xs.getD ((lo+hi) / 2) j=xs[(lo+hi) / 2]:=by simp [ml]
   simp only [eg]
   by_cases c:xs[(lo+hi) / 2] < j
   ·rw [if_pos c]
    refine below_go h j fuel _ hi (by lia) (by lia) h3 (fun i li hl=>?_) h5
    rcases Nat.lt_or_ge i ((lo+hi) / 2) with z | z
    ·have:=h i _ li ml z; lia
    ·have:i=(lo+hi) / 2:=by lia
     subst this
     exact c
   ·rw [if_neg c]
    refine below_go h j fuel lo _ (by lia) (by lia) (by lia) h4 (fun i li hl=>?_)
    rcases Nat.lt_or_ge ((lo+hi) / 2) i with z | z
    ·have:=h _ i ml li z; lia
    ·have:i=(lo+hi) / 2:=by lia
     subst this
     lia
  ·rw [if_neg l]
   have:lo=hi:=by lia
   subst this
   exact ⟨h3,h4,h5⟩
theorem below_spec {xs:Array Nat} (h:Inc xs) (j:Nat):below xs j≤xs.size∧(∀ i (l:i < xs.size),i < below xs j→xs[i] < j)∧(∀ i (l:i < xs.size),below xs j≤i→j≤xs[i]) :=
 below_go h j xs.size 0 xs.size (by lia) (Nat.zero_le _) (Nat.le_refl _) (fun i _ z=>absurd z (Nat.not_lt_zero _)) (fun i l z=>absurd l (by lia))
structure TOk (t:SetTable) (n:Nat):Prop where
 mk2:∃ k,t.mask+1=2 ^ k
 big:7≤t.mask
 few:t.mask≤8191
 sz:t.place.size=n
 so:Inc t.place
 lo:∀ j∈t.place.toList,j≤t.mask
 nd:t.dummies=#[]
 fl:n≤t.mask
section
variable {t:SetTable} {n:Nat}
theorem TOk.slot (T:TOk t n) (j:Nat):(j∉t.place.toList∧t.slot j=.empty)∨∃ i,t.place[i]?=some j∧i < n∧t.slot j=.live i:=by
 obtain ⟨b1,b2,b3⟩:=below_spec T.so j
 have dm:has t.dummies j=false:=by rw [T.nd]; rfl
 unfold SetTable.slot
 simp only [dm]
 by_cases m:j∈t.place.toList
 ·obtain ⟨i,hi,e⟩:=List.mem_iff_getElem.mp m
  have hi':i < t.place.size:=by simpa using hi
  have e':t.place[i]=j:=by simpa using e
  have eb:below t.place j=i:=by
   rcases Nat.lt_trichotomy (below t.place j) i with l | l | l
   ·have h1:=b3 (below t.place j) (by lia) (Nat.le_refl _)
    have h2:=T.so _ i (by lia) hi' l
    lia
   ·exact l
   ·have:=b2 i hi' l
    lia
  right
  refine ⟨i,by rw [Array.getElem?_eq_getElem hi',e'],by rw [← T.sz]; exact hi',?_⟩
  rw [eb,Array.getElem?_eq_getElem hi',e']
  simp
 ·left
  refine ⟨m,?_⟩
  have:¬ (t.place[below t.place j]? == some j)=true:=fun z=>by
   have z:t.place[below t.place j]?=some j:=by simpa using z
   obtain ⟨hl,e⟩:=Array.getElem?_eq_some_iff.mp z
   exact m (by rw [← e]; simp)
  rw [if_neg this,if_neg (by decide)]
theorem TOk.room (T:TOk t n):∃ q,q≤t.mask∧t.slot q=.empty:=by
 apply Classical.byContradiction
 intro no
 have all:∀ q∈List.range (t.mask+1),q∈t.place.toList:=fun q m=>by
  have:=List.mem_range.mp m
  rcases T.slot q with ⟨_,e⟩ | ⟨i,e,_⟩
  ·exact absurd ⟨q,by lia,e⟩ no
  ·obtain ⟨hl,e⟩:=Array.getElem?_eq_some_iff.mp e
   rw [← e]; simp
 have:=sub_len List.nodup_range all
 rw [List.length_range] at this
 have e:t.place.toList.length=n:=by simpa using T.sz
 have:=T.fl
 lia
def advs (t:SetTable):Nat→Probe→Probe
 | 0,p=>p
 | n+1,p=>advs t n (t.advance p)
theorem advs_add (t:SetTable):∀ (n m:Nat) (p:Probe),advs t (n+m) p=advs t m (advs t n p)
 | 0,m,p=>by rw [Nat.zero_add]; rfl
 | n+1,m,p=>by
  rw [show n+1+m=(n+m)+1 by lia]
  exact advs_add t n m _
def atLeap (mask:Nat) (x:Nat × Nat):Probe:={ j:=x.1,more:=runEnd mask x.1 - x.1,i:=x.1,perturb:=x.2,dummy:=none }
theorem advs_run (t:SetTable):∀ (k:Nat) (p:Probe),p.more=k→advs t k p={ p with j:=p.j+k,more:=0 }
 | 0,p,h=>by
  show p=_
  cases p
  simp only at h
  subst h
  rfl
 | k+1,p,h=>by
  show advs t k (t.advance p)=_
  have e:t.advance p={ p with j:=p.j+1,more:=p.more - 1 }:=by
   unfold advance
   rw [if_pos (by lia)]
  rw [e,advs_run t k _ (by show p.more - 1=k; lia)]
  show ({ p with j:=p.j+1+k,more:=0 }:Probe)={ p with j:=p.j+(k+1),more:=0 }
  rw [show p.j+1+k=p.j+(k+1) by lia]
theorem advs_leap (t:SetTable) (x:Nat × Nat):∃ n,n≤10∧advs t n (atLeap t.mask x)=atLeap t.mask (leap t.mask x.1 x.2):=by
 refine ⟨(runEnd t.mask x.1 - x.1)+1,?_,?_⟩
 ·unfold runEnd
  split <;> lia
 ·rw [advs_add,advs_run t (runEnd t.mask x.1 - x.1) (atLeap t.mask x) rfl]
  simp only [advs]
  unfold advance
  rw [if_neg (by show ¬ (0 > 0); decide)]
  rfl
theorem advs_leaps (t:SetTable):∀ (m:Nat) (x:Nat × Nat),∃ n,n≤10 * m∧advs t n (atLeap t.mask x)=atLeap t.mask (leaps t.mask m x)
 | 0,x=>⟨0,Nat.le_refl _,rfl⟩
 | m+1,x=>by
  obtain ⟨a,ha,ea⟩:=advs_leap t x
  obtain ⟨b,hb,eb⟩:=advs_leaps t m (leap t.mask x.1 x.2)
  exact ⟨a+b,by lia,by rw [advs_add,ea,eb]; rfl⟩
def Far (t:SetTable) (n:Nat) (p:Probe):Prop:=p.dummy=none∧p.j+p.more≤t.mask∧t.slot (advs t n p).j=.empty
theorem runEnd_le {mask i:Nat} (h:i≤mask):runEnd mask i≤mask∧i≤runEnd mask i:=by
 unfold runEnd
 split <;> lia
theorem TOk.far (T:TOk t n) (h:Int):∃ k,k < 10 * turns t.mask∧Far t k (t.probeStart h):=by
 obtain ⟨q,hq,eq⟩:=T.room
 obtain ⟨k,hk⟩:=T.mk2
 have hi:bits h % (t.mask+1)≤t.mask:=Nat.le_of_lt_succ (Nat.mod_lt _ (Nat.succ_pos _))
 obtain ⟨m,hm,em⟩:=leaps_all hk hi (bits_lt h) hq
 obtain ⟨a,ha,ea⟩:=advs_leaps t m (bits h % (t.mask+1),bits h)
 have e0:t.probeStart h=atLeap t.mask (bits h % (t.mask+1),bits h):=rfl
 refine ⟨a,?_,rfl,?_,?_⟩
 ·show a < 10 * (t.mask+15)
  lia
 ·rw [e0]
  have:=runEnd_le hi
  show bits h % (t.mask+1)+(runEnd t.mask (bits h % (t.mask+1)) - bits h % (t.mask+1))≤t.mask
  lia
 ·rw [e0,ea]
  show t.slot (leaps t.mask m (bits h % (t.mask+1),bits h)).1=.empty
  rw [em]
  exact eq
theorem adv_low (t:SetTable) {p:Probe} (h:p.j+p.more≤t.mask):(t.advance p).j+(t.advance p).more≤t.mask∧(t.advance p).dummy=p.dummy:=by
 unfold advance
 split
 ·exact ⟨by show p.j+1+(p.more - 1)≤t.mask; lia,rfl⟩
 ·have hi:(leap t.mask p.i p.perturb).1≤t.mask:=Nat.le_of_lt_succ (Nat.mod_lt _ (Nat.succ_pos _))
  have:=runEnd_le hi
  refine ⟨?_,rfl⟩
  show (leap t.mask p.i p.perturb).1+(runEnd t.mask (leap t.mask p.i p.perturb).1 - (leap t.mask p.i p.perturb).1)≤t.mask
  lia
theorem TOk.met (T:TOk t n) {hashAt:Nat→Int} {h:Int}:∀ (fuel k:Nat) (p:Probe),k < fuel→Far t k p →
  (∃ j,probe.go t hashAt h fuel p=some (.empty j none)∧j≤t.mask∧j∉t.place.toList) ∨
  ∃ j i next k',probe.go t hashAt h fuel p=some (.candidate j i next)∧t.slot j=.live i∧i < n∧hashAt i=h∧k' < k∧Far t k' next
 | 0,k,p,hk,_=>by lia
 | fuel+1,k,p,hk,⟨d,low,far⟩=>by
  unfold probe.go
  rcases T.slot p.j with ⟨m,e⟩ | ⟨i,e1,hi,e2⟩
  ·rw [e,d]
   exact .inl ⟨p.j,rfl,by lia,m⟩
  ·rw [e2]
   cases k with
   | zero =>
    have far:t.slot p.j=.empty:=far
    rw [e2] at far
    cases far
   | succ k =>
    obtain ⟨l1,l2⟩:=adv_low t low
    have far':Far t k (t.advance p):=⟨by rw [l2,d],l1,far⟩
    simp only
    by_cases c:(hashAt i == h)=true
    ·rw [if_pos c]
     exact .inr ⟨p.j,i,t.advance p,k,rfl,e2,hi,by simpa using c,by lia,far'⟩
    ·rw [if_neg c]
     rcases T.met fuel k _ (by lia) far' with z | ⟨j,i',nx,k',z1,z2,z3,z4,z5,z6⟩
     ·exact .inl z
     ·exact .inr ⟨j,i',nx,k',z1,z2,z3,z4,by lia,z6⟩
end
end SetTable
end PySem
namespace PySem
namespace SetTable
theorem inc_iff {xs:Array Nat}:Inc xs↔xs.toList.Pairwise (· < ·):=by
 rw [List.pairwise_iff_getElem]
 constructor
 ·intro h i j hi hj l
  have:=h i j (by simpa using hi) (by simpa using hj) l
  simpa using this
 ·intro h i j hi hj l
  have:=h i j (by simpa using hi) (by simpa using hj) l
  simpa using this
theorem TOk.put {t:SetTable} {n j:Nat} (T:TOk t n) (hj:j≤t.mask) (nw:j∉t.place.toList) (hl:n+1≤t.mask):TOk (t.put j).1 (n+1)∧(t.put j).2≤n∧(t.put j).1.mask=t.mask:=by
 obtain ⟨b1,b2,b3⟩:=below_spec T.so j
 have dm:has t.dummies j=false:=by rw [T.nd]; rfl
 have ep:(t.put j).1.place=insertAt t.place (below t.place j) j:=rfl
 have ed:(t.put j).1.dummies=t.dummies:=by
  show (if has t.dummies j=true then _ else _)=_
  rw [dm]
  rfl
 have el:=toList_insertAt t.place (below t.place j) j
 have pm:=insertAt_perm t.place (below t.place j) j
 have sz:=pm.length_eq
 rw [Array.toList_push,List.length_append] at sz
 simp only [Array.length_toList,List.length_singleton] at sz
 refine ⟨⟨T.mk2,T.big,T.few,by rw [ep,sz,T.sz],?_,fun x m=>?_,by rw [ed]; exact T.nd,hl⟩,by show below t.place j≤n; rw [← T.sz]; exact b1,rfl⟩
 ·rw [ep,inc_iff,el]
  have P:=inc_iff.mp T.so
  rw [← List.take_append_drop (below t.place j) t.place.toList] at P
  have P:=List.pairwise_append.mp P
  have lo:∀ a∈t.place.toList.take (below t.place j),a < j:=fun a ma=>by
   obtain ⟨i,hi,e⟩:=List.mem_iff_getElem.mp ma
   rw [List.length_take] at hi
   rw [List.getElem_take] at e
   have hi2:i < t.place.size:=by have:=hi; simp only [Array.length_toList] at this; lia
   have:=b2 i hi2 (by lia)
   rw [← e]
   simpa using this
  have hi:∀ a∈t.place.toList.drop (below t.place j),j < a:=fun a ma=>by
   obtain ⟨i,hi,e⟩:=List.mem_iff_getElem.mp ma
   rw [List.length_drop] at hi
   rw [List.getElem_drop] at e
   have hi2:below t.place j+i < t.place.size:=by have:=hi; simp only [Array.length_toList] at this; lia
   have:=b3 _ hi2 (by lia)
   have h2:j≤a:=by rw [← e]; simpa using this
   have h3:j≠a:=fun z=>nw (by rw [z]; exact List.mem_of_mem_drop ma)
   lia
  refine List.pairwise_append.mpr ⟨P.1,List.pairwise_cons.mpr ⟨hi,P.2.1⟩,fun a ma b mb=>?_⟩
  rcases List.mem_cons.mp mb with e | m
  ·rw [e]; exact lo a ma
  ·exact P.2.2 a ma b m
 ·rw [ep] at m
  have:=pm.mem_iff.mp m
  rw [Array.toList_push] at this
  rcases List.mem_append.mp this with m | m
  ·exact T.lo x m
  ·rw [List.mem_singleton.mp m]; exact hj
def occ (mask:Nat) (owner:Array (Option Nat)):List Nat:=(List.range (mask+1)).filterMap fun j=>owner.getD j none
structure OwnOk (mask:Nat) (owner:Array (Option Nat)) (k:Nat):Prop where
 sz:owner.size=mask+1
 pm:(occ mask owner).Perm (List.range k)
theorem fm_congr {α β:Type} {f g:α→Option β}:∀ {l:List α},(∀ x∈l,f x=g x)→l.filterMap f=l.filterMap g
 | [],_=>rfl
 | a :: l,h=>by rw [List.filterMap_cons,List.filterMap_cons,h a List.mem_cons_self,fm_congr fun x m=>h x (List.mem_cons_of_mem _ m)]
theorem fm_len {α β:Type} (f:α→Option β):∀ {l:List α},(∀ x∈l,(f x).isSome=true)→(l.filterMap f).length=l.length
 | [],_=>rfl
 | a :: l,h=>by
  have ha:=h a List.mem_cons_self
  obtain ⟨b,hb⟩:=Option.isSome_iff_exists.mp ha
  rw [List.filterMap_cons,hb]
  simp only [List.length_cons]
  rw [fm_len f fun x m=>h x (List.mem_cons_of_mem _ m)]
theorem OwnOk.gap {mask:Nat} {owner:Array (Option Nat)} {k:Nat} (h:OwnOk mask owner k) (hk:k≤mask):∃ q,q≤mask∧owner.getD q (some 0)=none:=by
 apply Classical.byContradiction
 intro no
 have all:∀ q∈List.range (mask+1),(owner.getD q none).isSome=true:=fun q m=>by
  have hq:=List.mem_range.mp m
  have e1:owner.getD q (some 0)=owner[q]'(by rw [h.sz]; exact hq):=by simp [h.sz,hq]
  have e2:owner.getD q none=owner[q]'(by rw [h.sz]; exact hq):=by simp [h.sz,hq]
  rw [e2]
  cases e:owner[q]'(by rw [h.sz]; exact hq) with
  | some x=>rfl
  | none=>exact absurd ⟨q,by lia,e1.trans e⟩ no
 have:=fm_len _ all
 have l:=h.pm.length_eq
 unfold occ at l
 rw [this,List.length_range,List.length_range] at l
 lia
theorem free_ok {mask:Nat} {owner:Array (Option Nat)} {q:Nat} (hq:owner.getD q (some 0)=none):∀ (fuel m i per:Nat),i≤mask→(leaps mask m (i,per)).1=q→m < fuel→∃ j,layClean.free mask owner fuel i per=some j∧j≤mask∧owner.getD j (some 0)=none
 | 0,m,i,per,_,_,h=>by lia
 | fuel+1,m,i,per,hi,e,hm=>by
  have re:=runEnd_le hi
  unfold layClean.free
  cases hf:(List.range (runEnd mask i+1 - i)).find? fun k=>(owner.getD (i+k) (some 0)).isNone with
  | some k =>
   have h1:=List.find?_some hf
   have h2:=List.mem_range.mp (List.mem_of_find?_eq_some hf)
   exact ⟨i+k,rfl,by lia,by simpa using h1⟩
  | none =>
   have h0:=List.find?_eq_none.mp hf 0 (List.mem_range.mpr (by lia))
   cases m with
   | zero =>
    have e:i=q:=e
    rw [Nat.add_zero,e,hq] at h0
    exact absurd rfl h0
   | succ m =>
    exact free_ok hq fuel m _ _ (Nat.le_of_lt_succ (Nat.mod_lt _ (Nat.succ_pos _))) e (by lia)
theorem OwnOk.put {mask:Nat} {owner:Array (Option Nat)} {k j:Nat} (h:OwnOk mask owner k) (hj:j≤mask) (e:owner.getD j (some 0)=none):OwnOk mask (owner.setIfInBounds j (some k)) (k+1):=by
 have js:j < owner.size:=by rw [h.sz]; lia
 have e2:owner.getD j none=none:=by simpa [js] using e
 have mj:j∈List.range (mask+1):=List.mem_range.mpr (by lia)
 refine ⟨by rw [Array.size_setIfInBounds]; exact h.sz,?_⟩
 have p:=List.perm_cons_erase mj
 have same:∀ x∈(List.range (mask+1)).erase j,(owner.setIfInBounds j (some k)).getD x none=owner.getD x none:=fun x m=>by
  have ne:x≠j:=fun z=>by
   rw [z] at m
   exact absurd m (List.Nodup.not_mem_erase List.nodup_range)
  have xs:x < owner.size:=by
   have:=List.mem_range.mp (List.mem_of_mem_erase m)
   rw [h.sz]; exact this
  simp [Array.getElem_setIfInBounds,xs,Ne.symm ne]
 have o1:(occ mask owner).Perm (((List.range (mask+1)).erase j).filterMap fun x=>owner.getD x none):=by
  have:=p.filterMap fun x=>owner.getD x none
  rw [List.filterMap_cons,e2] at this
  exact this
 have o2:(occ mask (owner.setIfInBounds j (some k))).Perm (k :: ((List.range (mask+1)).erase j).filterMap fun x=>owner.getD x none):=by
  have:=p.filterMap fun x=>(owner.setIfInBounds j (some k)).getD x none
  rw [List.filterMap_cons,show (owner.setIfInBounds j (some k)).getD j none=some k by simp [js]] at this
  rw [fm_congr same] at this
  exact this
 refine o2.trans ((List.Perm.cons k (o1.symm.trans h.pm)).trans ?_)
 rw [List.range_succ]
 exact (List.perm_append_singleton k (List.range k)).symm
theorem lay_go {mask m:Nat} (hm:mask+1=2 ^ m):∀ (hs:List Int) (owner:Array (Option Nat)) (k:Nat),OwnOk mask owner k→k+hs.length≤mask+1 →
  ∃ o',hs.foldl (fun (acc:Option (Array (Option Nat) × Nat)) h=>do
   let (owner,k) ← acc
   let j ← layClean.free mask owner (turns mask) (bits h % (mask+1)) (bits h)
   pure (owner.setIfInBounds j (some k),k+1)) (some (owner,k))=some (o',k+hs.length)∧OwnOk mask o' (k+hs.length)
 | [],owner,k,h,_=>⟨owner,rfl,h⟩
 | x :: hs,owner,k,h,hl=>by
  rw [List.length_cons] at hl
  obtain ⟨q,hq,eq⟩:=h.gap (by lia)
  have hi:bits x % (mask+1)≤mask:=Nat.le_of_lt_succ (Nat.mod_lt _ (Nat.succ_pos _))
  obtain ⟨n,hn,en⟩:=leaps_all hm hi (bits_lt x) hq
  obtain ⟨j,f1,f2,f3⟩:=free_ok (mask:=mask) eq (turns mask) n _ _ hi en (by show n < mask+15; lia)
  obtain ⟨o',g1,g2⟩:=lay_go hm hs (owner.setIfInBounds j (some k)) (k+1) (h.put f2 f3) (by lia)
  refine ⟨o',?_,by rw [List.length_cons,show k+(hs.length+1)=k+1+hs.length by lia]; exact g2⟩
  rw [List.foldl_cons,List.length_cons,show k+(hs.length+1)=k+1+hs.length by lia,← g1]
  congr 1
  show (layClean.free mask owner (turns mask) (bits x % (mask+1)) (bits x)).bind _=_
  rw [f1]
  rfl
theorem laid_ok {mask m:Nat} (hm:mask+1=2 ^ m) (big:7≤mask) (few:mask≤8191) (finger moves:Nat) (led plain:Bool) (hashes:Array Int) (hl:hashes.size≤mask) :
  ∃ t order,laid mask finger moves led plain hashes=some (t,order)∧TOk t hashes.size∧t.mask=mask∧t.led=led∧t.plain=plain∧order.toList.Perm (List.range hashes.size):=by
 have start:OwnOk mask (Array.replicate (mask+1) none) 0:=by
  refine ⟨Array.size_replicate,?_⟩
  unfold occ
  rw [List.filterMap_eq_nil_iff.mpr fun j m=>?_]
  ·exact List.Perm.refl _
  ·have:=List.mem_range.mp m
   simp [this]
 obtain ⟨o',f1,O⟩:=lay_go hm hashes.toList _ 0 start (by simp only [Array.length_toList]; lia)
 rw [Nat.zero_add,Array.length_toList] at f1 O
 have lc:layClean mask hashes=some o':=by
  unfold layClean
  rw [← Array.foldl_toList,f1]
  rfl
 have e1:((List.range (mask+1)).filterMap fun j=>(o'.getD j none).map (j,·)).map (·.1)=(List.range (mask+1)).filter fun j=>(o'.getD j none).isSome:=by
  rw [List.map_filterMap,← List.filterMap_eq_filter]
  refine fm_congr fun j _=>?_
  cases e:o'.getD j none <;> simp [Option.guard,e]
 have e2:((List.range (mask+1)).filterMap fun j=>(o'.getD j none).map (j,·)).map (·.2)=occ mask o':=by
  unfold occ
  rw [List.map_filterMap]
  refine fm_congr fun j _=>?_
  cases o'.getD j none <;> rfl
 have len:((List.range (mask+1)).filterMap fun j=>(o'.getD j none).map (j,·)).length=hashes.size:=by
  have:=O.pm.length_eq
  rw [← e2,List.length_map,List.length_range] at this
  exact this
 refine ⟨_,_,by unfold laid; rw [lc]; rfl,⟨⟨m,hm⟩,big,few,?_,?_,?_,rfl,hl⟩,rfl,rfl,rfl,?_⟩
 ·simp only [List.size_toArray,List.length_map]
  exact len
 ·rw [inc_iff]
  show List.Pairwise _ (List.map _ _)
  rw [e1]
  exact List.pairwise_lt_range.sublist List.filter_sublist
 ·intro j mj
  have mj:j∈List.map (·.1) ((List.range (mask+1)).filterMap fun j=>(o'.getD j none).map (j,·)):=mj
  rw [e1] at mj
  have:=List.mem_range.mp (List.mem_filter.mp mj).1
  show j≤mask
  lia
 ·show (List.map _ _).Perm _
  rw [e2]
  exact O.pm
theorem above_go (n:Nat):∀ (fuel k:Nat),n < 8 * 2 ^ (k+fuel)→∃ m,sizeAbove.go n fuel (8 * 2 ^ k)=8 * 2 ^ m∧n < 8 * 2 ^ m∧(8 * 2 ^ m≤8 * 2 ^ k∨8 * 2 ^ m≤2 * n)
 | 0,k,h=>⟨k,rfl,h,.inl (Nat.le_refl _)⟩
 | fuel+1,k,h=>by
  unfold sizeAbove.go
  by_cases c:8 * 2 ^ k≤n
  ·rw [if_pos c]
   have e:8 * 2 ^ k * 2=8 * 2 ^ (k+1):=by rw [Nat.pow_succ]; lia
   rw [e]
   obtain ⟨m,h1,h2,h3⟩:=above_go n fuel (k+1) (by rw [show k+1+fuel=k+(fuel+1) by lia]; exact h)
   refine ⟨m,h1,h2,?_⟩
   rcases h3 with z | z
   ·exact .inr (by lia)
   ·exact .inr z
  ·rw [if_neg c]
   exact ⟨k,rfl,by lia,.inl (Nat.le_refl _)⟩
theorem above_ok {n:Nat} (h:n≤4095):∃ m,sizeAbove n=2 ^ m∧n < sizeAbove n∧8≤sizeAbove n∧sizeAbove n≤8192:=by
 have h8:n < 8 * 2 ^ (0+64):=Nat.lt_of_le_of_lt h (by decide)
 obtain ⟨m,h1,h2,h3⟩:=above_go n 64 0 h8
 have e:sizeAbove n=8 * 2 ^ m:=h1
 have p:0 < 2 ^ m:=Nat.pow_pos (by decide)
 refine ⟨m+3,by rw [e,Nat.pow_add]; lia,by rw [e]; exact h2,by rw [e]; lia,?_⟩
 rw [e]
 rcases h3 with z | z
 ·simp at z ⊢; lia
 ·lia
theorem order_perm {α:Type} {es:Array α} {order:Array Nat} (h:order.toList.Perm (List.range es.size)):(order.filterMap (es[·]?)).toList.Perm es.toList:=by
 rw [Array.toList_filterMap]
 have:=h.filterMap fun i=>es[i]?
 rw [filterMap_getElem?_range es] at this
 exact this
end SetTable
end PySem
namespace PySem
namespace SetTable
section
variable {t:SetTable} {n:Nat}
theorem advs_succ (t:SetTable) (n:Nat) (p:Probe):advs t (n+1) p=t.advance (advs t n p):=by rw [advs_add]; rfl
theorem advs_low (t:SetTable) {p:Probe} (h:p.j+p.more≤t.mask):∀ n,(advs t n p).j+(advs t n p).more≤t.mask∧(advs t n p).dummy=p.dummy
 | 0=>⟨h,rfl⟩
 | n+1=>by
  obtain ⟨a,b⟩:=advs_low t h n
  obtain ⟨c,d⟩:=adv_low t a
  rw [advs_succ]
  exact ⟨c,d.trans b⟩
theorem adv_mask {t t':SetTable} (h:t.mask=t'.mask) (p:Probe):t.advance p=t'.advance p:=by
 unfold advance
 rw [h]
theorem advs_mask {t t':SetTable} (h:t.mask=t'.mask):∀ (n:Nat) (p:Probe),advs t n p=advs t' n p
 | 0,p=>rfl
 | n+1,p=>by
  show advs t n (t.advance p)=advs t' n (t'.advance p)
  rw [adv_mask h,advs_mask h n]
theorem start_mask {t t':SetTable} (h:t.mask=t'.mask) (x:Int):t.probeStart x=t'.probeStart x:=by
 unfold probeStart
 rw [h]
theorem start_low (t:SetTable) (h:Int):(t.probeStart h).j+(t.probeStart h).more≤t.mask∧(t.probeStart h).dummy=none:=by
 have hi:bits h % (t.mask+1)≤t.mask:=Nat.le_of_lt_succ (Nat.mod_lt _ (Nat.succ_pos _))
 have:=runEnd_le hi
 refine ⟨?_,rfl⟩
 show bits h % (t.mask+1)+(runEnd t.mask (bits h % (t.mask+1)) - bits h % (t.mask+1))≤t.mask
 lia
def at_ (t:SetTable) (h:Int) (n:Nat):Nat:=(advs t n (t.probeStart h)).j
theorem at_mask {t t':SetTable} (e:t.mask=t'.mask) (h:Int) (n:Nat):at_ t h n=at_ t' h n:=by
 unfold at_
 rw [start_mask e,advs_mask e]
def Reach (t:SetTable) (h:Int) (j:Nat):Prop:=∃ n,at_ t h n=j∧∀ m,m < n→at_ t h m∈t.place.toList
theorem TOk.met2 (T:TOk t n) {hashAt:Nat→Int} {h:Int}:∀ (fuel c e:Nat),c≤e→e - c < fuel→t.slot (at_ t h e)=.empty →
    ∃ N,c≤N∧N≤e∧(∀ m,c≤m→m < N→∃ i,t.slot (at_ t h m)=.live i∧hashAt i≠h) ∧
      ((probe.go t hashAt h fuel (advs t c (t.probeStart h))=some (.empty (at_ t h N) none)∧at_ t h N≤t.mask∧at_ t h N∉t.place.toList) ∨
       ∃ i,probe.go t hashAt h fuel (advs t c (t.probeStart h))=some (.candidate (at_ t h N) i (advs t (N+1) (t.probeStart h)))∧t.slot (at_ t h N)=.live i∧i < n∧hashAt i=h∧N < e)
  | 0,c,e,h1,h2,h3=>by lia
  | fuel+1,c,e,h1,h2,h3=>by
    obtain ⟨s1,s2⟩:=start_low t h
    obtain ⟨l1,l2⟩:=advs_low t s1 c
    unfold probe.go
    rcases T.slot (at_ t h c) with ⟨m,e1⟩ | ⟨i,e1,hi,e2⟩
    · refine ⟨c,Nat.le_refl _,h1,fun m a b=>by lia,.inl ⟨?_,?_,m⟩⟩
      · have e1:t.slot (advs t c (t.probeStart h)).j=.empty:=e1
        rw [e1,l2,s2]
        rfl
      · show (advs t c (t.probeStart h)).j≤t.mask
        lia
    · have ne:c≠e:=fun z=>by
        rw [← z,e2] at h3
        cases h3
      have e3:t.slot (advs t c (t.probeStart h)).j=.live i:=e2
      rw [e3]
      simp only
      by_cases q:(hashAt i == h)=true
      · rw [if_pos q]
        exact ⟨c,Nat.le_refl _,h1,fun m a b=>by lia,.inr ⟨i,by rw [advs_succ]; rfl,e2,hi,by simpa using q,by lia⟩⟩
      · rw [if_neg q,← advs_succ]
        obtain ⟨N,a1,a2,a3,a4⟩:=T.met2 fuel (c+1) e (by lia) (by lia) h3
        refine ⟨N,by lia,a2,fun m b1 b2=>?_,a4⟩
        rcases Nat.lt_or_ge c m with z | z
        · exact a3 m z b2
        · have:m=c:=by lia
          subst this
          exact ⟨i,e2,by simpa using q⟩
theorem TOk.stop (T:TOk t n) (h:Int):∃ e,e < 10 * turns t.mask∧t.slot (at_ t h e)=.empty:=by
 obtain ⟨k,hk,_,_,f⟩:=T.far h
 exact ⟨k,hk,f⟩
structure TOkH (t:SetTable) (hs:List Int):Prop where
 ok:TOk t hs.length
 rc:∀ i (hi:i < hs.length),∃ j,t.place[i]?=some j∧Reach t hs[i] j
theorem TOk.live {i j:Nat} (T:TOk t n) (e:t.place[i]?=some j):t.slot j=.live i:=by
 obtain ⟨li,ei⟩:=Array.getElem?_eq_some_iff.mp e
 rcases T.slot j with ⟨m,_⟩ | ⟨i',e1,_,e2⟩
 ·exact absurd (by rw [← ei]; simp) m
 ·obtain ⟨li',ei'⟩:=Array.getElem?_eq_some_iff.mp e1
  rw [e2,T.so.inj li' li (ei'.trans ei.symm)]
theorem TOkH.seen {hs:List Int} (T:TOkH t hs) {h:Int} {N:Nat} (e:at_ t h N∉t.place.toList) {i:Nat} (hi:i < hs.length) (hh:hs[i]=h):∃ m,m < N∧t.slot (at_ t h m)=.live i:=by
 obtain ⟨j,e1,k,e2,e3⟩:=T.rc i hi
 rw [hh] at e2 e3
 refine ⟨k,?_,by rw [e2]; exact T.ok.live e1⟩
 rcases Nat.lt_trichotomy k N with l | l | l
 ·exact l
 ·exfalso
  rw [← l,e2] at e
  obtain ⟨li,ei⟩:=Array.getElem?_eq_some_iff.mp e1
  exact e (by rw [← ei]; simp)
 ·exact absurd (e3 N l) e
theorem TOkH.put {hs:List Int} (T:TOkH t hs) {h:Int} {N:Nat} (lo:at_ t h N≤t.mask) (e:at_ t h N∉t.place.toList) (pa:∀ m,m < N→at_ t h m∈t.place.toList) (hl:hs.length+1≤t.mask) :
  TOkH (t.put (at_ t h N)).1 (hs.take (t.put (at_ t h N)).2++h :: hs.drop (t.put (at_ t h N)).2)∧(t.put (at_ t h N)).2≤hs.length∧(t.put (at_ t h N)).1.mask=t.mask:=by
 obtain ⟨k1,k2,k3⟩:=T.ok.put lo e hl
 generalize hj:at_ t h N=j at *
 have ep:(t.put j).1.place=insertAt t.place (t.put j).2 j:=rfl
 have el:=toList_insertAt t.place (t.put j).2 j
 have sz:(hs.take (t.put j).2++h :: hs.drop (t.put j).2).length=hs.length+1:=by
  rw [List.length_append,List.length_cons,List.length_take,List.length_drop]
  lia
 have pl:t.place.toList.length=hs.length:=by have:=T.ok.sz; simpa using this
 have sub:∀ x,x∈t.place.toList→x∈(t.put j).1.place.toList:=fun x m=>by
  rw [ep,el]
  have m2:=m
  rw [← List.take_append_drop (t.put j).2 t.place.toList] at m2
  rcases List.mem_append.mp m2 with z | z
  ·exact List.mem_append_left _ z
  ·exact List.mem_append_right _ (List.mem_cons_of_mem _ z)
 have up:∀ {x:Int} {y:Nat},Reach t x y→Reach (t.put j).1 x y:=fun ⟨n,a,b⟩=>⟨n,by rw [at_mask k3]; exact a,fun m l=>by rw [at_mask k3]; exact sub _ (b m l)⟩
 refine ⟨⟨by rw [sz]; exact k1,fun i hi=>?_⟩,k2,k3⟩
 have ea:(t.put j).1.place[i]?=(t.place.toList.take (t.put j).2++j :: t.place.toList.drop (t.put j).2)[i]?:=by
  rw [← el,← ep,Array.getElem?_toList]
 rw [ea]
 have tl:(t.place.toList.take (t.put j).2).length=(t.put j).2:=by rw [List.length_take]; lia
 have th:(hs.take (t.put j).2).length=(t.put j).2:=by rw [List.length_take]; lia
 rcases Nat.lt_trichotomy i (t.put j).2 with l | l | l
 ·obtain ⟨y,y1,y2⟩:=T.rc i (by lia)
  refine ⟨y,?_,?_⟩
  ·rw [List.getElem?_append_left (by lia),List.getElem?_take_of_lt l,Array.getElem?_toList]
   exact y1
  ·rw [List.getElem_append_left (by lia),List.getElem_take]
   exact up y2
 ·subst l
  refine ⟨j,?_,?_⟩
  ·rw [List.getElem?_append_right (by lia),tl,Nat.sub_self]
   rfl
  ·rw [List.getElem_append_right (by lia)]
   simp only [th,Nat.sub_self,List.getElem_cons_zero]
   exact ⟨N,by rw [at_mask k3]; exact hj,fun m lm=>by rw [at_mask k3]; exact sub _ (pa m lm)⟩
 ·obtain ⟨y,y1,y2⟩:=T.rc (i - 1) (by lia)
  refine ⟨y,?_,?_⟩
  ·rw [List.getElem?_append_right (by lia),tl,show i - (t.put j).2=(i - (t.put j).2 - 1)+1 by lia,List.getElem?_cons_succ,List.getElem?_drop,Array.getElem?_toList,show (t.put j).2+(i - (t.put j).2 - 1)=i - 1 by lia]
   exact y1
  ·have eq:(hs.take (t.put j).2++h :: hs.drop (t.put j).2)[i]?=hs[i - 1]?:=by
    rw [List.getElem?_append_right (by lia),th,show i - (t.put j).2=(i - (t.put j).2 - 1)+1 by lia,List.getElem?_cons_succ,List.getElem?_drop,show (t.put j).2+(i - (t.put j).2 - 1)=i - 1 by lia]
   rw [List.getElem?_eq_getElem hi,List.getElem?_eq_getElem (show i - 1 < hs.length by lia)] at eq
   rw [Option.some.inj eq]
   exact up y2
end
end SetTable
end PySem
namespace PySem
namespace SetTable
theorem advs_in (t:SetTable):∀ (m:Nat) (p:Probe),m≤p.more→advs t m p={ p with j:=p.j+m,more:=p.more - m }
 | 0,p,_=>by cases p; rfl
 | m+1,p,h=>by
  rw [advs_succ,advs_in t m p (by lia)]
  unfold advance
  rw [if_pos (by show p.more - m > 0; lia)]
  show ({ p with j:=p.j+m+1,more:=p.more - m - 1 }:Probe)={ p with j:=p.j+(m+1),more:=p.more - (m+1) }
  rw [show p.j+m+1=p.j+(m+1) by lia,show p.more - m - 1=p.more - (m+1) by lia]
theorem advs_leapN (t:SetTable) (x:Nat × Nat):advs t ((runEnd t.mask x.1 - x.1)+1) (atLeap t.mask x)=atLeap t.mask (leap t.mask x.1 x.2):=by
 rw [advs_add,advs_run t (runEnd t.mask x.1 - x.1) (atLeap t.mask x) rfl]
 simp only [advs]
 unfold advance
 rw [if_neg (by show ¬ (0 > 0); decide)]
 rfl
theorem find_first {P:Nat→Bool} {L k:Nat} (h:(List.range L).find? P=some k):∀ m,m < k→P m=false:=fun m hm=>by
 have:=(List.find?_range_eq_some.mp h).2.2 m hm
 simpa using this
theorem free_path {t:SetTable} {owner:Array (Option Nat)} {j:Nat}:∀ (fuel i per:Nat),i≤t.mask→layClean.free t.mask owner fuel i per=some j→∃ n,(advs t n (atLeap t.mask (i,per))).j=j∧∀ m,m < n→(owner.getD (advs t m (atLeap t.mask (i,per))).j (some 0)).isSome=true
 | 0,i,per,_,h=>by unfold layClean.free at h; cases h
 | fuel+1,i,per,hi,h=>by
  have re:=runEnd_le hi
  have pos:∀ m,m≤runEnd t.mask i - i→(advs t m (atLeap t.mask (i,per))).j=i+m:=fun m hm=>by rw [advs_in t m _ hm]; rfl
  unfold layClean.free at h
  cases hf:(List.range (runEnd t.mask i+1 - i)).find? fun k=>(owner.getD (i+k) (some 0)).isNone with
  | some k =>
   rw [hf] at h
   have h2:=List.mem_range.mp (List.mem_of_find?_eq_some hf)
   refine ⟨k,by rw [pos k (by lia)]; exact Option.some.inj h,fun m hm=>?_⟩
   rw [pos m (by lia)]
   have:=find_first hf m hm
   cases e:owner.getD (i+m) (some 0) with
   | some x=>rfl
   | none=>rw [e] at this; cases this
  | none =>
   rw [hf] at h
   obtain ⟨n,n1,n2⟩:=free_path fuel _ _ (Nat.le_of_lt_succ (Nat.mod_lt _ (Nat.succ_pos _))) h
   have lp:=advs_leapN t (i,per)
   refine ⟨(runEnd t.mask i - i)+1+n,by rw [advs_add,lp]; exact n1,fun m hm=>?_⟩
   rcases Nat.lt_or_ge m ((runEnd t.mask i - i)+1) with l | l
   ·rw [pos m (by lia)]
    have:=List.find?_eq_none.mp hf m (List.mem_range.mpr (by lia))
    cases e:owner.getD (i+m) (some 0) with
    | some x=>rfl
    | none=>rw [e] at this; exact absurd rfl this
   ·have:=n2 (m - ((runEnd t.mask i - i)+1)) (by lia)
    rw [show atLeap t.mask ((i * 5+1+per / 32) % t.mask.succ,per / 32)=advs t (runEnd t.mask i - i+1) (atLeap t.mask (i,per)) from lp.symm,← advs_add,show (runEnd t.mask i - i)+1+(m - ((runEnd t.mask i - i)+1))=m by lia] at this
    exact this
def PathO (t:SetTable) (owner:Array (Option Nat)) (h:Int) (j:Nat):Prop:=∃ n,at_ t h n=j∧∀ m,m < n→(owner.getD (at_ t h m) (some 0)).isSome=true
theorem set_getD {owner:Array (Option Nat)} {j k x:Nat} (d:Option Nat) (hj:j < owner.size) (hx:x < owner.size):(owner.setIfInBounds j (some k)).getD x d=if x=j then some k else owner.getD x d:=by
 by_cases e:x=j
 ·subst e
  simp [hj]
 ·rw [if_neg e]
  simp [Array.getElem_setIfInBounds,hx,Ne.symm e]
theorem at_le (t:SetTable) (h:Int) (m:Nat):at_ t h m≤t.mask:=by
 have:=(advs_low t (start_low t h).1 m).1
 unfold at_
 lia
structure OwnR (t:SetTable) (owner:Array (Option Nat)) (hs:List Int):Prop where
 ok:OwnOk t.mask owner hs.length
 pa:∀ j q,j≤t.mask→owner.getD j none=some q→∃ h,hs[q]?=some h∧PathO t owner h j
theorem OwnR.put {t:SetTable} {owner:Array (Option Nat)} {hs:List Int} (R:OwnR t owner hs) {x:Int} {j:Nat} (hj:j≤t.mask) (e:owner.getD j (some 0)=none) (p:PathO t owner x j):OwnR t (owner.setIfInBounds j (some hs.length)) (hs++[x]):=by
 have js:j < owner.size:=by rw [R.ok.sz]; lia
 have up:∀ {h:Int} {y:Nat},PathO t owner h y→PathO t (owner.setIfInBounds j (some hs.length)) h y:=fun {h y} ⟨n,a,b⟩=>⟨n,a,fun m l=>by
  have ms:at_ t h m < owner.size:=by have:=at_le t h m; rw [R.ok.sz]; lia
  rw [set_getD (some 0) js ms]
  by_cases z:at_ t h m=j
  ·rw [if_pos z]; rfl
  ·rw [if_neg z]; exact b m l⟩
 refine ⟨by rw [List.length_append,List.length_singleton]; exact R.ok.put hj e,fun y q hy ey=>?_⟩
 have ys:y < owner.size:=by rw [R.ok.sz]; lia
 rw [set_getD none js ys] at ey
 by_cases z:y=j
 ·rw [if_pos z] at ey
  cases ey
  exact ⟨x,by simp,by rw [z]; exact up p⟩
 ·rw [if_neg z] at ey
  obtain ⟨h,h1,h2⟩:=R.pa y q hy ey
  exact ⟨h,by rw [List.getElem?_append_left (List.getElem?_eq_some_iff.mp h1).1]; exact h1,up h2⟩
theorem lay_goR {t:SetTable} {m:Nat} (hm:t.mask+1=2 ^ m):∀ (ys hs:List Int) (owner:Array (Option Nat)),OwnR t owner hs→hs.length+ys.length≤t.mask+1 →
  ∃ o',ys.foldl (fun (acc:Option (Array (Option Nat) × Nat)) h=>do
   let (owner,k) ← acc
   let j ← layClean.free t.mask owner (turns t.mask) (bits h % (t.mask+1)) (bits h)
   pure (owner.setIfInBounds j (some k),k+1)) (some (owner,hs.length))=some (o',hs.length+ys.length)∧OwnR t o' (hs++ys)
 | [],hs,owner,R,_=>⟨owner,rfl,by rw [List.append_nil]; exact R⟩
 | x :: ys,hs,owner,R,hl=>by
  rw [List.length_cons] at hl
  obtain ⟨q,hq,eq⟩:=R.ok.gap (by lia)
  have hi:bits x % (t.mask+1)≤t.mask:=Nat.le_of_lt_succ (Nat.mod_lt _ (Nat.succ_pos _))
  obtain ⟨n,hn,en⟩:=leaps_all hm hi (bits_lt x) hq
  obtain ⟨j,f1,f2,f3⟩:=free_ok (mask:=t.mask) eq (turns t.mask) n _ _ hi en (by show n < t.mask+15; lia)
  have pth:PathO t owner x j:=free_path (turns t.mask) _ _ hi f1
  obtain ⟨o',g1,g2⟩:=lay_goR hm ys (hs++[x]) (owner.setIfInBounds j (some hs.length)) (R.put f2 f3 pth) (by rw [List.length_append,List.length_singleton]; lia)
  rw [List.length_append,List.length_singleton] at g1
  refine ⟨o',?_,by rw [List.append_assoc] at g2; exact g2⟩
  rw [List.foldl_cons,List.length_cons,show hs.length+(ys.length+1)=hs.length+1+ys.length by lia,← g1]
  congr 1
  show (layClean.free t.mask owner (turns t.mask) (bits x % (t.mask+1)) (bits x)).bind _=_
  rw [f1]
  rfl
theorem laid_H {mask m:Nat} (hm:mask+1=2 ^ m) (big:7≤mask) (few:mask≤8191) (finger moves:Nat) (led plain:Bool) (hashes:Array Int) (hl:hashes.size≤mask) :
  ∃ t order,laid mask finger moves led plain hashes=some (t,order)∧TOkH t (order.toList.map fun q=>hashes.getD q 0)∧t.mask=mask∧t.led=led∧t.plain=plain∧order.toList.Perm (List.range hashes.size):=by
 obtain ⟨t,order,l1,T,l2,l3,l4,pm⟩:=laid_ok hm big few finger moves led plain hashes hl
 subst l2
 refine ⟨t,order,l1,⟨by rw [List.length_map,pm.length_eq,List.length_range]; exact T,fun i hi=>?_⟩,rfl,l3,l4,pm⟩
 have start:OwnR t (Array.replicate (t.mask+1) none) []:=by
  refine ⟨⟨Array.size_replicate,?_⟩,fun j q hj e=>?_⟩
  ·unfold occ
   rw [List.filterMap_eq_nil_iff.mpr fun j m=>?_]
   ·exact List.Perm.refl _
   ·have:=List.mem_range.mp m
    simp [this]
  ·have:j < t.mask+1:=by lia
   simp [this] at e
 obtain ⟨o',f1,O⟩:=lay_goR hm hashes.toList [] _ start (by simp only [Array.length_toList,List.length_nil]; lia)
 rw [List.nil_append] at O
 have lc:layClean t.mask hashes=some o':=by
  unfold layClean
  rw [← Array.foldl_toList,show (0:Nat)=([]:List Int).length from rfl,f1]
  rfl
 have l1':=l1
 unfold laid at l1'
 rw [lc] at l1'
 have l1':some (_,_)=some (t,order):=l1'
 have e1:((List.range (t.mask+1)).filterMap fun j=>(o'.getD j none).map (j,·)).map (·.1)=t.place.toList:=by
  have:=congrArg (fun z:Option (SetTable × Array Nat)=>(z.map (·.1.place.toList)).getD []) l1'
  simpa using this
 have e2:((List.range (t.mask+1)).filterMap fun j=>(o'.getD j none).map (j,·)).map (·.2)=order.toList:=by
  have:=congrArg (fun z:Option (SetTable × Array Nat)=>(z.map (·.2.toList)).getD []) l1'
  simpa using this
 generalize hlv:((List.range (t.mask+1)).filterMap fun j=>(o'.getD j none).map (j,·))=live at e1 e2
 have mem:∀ j q,(j,q)∈live↔j≤t.mask∧o'.getD j none=some q:=fun j q=>by
  rw [← hlv,List.mem_filterMap]
  constructor
  ·rintro ⟨x,mx,ex⟩
   obtain ⟨y,ey,e⟩:=Option.map_eq_some_iff.mp ex
   cases e
   exact ⟨by have:=List.mem_range.mp mx; lia,ey⟩
  ·rintro ⟨h1,h2⟩
   exact ⟨j,List.mem_range.mpr (by lia),by rw [h2]; rfl⟩
 have il:i < live.length:=by rw [List.length_map,← e2,List.length_map] at hi; exact hi
 have m0:(live[i].1,live[i].2)∈live:=List.getElem_mem il
 obtain ⟨k1,k2⟩:=(mem _ _).mp m0
 obtain ⟨h,h1,n,h2,h3⟩:=O.pa _ _ k1 k2
 have eo:(order.toList.map fun q=>hashes.getD q 0)[i]=h:=by
  have q1:(order.toList.map fun q=>hashes.getD q 0)[i]?=some h:=by
   rw [← e2,List.map_map,List.getElem?_map,List.getElem?_eq_getElem il]
   show some (hashes.getD live[i].2 0)=some h
   rw [Array.getElem?_toList] at h1
   obtain ⟨z1,z2⟩:=Array.getElem?_eq_some_iff.mp h1
   simp [z1,z2]
  rw [List.getElem?_eq_getElem hi] at q1
  exact Option.some.inj q1
 refine ⟨live[i].1,?_,?_⟩
 ·rw [← Array.getElem?_toList,← e1,List.getElem?_map,List.getElem?_eq_getElem il]
  rfl
 ·rw [eo]
  refine ⟨n,h2,fun m hm'=>?_⟩
  have hp:=h3 m hm'
  have le:=at_le t h m
  have ps:at_ t h m < o'.size:=by rw [O.ok.sz]; lia
  rw [← e1]
  cases e:o'.getD (at_ t h m) none with
  | some q=>exact List.mem_map.mpr ⟨(at_ t h m,q),(mem _ _).mpr ⟨le,e⟩,rfl⟩
  | none =>
   have e3:o'.getD (at_ t h m) (some 0)=o'.getD (at_ t h m) none:=by simp [ps]
   rw [e3,e] at hp
   cases hp
end SetTable
end PySem
namespace PySem
open SetTable
section
variable {prog:Program} {w:World} {K:Type} [DecidableEq K] {knd:KeyKind prog w K} {A:Around} {E:Value→Shared→Prop} {s:Shared} {a b:Addr}
structure SetAt (knd:KeyKind prog w K) (h:Heap) (a:Addr) (o:Obj) (es:Array (Int × Value)) (ep:Nat) (t:SetTable) (ks:List (List K × Addr)):Prop where
 ho:h.get? a=some o
 ex:o.ExactSet
 hd:o.data=.set es ep t
 ok:TOkH t (ks.map fun p=>tupleKeyHash knd p.1)
 pl:t.plain=true→∀ p∈ks,p.1=[]
 es:es.toList=ks.map fun p=>(tupleKeyHash knd p.1,Value.ref p.2)
 is:∀ p∈ks,IsTupleKey knd h p.1 p.2
 nd:(ks.map (·.1)).Nodup
variable {o:Obj} {es:Array (Int × Value)} {ep:Nat} {t:SetTable} {ks:List (List K × Addr)}
theorem SetAt.size (S:SetAt knd s.heap a o es ep t ks):es.size=ks.length:=by
 have:=congrArg List.length S.es
 rw [List.length_map] at this
 simpa using this
theorem SetAt.tok (S:SetAt knd s.heap a o es ep t ks):TOk t ks.length:=by
 have:=S.ok.ok
 rw [List.length_map] at this
 exact this
theorem SetAt.fits (S:SetAt knd s.heap a o es ep t ks):t.fits es.size=true:=by
 have T:=S.tok
 unfold SetTable.fits SetTable.fill
 rw [S.size,T.sz,T.nd]
 have:=T.fl
 simp [this]
theorem SetAt.odd (S:SetAt knd s.heap a o es ep t ks):t.gaveWay=false:=by
 obtain ⟨k,hk⟩:=S.tok.mk2
 have big:=S.tok.big
 unfold SetTable.gaveWay
 have:k≠0:=fun z=>by rw [z] at hk; simp at hk; lia
 obtain ⟨j,rfl⟩:=Nat.exists_eq_succ_of_ne_zero this
 rw [Nat.pow_succ] at hk
 have:t.mask % 2=1:=by lia
 rw [this]
 rfl
theorem SetAt.entry (S:SetAt knd s.heap a o es ep t ks) {i:Nat} (hi:i < ks.length):es[i]?=some (tupleKeyHash knd ks[i].1,Value.ref ks[i].2):=by
 rw [← Array.getElem?_toList,S.es,List.getElem?_map,List.getElem?_eq_getElem hi]
 rfl
theorem search_T (hu:(tupleKind knd).room A) (S:SetAt knd s.heap a o es ep t ks) {k:List K} (hk:IsTupleKey knd s.heap k b) {Q:SetFound→Shared→Prop}
  (quiet:∀ (E:Value→Shared→Prop) (stored:List Value) (R:Bool→Shared→Prop),(∀ v∈stored,∃ p∈ks,v=.ref p.2)→R false s→wpAny (model prog w) A (searchCouldBeSeen (.ref b) stored) R E s)
  (there:k∈ks.map (·.1)→Q (.there none) s) (free:k∉ks.map (·.1)→∀ N,at_ t (tupleKeyHash knd k) N≤t.mask→at_ t (tupleKeyHash knd k) N∉t.place.toList→(∀ m,m < N→at_ t (tupleKeyHash knd k) m∈t.place.toList)→Q (.free (at_ t (tupleKeyHash knd k) N) false) s)
  {e:Nat} (he:e < 10 * turns t.mask) (hs:t.slot (at_ t (tupleKeyHash knd k) e)=.empty):∀ (fuel c:Nat) (stand:Option Probe),stand.getD (t.probeStart (tupleKeyHash knd k))=advs t c (t.probeStart (tupleKeyHash knd k))→c≤e→e - c < fuel →
   (∀ m,m < c→∃ i,∃ hi:i < ks.length,t.slot (at_ t (tupleKeyHash knd k) m)=.live i∧ks[i].1≠k) →
   wpAny (model prog w) A (setSearchFrom a (.ref b) (tupleKeyHash knd k) true fuel stand) Q E s
 | 0,c,stand,_,_,h,_=>by lia
 | fuel+1,c,stand,est,hc,hf,rej=>by
  have T:=S.tok
  unfold setSearchFrom
  refine wpAny_bind (wpAny_setState_of S.ho S.hd S.fits ?_)
  dsimp only
  rw [S.odd]
  simp only [Bool.false_eq_true,↓reduceIte]
  rw [est]
  generalize hp:SetTable.probe t _ _ _=met
  have hp:probe.go t (fun i=>(es[i]?.map (·.1)).getD 0) (tupleKeyHash knd k) (10 * turns t.mask) (advs t c (t.probeStart (tupleKeyHash knd k)))=met:=hp
  obtain ⟨N,n1,n2,n3,n4⟩:=T.met2 (hashAt:=fun i=>(es[i]?.map (·.1)).getD 0) (h:=tupleKeyHash knd k) (10 * turns t.mask) c e hc (by lia) hs
  have hashEq:∀ i (hi:i < ks.length),(es[i]?.map (·.1)).getD 0=tupleKeyHash knd ks[i].1:=fun i hi=>by rw [S.entry hi]; rfl
  have rej2:∀ m,m < N→∃ i,∃ hi:i < ks.length,t.slot (at_ t (tupleKeyHash knd k) m)=.live i∧ks[i].1≠k:=fun m hm=>by
   rcases Nat.lt_or_ge m c with l | l
   ·exact rej m l
   ·obtain ⟨i,s1,s2⟩:=n3 m l hm
    have hi:i < ks.length:=by
     rcases T.slot (at_ t (tupleKeyHash knd k) m) with ⟨_,z⟩ | ⟨i',_,z1,z2⟩
     ·rw [z] at s1; cases s1
     ·rw [z2] at s1; cases s1; exact z1
    exact ⟨i,hi,s1,fun z=>s2 (by rw [hashEq i hi,z])⟩
  rcases n4 with ⟨g1,g2,g3⟩ | ⟨i,g1,g2,g3,g4,g5⟩
  ·rw [g1] at hp
   subst hp
   dsimp only
   have nk:k∉ks.map (·.1):=fun mk=>by
    obtain ⟨p,mp,ep⟩:=List.mem_map.mp mk
    obtain ⟨i,hi,ei⟩:=List.mem_iff_getElem.mp mp
    have hh:(ks.map fun p=>tupleKeyHash knd p.1)[i]'(by rw [List.length_map]; exact hi)=tupleKeyHash knd k:=by rw [List.getElem_map,ei,ep]
    obtain ⟨m,m1,m2⟩:=S.ok.seen g3 (by rw [List.length_map]; exact hi) hh
    obtain ⟨i',hi',m3,m4⟩:=rej2 m m1
    rw [m2] at m3
    cases m3
    exact m4 (by rw [ei,ep])
   have pa:∀ m,m < N→at_ t (tupleKeyHash knd k) m∈t.place.toList:=fun m hm=>by
    obtain ⟨i,hi,m3,_⟩:=rej2 m hm
    rcases T.slot (at_ t (tupleKeyHash knd k) m) with ⟨_,z⟩ | ⟨i',z1,_,_⟩
    ·rw [z] at m3; cases m3
    ·obtain ⟨li,ei⟩:=Array.getElem?_eq_some_iff.mp z1
     rw [← ei]; simp
   exact wpAny_pure (free nk N g2 g3 pa)
  ·rw [g1] at hp
   subst hp
   dsimp only
   have mi:ks[i]∈ks:=List.getElem_mem g3
   have again:ks[i].1≠k→wpAny (model prog w) A (setSearchFrom a (.ref b) (tupleKeyHash knd k) true fuel (some (advs t (N+1) (t.probeStart (tupleKeyHash knd k))))) Q E s:=fun nk=>search_T hu S hk quiet there free he hs fuel (N+1) _ rfl (by lia) (by lia) fun m hm=>by
    rcases Nat.lt_or_ge m N with l | l
    ·exact rej2 m l
    ·have:m=N:=by lia
     subst this
     exact ⟨i,g3,g2,nk⟩
   have sm:t.sameMemory t.moves t.mask=some true:=by unfold SetTable.sameMemory; simp
   have isS:∀ x:Addr,isSame (.ref x) (.ref x)=pure true:=fun x=>by simp [isSame]
   have mem:∀ v∈(es.filter fun x=>x.1 == tupleKeyHash knd k).toList.map (·.2),∃ p∈ks,v=.ref p.2:=fun v mv=>by
    obtain ⟨x,mx,rfl⟩:=List.mem_map.mp mv
    rw [Array.toList_filter] at mx
    have mx:=(List.mem_filter.mp mx).1
    rw [S.es] at mx
    obtain ⟨p,mp,rfl⟩:=List.mem_map.mp mx
    exact ⟨p,mp,rfl⟩
   split
   rotate_left
   rotate_left
   ·refine wpAny_bind (quiet E _ _ mem ?_)
    simp only [Bool.false_eq_true,↓reduceIte]
    rw [S.entry g3]
    dsimp only
    refine wpAny_bind (wpAny_holding ((tupleKind knd).eqBool hu (S.is _ mi) hk ?_))
    refine wpAny_bind (wpAny_setState_of S.ho S.hd S.fits ?_)
    dsimp only
    by_cases q:ks[i].1=k
    ·rw [decide_eq_true q]
     simp only [Bool.and_self,↓reduceIte]
     exact wpAny_pure (there (by rw [← q]; exact List.mem_map.mpr ⟨_,mi,rfl⟩))
    ·rw [decide_eq_false q]
     simp only [Bool.and_false,Bool.false_eq_true,↓reduceIte]
     rw [sm]
     dsimp only
     simp only [↓reduceIte]
     rw [g2]
     dsimp only
     rw [S.entry g3]
     dsimp only
     rw [isS]
     refine wpAny_bind (wpAny_bind (wpAny_pure (wpAny_pure ?_)))
     simp only [↓reduceIte]
     exact again q
   ·rw [S.entry g3]
    dsimp only
    refine wpAny_bind (wpAny_holding ((tupleKind knd).eqBool hu (S.is _ mi) hk ?_))
    refine wpAny_bind (wpAny_setState_of S.ho S.hd S.fits ?_)
    dsimp only
    by_cases q:ks[i].1=k
    ·rw [decide_eq_true q]
     simp only [Bool.and_self,↓reduceIte]
     exact wpAny_pure (there (by rw [← q]; exact List.mem_map.mpr ⟨_,mi,rfl⟩))
    ·rw [decide_eq_false q]
     simp only [Bool.and_false,Bool.false_eq_true,↓reduceIte]
     rw [sm]
     dsimp only
     simp only [↓reduceIte]
     rw [g2]
     dsimp only
     rw [S.entry g3]
     dsimp only
     rw [isS]
     refine wpAny_bind (wpAny_bind (wpAny_pure (wpAny_pure ?_)))
     simp only [↓reduceIte]
     exact again q
end
end PySem
namespace PySem
open SetTable
section
variable {prog:Program} {w:World} {K:Type} [DecidableEq K] {knd:KeyKind prog w K} {A:Around} {E:Value→Shared→Prop} {s:Shared} {a b:Addr}
variable {o:Obj} {es:Array (Int × Value)} {ep:Nat} {t:SetTable} {ks:List (List K × Addr)}
theorem isTup_but {h h':Heap} {k:List K} (x:IsTupleKey knd h k b) (ho:h.get? a=some o) (hd:o.data=.set es ep t) (hs:Heap.SameBut a h h'):IsTupleKey knd h' k b:=by
 obtain ⟨o2,items,n,g1,g2,g3,g4⟩:=x
 have ne:b≠a:=fun z=>by
  rw [z,ho] at g1
  cases g1
  rw [hd] at g3
  cases g3
 exact ⟨o2,items,n,(hs.2 b ne).trans g1,g2,g3,g4⟩
theorem SetAt.store (S:SetAt knd s.heap a o es ep t ks) {es':Array (Int × Value)} {t':SetTable} {ks':List (List K × Addr)} (pm:ks'.Perm ks∨∃ k c,IsTupleKey knd s.heap k c∧k∉ks.map (·.1)∧ks'.Perm (ks++[(k,c)])) (ok:TOkH t' (ks'.map fun p=>tupleKeyHash knd p.1)) (pl:t'.plain=true→∀ p∈ks',p.1=[])
  (ee:es'.toList=ks'.map fun p=>(tupleKeyHash knd p.1,Value.ref p.2)):SetAt knd (s.heap.update a (Obj.putSet es' t')) a { o with data:=.set es' (ep+1) t' } es' (ep+1) t' ks':=by
 have hg:(s.heap.update a (Obj.putSet es' t')).get? a=some { o with data:=.set es' (ep+1) t' }:=by
  have:=Heap.get?_update_self (Obj.putSet es' t') S.ho (by rw [putSet_of es' t' S.hd]; rfl)
  rw [putSet_of es' t' S.hd] at this; exact this
 have sb:=Heap.SameBut.update s.heap a (Obj.putSet es' t')
 refine ⟨hg,S.ex,rfl,ok,pl,ee,fun p mp=>?_,?_⟩
 ·rcases pm with q | ⟨k,c,h1,_,q⟩
  ·exact isTup_but (S.is p (q.mem_iff.mp mp)) S.ho S.hd sb
  ·rcases List.mem_append.mp (q.mem_iff.mp mp) with m | m
   ·exact isTup_but (S.is p m) S.ho S.hd sb
   ·rw [List.mem_singleton.mp m]
    exact isTup_but h1 S.ho S.hd sb
 ·rcases pm with q | ⟨k,c,_,nk,q⟩
  ·exact (q.map (·.1)).nodup_iff.mpr S.nd
  ·refine (q.map (·.1)).nodup_iff.mpr ?_
   rw [List.map_append]
   exact List.nodup_append.mpr ⟨S.nd,by simp,fun x mx y my e=>nk (by
    have z:y=k:=List.mem_singleton.mp my
    rw [← z,← e]
    exact mx)⟩
theorem relay_T (S:SetAt knd s.heap a o es ep t ks) {wanted:Nat} (hw:ks.length≤wanted) (h4:wanted≤4095) {Q:Unit→Shared→Prop}
  (h:∀ h' o' es' ep' t' ks',Heap.SameBut a s.heap h'→SetAt knd h' a o' es' ep' t' ks'→ks'.Perm ks→t'.led=t.led→wanted≤t'.mask→Q () { s with heap:=h' }):wpAny (model prog w) A (setRelay a wanted) Q E s:=by
 obtain ⟨m,m1,m2,m3,m4⟩:=above_ok h4
 have pw:sizeAbove wanted - 1+1=2 ^ m:=by lia
 have sz:(es.map (·.1)).size=ks.length:=by rw [Array.size_map,S.size]
 obtain ⟨t',order,l1,T,l2,l3,l4,pm⟩:=laid_H pw (by lia) (by lia) t.finger (t.movedTo (sizeAbove wanted - 1)) t.led t.plain (es.map (·.1)) (by rw [sz]; lia)
 rw [sz] at pm
 have pm2:order.toList.Perm (List.range es.size):=by rw [S.size]; exact pm
 have op:=order_perm pm2
 have oz:(order.filterMap (es[·]?)).size=es.size:=by
  rw [← Array.length_toList,op.length_eq,Array.length_toList]
 unfold setRelay
 refine wpAny_bind (wpAny_setState_of S.ho S.hd S.fits ?_)
 dsimp only
 rw [if_neg (by rw [sizeLine_eq]; lia)]
 rw [show t.relaid (es.map (·.1)) wanted=some (t',order) from l1]
 refine wpAny_bind ?_
 refine (show wpAny (model prog w) A (if ((order.filterMap (es[·]?)).size != es.size)=true then _ else pure (order.filterMap (es[·]?),t')) _ E s from ?_)
 rw [if_neg (by rw [oz]; simp)]
 refine wpAny_pure ?_
 dsimp only
 refine wpAny_storeSet_of S.ho S.hd ?_ (by rw [oz,S.size,sizeLine_eq]; lia)
 have kp:(order.toList.filterMap (ks[·]?)).Perm ks:=by
  have:=pm.filterMap fun i=>ks[i]?
  rw [List.filterMap_getElem?_range_length ks] at this
  exact this
 refine h _ _ _ _ _ (order.toList.filterMap (ks[·]?)) (Heap.SameBut.update ..) (S.store (.inl kp) ?_ (fun z p mp=>S.pl (by rw [← l4]; exact z) p (kp.mem_iff.mp mp)) ?_) kp l3 (by rw [l2]; lia)
 ·have e:(order.toList.map fun q=>(es.map (·.1)).getD q 0)=(order.toList.filterMap (ks[·]?)).map fun p=>tupleKeyHash knd p.1:=by
   rw [List.map_filterMap,← List.filterMap_eq_map]
   refine fm_congr fun q mq=>?_
   have hq:=List.mem_range.mp (pm.mem_iff.mp mq)
   rw [List.getElem?_eq_getElem hq]
   have:=S.entry hq
   obtain ⟨z1,z2⟩:=Array.getElem?_eq_some_iff.mp this
   simp [z1,z2]
  rw [← e]
  exact T
 ·rw [Array.toList_filterMap,List.map_filterMap]
  refine fm_congr fun q mq=>?_
  have hq:=List.mem_range.mp (pm.mem_iff.mp mq)
  rw [List.getElem?_eq_getElem hq,S.entry hq]
  rfl
theorem ins_map {α β:Type} (f:α→β) (l:List α) (p:Nat) (x:α):(l.take p++x :: l.drop p).map f=(l.map f).take p++f x :: (l.map f).drop p:=by
 rw [List.map_append,List.map_cons,List.map_take,List.map_drop]
theorem add_T (hu:(tupleKind knd).room A) (S:SetAt knd s.heap a o es ep t ks) (lo:5 * ks.length < 3 * t.mask) (hn:ks.length < 900) {k:List K} (hk:IsTupleKey knd s.heap k b)
  (quiet:∀ (E:Value→Shared→Prop) (stored:List Value) (R:Bool→Shared→Prop),(∀ v∈stored,∃ p∈ks,v=.ref p.2)→R false s→wpAny (model prog w) A (searchCouldBeSeen (.ref b) stored) R E s)
  (hbv:∀ (E:Value→Shared→Prop) (R:Bool→Shared→Prop),(∀ c,(c=true→k=[])→R c s)→wpAny (model prog w) A (hashByValue 8 (.ref b)) R E s)
  {Q:Bool→Shared→Prop} (old:k∈ks.map (·.1)→Q false s)
  (new:k∉ks.map (·.1)→∀ h' o' es' ep' t' ks',Heap.SameBut a s.heap h'→SetAt knd h' a o' es' ep' t' ks'→ks'.Perm (ks++[(k,b)])→t'.led=t.led→5 * ks'.length < 3 * t'.mask→Q true { s with heap:=h' }) :
  wpAny (model prog w) A (setAddHashed a (.ref b) (tupleKeyHash knd k)) Q E s:=by
 have T:=S.tok
 have few:=T.few
 have big:=T.big
 obtain ⟨e,he,hs⟩:=T.stop (tupleKeyHash knd k)
 unfold setAddHashed setAddHashedIn
 refine wpAny_holding (wpAny_bind (wpAny_setState_of S.ho S.hd S.fits ?_))
 dsimp only
 rw [show byScan (.ref b) es=false from rfl]
 simp only [Bool.false_eq_true,↓reduceIte]
 refine wpAny_bind ?_
 unfold setSearch
 refine search_T hu S hk quiet (fun mk=>?_) (fun nk N g1 g2 g3=>?_) he hs 100000 0 none rfl (Nat.zero_le _) (by unfold turns at he; lia) (fun m hm=>absurd hm (Nat.not_lt_zero _))
 ·dsimp only
  exact wpAny_pure (old mk)
 ·dsimp only
  refine wpAny_bind (wpAny_setState_of S.ho S.hd S.fits ?_)
  dsimp only
  have hl:(ks.map fun p=>tupleKeyHash knd p.1).length=ks.length:=List.length_map ..
  obtain ⟨P,p1,p2⟩:=S.ok.put g1 g2 g3 (by rw [hl]; lia)
  rw [hl] at p1
  generalize hj:at_ t (tupleKeyHash knd k) N=j at *
  have eflags:(t.put j).1.led=t.led∧(t.put j).1.plain=t.plain:=⟨rfl,rfl⟩
  rw [show (tupleKeyHash knd k)=(fun p:List K × Addr=>tupleKeyHash knd p.1) (k,b) from rfl,← ins_map] at P
  have kp:(ks.take (t.put j).2++(k,b) :: ks.drop (t.put j).2).Perm (ks++[(k,b)]):=by
   refine List.perm_middle.trans ?_
   rw [List.take_append_drop]
   exact (List.perm_append_singleton (k,b) ks).symm
  have kl:(ks.take (t.put j).2++(k,b) :: ks.drop (t.put j).2).length=ks.length+1:=by rw [kp.length_eq,List.length_append,List.length_singleton]
  have ee:(SetTable.insertAt es (t.put j).2 (tupleKeyHash knd k,Value.ref b)).toList=(ks.take (t.put j).2++(k,b) :: ks.drop (t.put j).2).map fun p=>(tupleKeyHash knd p.1,Value.ref p.2):=by
   rw [toList_insertAt,S.es,ins_map]
  have ez:(SetTable.insertAt es (t.put j).2 (tupleKeyHash knd k,Value.ref b)).size=ks.length+1:=by
   rw [← Array.length_toList,ee,List.length_map,kl]
  have tail:∀ t':SetTable,t'.mask=(t.put j).1.mask→t'.place=(t.put j).1.place→t'.dummies=(t.put j).1.dummies→t'.led=t.led→(t'.plain=true→t.plain=true∧k=[])→wpAny (model prog w) A (do
    storeSet a (SetTable.insertAt es (t.put j).2 (tupleKeyHash knd k,Value.ref b)) t'
    if (!false && t'.tooFull)=true then do
      setRelay a (SetTable.grown (es.size+1))
      pure true
     else pure true) Q E s:=fun t' q1 q2 q3 q4 q5=>by
   have P':TOkH t' ((ks.take (t.put j).2++(k,b) :: ks.drop (t.put j).2).map fun p=>tupleKeyHash knd p.1):=by
    obtain ⟨O,rc⟩:=P
    refine ⟨⟨by rw [q1]; exact O.mk2,by rw [q1]; exact O.big,by rw [q1]; exact O.few,by rw [q2]; exact O.sz,by rw [q2]; exact O.so,by rw [q2,q1]; exact O.lo,by rw [q3]; exact O.nd,by rw [q1]; exact O.fl⟩,fun i hi=>?_⟩
    obtain ⟨y,y1,n,y2,y3⟩:=rc i hi
    exact ⟨y,by rw [q2]; exact y1,n,by rw [at_mask q1]; exact y2,fun m hm=>by rw [at_mask q1,q2]; exact y3 m hm⟩
   have st:=S.store (es':=SetTable.insertAt es (t.put j).2 (tupleKeyHash knd k,Value.ref b)) (t':=t') (.inr ⟨k,b,hk,nk,kp⟩) P' (fun z p mp=>by
    obtain ⟨z1,z2⟩:=q5 z
    rcases List.mem_append.mp (kp.mem_iff.mp mp) with m | m
    ·exact S.pl z1 p m
    ·rw [List.mem_singleton.mp m]; exact z2) ee
   refine wpAny_bind (wpAny_storeSet_of S.ho S.hd ?_ (by rw [ez,sizeLine_eq]; lia))
   have fillE:t'.fill=ks.length+1:=by
    unfold SetTable.fill
    rw [q2,q3,P.ok.sz,P.ok.nd,List.length_map,kl]
    rfl
   by_cases tf:t'.tooFull=true
   ·rw [tf]
    simp only [Bool.not_false,Bool.and_self,↓reduceIte]
    have gr:SetTable.grown (es.size+1)=(ks.length+1) * 4:=by
     unfold SetTable.grown
     rw [S.size,if_neg (by lia)]
    rw [gr]
    refine wpAny_bind (relay_T (s:={ s with heap:=s.heap.update a (Obj.putSet (SetTable.insertAt es (t.put j).2 (tupleKeyHash knd k,Value.ref b)) t') }) st (by rw [kl]; lia) (by lia) fun h' o' es' ep' t2 ks2 sb S2 pm le mk=>wpAny_pure ?_)
    refine new nk h' o' es' ep' t2 ks2 ((Heap.SameBut.update ..).trans sb) S2 (pm.trans kp) (le.trans q4) ?_
    rw [pm.length_eq,kl]
    lia
   ·rw [Bool.not_eq_true] at tf
    rw [tf]
    simp only [Bool.and_false,Bool.false_eq_true,↓reduceIte]
    refine wpAny_pure (new nk _ _ _ _ _ _ (Heap.SameBut.update ..) st kp q4 ?_)
    unfold SetTable.tooFull at tf
    rw [fillE] at tf
    have:=of_decide_eq_false tf
    rw [kl]
    lia
  split
  ·rename_i pt
   refine wpAny_bind (hbv E _ fun c hc=>?_)
   cases c with
   | true =>
    simp only [↓reduceIte]
    exact tail _ rfl rfl rfl rfl fun z=>⟨pt,hc rfl⟩
   | false =>
    simp only [Bool.false_eq_true,↓reduceIte]
    exact tail { (t.put j).1 with plain:=false } rfl rfl rfl rfl fun z=>by cases z
  ·rename_i pf
   refine wpAny_bind (wpAny_pure ?_)
   simp only [↓reduceIte]
   exact tail _ rfl rfl rfl rfl fun z=>absurd z pf
theorem class_T {k:List K} {Q:Bool→Shared→Prop} (hk:IsTupleKey knd s.heap k b) (h:Q false s):wpAny (model prog w) A (ofAClassStatement 8 (.ref b)) Q E s:=by
 have hT:=hk.typeIs
 obtain ⟨o2,items,n,ho,_,hd,hi⟩:=hk
 unfold ofAClassStatement
 refine wpAny_bind (wpAny_typeOf hT ?_)
 dsimp only
 refine wpAny_bind (wpAny_pure ?_)
 simp only [Bool.not_true,Bool.false_eq_true,if_false]
 refine wpAny_bind (wpAny_seqItems ho hd ?_)
 dsimp only
 refine wpAny_bind ?_
 rw [← Array.forIn_toList]
 refine wpAny_forIn_list _ (fun rest r s'=>r.1=none∧s'=s∧∀ v∈rest,carriedByValue v=true) _ ?_ ?_ _ _ ⟨rfl,rfl,hi.byValue⟩
 ·rintro v rest r s' ⟨hr,rfl,hall⟩
  have:ofAClassStatement 7 v=pure false:=by
   have:=hall v List.mem_cons_self
   cases v <;> first | (cases this; done) | rfl
  rw [this]
  refine wpAny_bind (wpAny_pure ?_)
  simp only [Bool.false_eq_true,if_false]
  exact wpAny_pure ⟨rfl,rfl,fun u hu'=>hall u (List.mem_cons_of_mem _ hu')⟩
 ·rintro ⟨r1,r2⟩ s' ⟨hr,rfl,_⟩
  simp only at hr
  subst hr
  exact wpAny_pure h
theorem seen_T {k:List K} (hk:IsTupleKey knd s.heap k b) (is:∀ p∈ks,IsTupleKey knd s.heap p.1 p.2) (E:Value→Shared→Prop) (stored:List Value) (R:Bool→Shared→Prop) (hm:∀ v∈stored,∃ p∈ks,v=.ref p.2) (h:R false s):wpAny (model prog w) A (searchCouldBeSeen (.ref b) stored) R E s:=by
 unfold searchCouldBeSeen
 refine wpAny_bind ?_
 refine wpAny_forIn_list _ (fun rest r s'=>r.1=none∧s'=s∧∀ v∈rest,∃ p∈ks,v=.ref p.2) _ ?_ ?_ _ _ ⟨rfl,rfl,hm⟩
 ·rintro v rest r s' ⟨hr,rfl,hall⟩
  obtain ⟨p,mp,rfl⟩:=hall v List.mem_cons_self
  have hp:=is p mp
  have nx:∀ u∈rest,∃ p∈ks,u=.ref p.2:=fun u hu'=>hall u (List.mem_cons_of_mem _ hu')
  dsimp only
  split
  ·exact wpAny_pure ⟨rfl,rfl,nx⟩
  ·refine wpAny_bind (wpAny_eqIsQuiet_tuple hk ?_)
   simp only [Bool.not_true,Bool.false_eq_true,if_false]
   refine wpAny_bind (wpAny_eqIsQuiet_tuple hp ?_)
   simp only [Bool.not_true,Bool.false_eq_true,if_false]
   refine wpAny_bind (class_T hk ?_)
   simp only [Bool.false_eq_true,if_false]
   refine wpAny_bind (class_T hp ?_)
   simp only [Bool.false_eq_true,if_false]
   exact wpAny_pure ⟨rfl,rfl,nx⟩
 ·rintro ⟨r1,r2⟩ s' ⟨hr,rfl,_⟩
  simp only at hr
  subst hr
  exact wpAny_pure h
end
end PySem
namespace PySem
open SetTable
section
variable {prog:Program} {w:World} {K:Type} [DecidableEq K] {knd:KeyKind prog w K} {A:Around} {E:Value→Shared→Prop} {s:Shared} {a b:Addr}
variable {o:Obj} {es:Array (Int × Value)} {ep:Nat} {t:SetTable} {ks:List (List K × Addr)}
theorem hbv_T {k:List K} (hk:IsTupleKey knd s.heap k b) (hstr:∀ x∈k,∀ v,knd.is x v=true→∀ n,hashByValue n v=pure false) (E:Value→Shared→Prop) (R:Bool→Shared→Prop) (h:∀ c,(c=true→k=[])→R c s):wpAny (model prog w) A (hashByValue 8 (.ref b)) R E s:=by
 have hT:=hk.typeIs
 obtain ⟨o2,items,n,ho,_,hd,hi⟩:=hk
 unfold hashByValue
 refine wpAny_bind (wpAny_specialOf hT F.slot_tuple_hash.lookup ?_)
 refine wpAny_bind (wpAny_seqItems ho hd ?_)
 refine wpAny_bind ?_
 show wpAny _ _ (forIn items _ _) _ _ s
 rw [← Array.forIn_toList]
 generalize items.toList=l at hi
 cases hi with
 | nil =>
  rw [List.forIn_nil]
  exact wpAny_pure (wpAny_pure (h true fun _=>rfl))
 | cons h1 h2 =>
  rename_i k v ks' vs
  rw [List.forIn_cons,hstr k List.mem_cons_self v h1 7]
  refine wpAny_bind (wpAny_bind (wpAny_pure ?_))
  simp only [Bool.not_false,if_true]
  refine wpAny_pure ?_
  dsimp only
  exact wpAny_pure (wpAny_pure (h false fun z=>by cases z))
theorem fresh_ok (led:Bool):TOkH (SetTable.fresh 0 0 led) []:=by
 refine ⟨⟨⟨3,rfl⟩,show 7≤7 by decide,show 7≤8191 by decide,rfl,(fun i j hi=>absurd hi (Nat.not_lt_zero _)),(fun j m=>by cases m),rfl,Nat.zero_le _⟩,fun i hi=>absurd hi (Nat.not_lt_zero _)⟩
theorem room_T (S:SetAt knd s.heap a o es ep t ks) {more:Nat} (hn:ks.length+more≤2000) {Q:Unit→Shared→Prop} (h0:5 * (ks.length+more) < 3 * t.mask→Q () s)
  (h:∀ h' o' es' ep' t' ks',Heap.SameBut a s.heap h'→SetAt knd h' a o' es' ep' t' ks'→ks'.Perm ks→t'.led=t.led→5 * (ks.length+more) < 3 * t'.mask→Q () { s with heap:=h' }):wpAny (model prog w) A (setRoomFor a more) Q E s:=by
 have T:=S.tok
 have fl:t.fill=ks.length:=by unfold SetTable.fill; rw [T.sz,T.nd]; rfl
 unfold setRoomFor
 refine wpAny_bind (wpAny_setState_of S.ho S.hd S.fits ?_)
 dsimp only
 unfold SetTable.roomFor
 rw [fl,T.sz]
 by_cases c:(ks.length+more) * 5 ≥ t.mask * 3
 ·rw [if_pos c]
  dsimp only
  have big:=T.big
  refine relay_T S (by lia) (by lia) fun h' o' es' ep' t' ks' sb S' pm le mk=>h h' o' es' ep' t' ks' sb S' pm le (by lia)
 ·rw [if_neg c]
  dsimp only
  exact wpAny_pure (h0 (by lia))
end
end PySem
namespace PySem
open SetTable
theorem sub_dict_set:isSubtype (.type "dict") (.type "set")=pure false:=by rw [isSubtype_type]; kernel_rfl
theorem sub_dict_fset:isSubtype (.type "dict") (.type "frozenset")=pure false:=by rw [isSubtype_type]; kernel_rfl
section
variable {prog:Program} {w:World} {K:Type} [DecidableEq K] {knd:KeyKind prog w K} {A:Around} {E:Value→Shared→Prop} {s:Shared} {a b d:Addr}
variable {o:Obj} {es:Array (Int × Value)} {ep:Nat} {t:SetTable} {ks:List (List K × Addr)} {xs:List (List K × Addr × Value)}
theorem notSet_dict {Q:Bool→Shared→Prop} (hT:s.TypeIs (.ref d) "dict") (h:Q false s):wpAny (model prog w) A (Builtin.Frozenset.isAnySet (.ref d)) Q E s:=by
 unfold Builtin.Frozenset.isAnySet orM
 refine wpAny_bind (wpAny_isInstance hT sub_dict_set ?_)
 show wpAny _ _ (isInstance (.ref d) (.type "frozenset")) _ _ s
 exact wpAny_isInstance hT sub_dict_fset h
theorem fill_T (id:String) (hu:(tupleKind knd).room A) (S:SetAt knd s.heap a o es ep t []) (D:s.heap.DictOfH (tupleKind knd) d xs) (nd:(d == sysModules)=false) (hx:xs.length≤800) (hstr:∀ x∈xs,∀ y∈x.1,∀ v,knd.is y v=true→∀ n,hashByValue n v=pure false) {Q:Unit→Shared→Prop}
  (h:∀ h' o' es' ep' t' ks',Heap.SameBut a s.heap h'→SetAt knd h' a o' es' ep' t' ks'→ks'.Perm (xs.map fun x=>(x.1,x.2.1))→t'.led=t.led→5 * ks'.length < 3 * t'.mask→Q () { s with heap:=h' }):wpAny (model prog w) A (Builtin.Frozenset.updateFrom id a (.ref d)) Q E s:=by
 have hT:=D.typeIs
 obtain ⟨od,ed,epd,d1,d2,d3,d4,d5,d6⟩:=D
 have esz:=size_of_entries d4
 have ne:d≠a:=fun z=>by
  rw [z,S.ho] at d1
  cases d1
  rw [S.hd] at d3
  cases d3
 unfold Builtin.Frozenset.updateFrom
 refine wpAny_bind (notSet_dict hT ?_)
 simp only [Bool.false_eq_true,if_false]
 refine wpAny_bind (wpAny_typeOf hT ?_)
 rw [if_pos (by rfl)]
 refine wpAny_bind (wpAny_rule ?_)
 refine wpAny_bind (wpAny_pure ?_)
 rw [nd]
 simp only [Bool.false_eq_true,if_false]
 refine wpAny_bind (wpAny_dictEpoch d1 d3 ?_)
 refine wpAny_bind (wpAny_dictEntries d1 d3 ?_)
 have go:∀ (h0:Heap) (o0:Obj) (es0:Array (Int × Value)) (ep0:Nat) (t0:SetTable),Heap.SameBut a s.heap h0→SetAt knd h0 a o0 es0 ep0 t0 []→t0.led=t.led→0 < t0.mask→wpAny (model prog w) A (do
    let ent ← dictEntries d
    for i in [0:ent.size] do
     let some e:=(← dictEntries d)[i]? | unsupported "internal:set-from-dict"
     let _ ← holding [e.key] (setAddHashed a e.key e.hash)
     if (← dictEpoch d) != epd then unsupported s!"{id}:changed-during-callback"
    return ()) Q E { s with heap:=h0 }:=fun h0 o0 es0 ep0 t0 sb0 S0 le0 mk0=>by
  have dd0:h0.get? d=some od:=(sb0.2 d ne).trans d1
  refine wpAny_bind (wpAny_dictEntries (s:={ s with heap:=h0 }) dd0 d3 ?_)
  refine wpAny_bind ?_
  rw [Std.Legacy.Range.forIn_eq_forIn_range']
  simp only [Std.Legacy.Range.size,Nat.sub_zero,Nat.add_sub_cancel,Nat.div_one]
  refine wpAny_forIn_list _ (fun rest _ s'=>∃ i h' o' es' ep' t' ks',rest=List.range' i (ed.size - i)∧i≤ed.size∧s'={ s with heap:=h' }∧Heap.SameBut a s.heap h'∧SetAt knd h' a o' es' ep' t' ks'∧ks'.Perm ((xs.take i).map fun x=>(x.1,x.2.1))∧t'.led=t.led∧5 * ks'.length < 3 * t'.mask) _ ?_ ?_ _ _ ⟨0,h0,o0,es0,ep0,t0,[],rfl,Nat.zero_le _,rfl,sb0,S0,List.Perm.refl _,le0,by simp; lia⟩
  ·rintro i0 rest r s' ⟨i,h',o',es',ep',t',ks',er,hi,rfl,sb,S',pm,le,lo⟩
   have il:i < ed.size:=by
    rcases Nat.lt_or_ge i ed.size with z | z
    ·exact z
    ·rw [Nat.sub_eq_zero_of_le z] at er; cases er
   rw [show ed.size - i=(ed.size - (i+1))+1 by lia,List.range'_succ] at er
   obtain ⟨rfl,er⟩:=List.cons.inj er
   have dd:h'.get? d=some od:=(sb.2 d ne).trans d1
   have xl:i0 < xs.length:=by lia
   refine wpAny_bind (wpAny_dictEntries (s:={ s with heap:=h' }) dd d3 ?_)
   rw [entry_at d4 i0,List.getElem?_eq_getElem xl]
   simp only [Option.map_some,entryOfKey]
   have kl:=pm.length_eq
   rw [List.length_map,List.length_take] at kl
   have hkey:IsTupleKey knd h' xs[i0].1 xs[i0].2.1:=isTup_but (d5 xs[i0] (List.getElem_mem xl)) S.ho S.hd sb
   have nk0:xs[i0].1∉ks'.map (·.1):=fun mk=>by
    obtain ⟨p,mp,ep⟩:=List.mem_map.mp mk
    obtain ⟨x,mx,ex⟩:=List.mem_map.mp (pm.mem_iff.mp mp)
    obtain ⟨q,hq,eq⟩:=List.mem_iff_getElem.mp mx
    rw [List.length_take] at hq
    rw [List.getElem_take] at eq
    have e1:x.1=xs[i0].1:=by rw [← ep,← ex]
    have N:=List.pairwise_iff_getElem.mp d6
    have:=N q i0 (by rw [List.length_map]; lia) (by rw [List.length_map]; lia) (by lia)
    rw [List.getElem_map,List.getElem_map,eq] at this
    exact this e1
   refine wpAny_bind (wpAny_holding ?_)
   refine add_T (s:={ s with heap:=h' }) hu S' lo (by lia) hkey (seen_T hkey S'.is) (hbv_T hkey (hstr _ (List.getElem_mem xl))) (fun mk=>absurd mk nk0) fun _ h2 o2 es2 ep2 t2 ks2 sb2 S2 pm2 le2 lo2=>?_
   have dd2:h2.get? d=some od:=(sb2.2 d ne).trans dd
   refine wpAny_bind (wpAny_dictEpoch (s:={ s with heap:=h2 }) dd2 d3 ?_)
   rw [if_neg (by simp)]
   refine wpAny_pure ⟨i0+1,h2,o2,es2,ep2,t2,ks2,er,by lia,rfl,sb.trans sb2,S2,?_,le2.trans le,lo2⟩
   rw [List.take_succ,List.getElem?_eq_getElem xl,List.map_append]
   exact pm2.trans (pm.append_right _)
  ·rintro r s' ⟨i,h',o',es',ep',t',ks',er,hi,rfl,sb,S',pm,le,lo⟩
   have:i=xs.length:=by
    have:=congrArg List.length er
    rw [List.length_range',List.length_nil] at this
    lia
   subst this
   rw [List.take_length] at pm
   exact wpAny_pure (h h' o' es' ep' t' ks' sb S' pm le lo)
 refine wpAny_bind (room_T S (by simp only [List.length_nil]; lia) (fun _=>?_) fun h' o' es' ep' t' ks' sb S' pm le lo=>?_)
 ·have:=go s.heap o es ep t (Heap.SameBut.refl ..) S rfl (by have:=S.tok.big; lia)
  exact this
 ·cases List.Perm.eq_nil pm
  exact go h' o' es' ep' t' sb S' le (by have:=(SetAt.tok (s:={ s with heap:=h' }) S').big; lia)
end
end PySem
namespace PySem
open SetTable
theorem sub_set_set:isSubtype (.type "set") (.type "set")=pure true:=by rw [isSubtype_type]; kernel_rfl
section
variable {prog:Program} {w:World} {K:Type} [DecidableEq K] {knd:KeyKind prog w K} {A:Around} {E:Value→Shared→Prop} {s:Shared} {a b d r:Addr}
variable {o oa:Obj} {es ea:Array (Int × Value)} {ep epa:Nat} {t ta:SetTable} {ks ka:List (List K × Addr)}
theorem SetAt.typeIs (S:SetAt knd s.heap a o es ep t ks):s.TypeIs (.ref a) "set" := ⟨o,S.ho,S.ex.1⟩
theorem SetAt.but {h h':Heap} (S:SetAt knd h a o es ep t ks) (so:SetAt knd h r oa ea epa ta ka) (ne:a≠r) (sb:Heap.SameBut r h h'):SetAt knd h' a o es ep t ks :=
 ⟨(sb.2 a ne).trans S.ho,S.ex,S.hd,S.ok,S.pl,S.es,fun p mp=>isTup_but (S.is p mp) so.ho so.hd sb,S.nd⟩
theorem SetAt.store2 (S:SetAt knd s.heap a o es ep t ks) {es':Array (Int × Value)} {t':SetTable} {ks':List (List K × Addr)} (is:∀ p∈ks',IsTupleKey knd s.heap p.1 p.2) (nd:(ks'.map (·.1)).Nodup) (ok:TOkH t' (ks'.map fun p=>tupleKeyHash knd p.1)) (pl:t'.plain=true→∀ p∈ks',p.1=[])
  (ee:es'.toList=ks'.map fun p=>(tupleKeyHash knd p.1,Value.ref p.2)):SetAt knd (s.heap.update a (Obj.putSet es' t')) a { o with data:=.set es' (ep+1) t' } es' (ep+1) t' ks':=by
 have hg:(s.heap.update a (Obj.putSet es' t')).get? a=some { o with data:=.set es' (ep+1) t' }:=by
  have:=Heap.get?_update_self (Obj.putSet es' t') S.ho (by rw [putSet_of es' t' S.hd]; rfl)
  rw [putSet_of es' t' S.hd] at this; exact this
 have sb:=Heap.SameBut.update s.heap a (Obj.putSet es' t')
 exact ⟨hg,S.ex,rfl,ok,pl,ee,fun p mp=>isTup_but (is p mp) S.ho S.hd sb,nd⟩
theorem TOkH.flags {t t':SetTable} {hs:List Int} (h:TOkH t hs) (q1:t'.mask=t.mask) (q2:t'.place=t.place) (q3:t'.dummies=t.dummies):TOkH t' hs:=by
 obtain ⟨O,rc⟩:=h
 refine ⟨⟨by rw [q1]; exact O.mk2,by rw [q1]; exact O.big,by rw [q1]; exact O.few,by rw [q2]; exact O.sz,by rw [q2]; exact O.so,by rw [q2,q1]; exact O.lo,by rw [q3]; exact O.nd,by rw [q1]; exact O.fl⟩,fun i hi=>?_⟩
 obtain ⟨y,y1,n,y2,y3⟩:=rc i hi
 exact ⟨y,by rw [q2]; exact y1,n,by rw [at_mask q1]; exact y2,fun m hm=>by rw [at_mask q1,q2]; exact y3 m hm⟩
theorem copy_T (R:SetAt knd s.heap r o es ep t []) (S:SetAt knd s.heap a oa ea epa ta ka) (ne:a≠r) (hn:ka.length≤1900) (lo:5 * ka.length < 3 * ta.mask) {each:Sem Unit} {Q:Unit→Shared→Prop} (h0:ka=[]→Q () s)
  (h:∀ h' o' es' ep' t' ks',Heap.SameBut r s.heap h'→SetAt knd h' r o' es' ep' t' ks'→ks'.Perm ka→t'.led=(t.led && ta.led)→5 * ks'.length < 3 * t'.mask→Q () { s with heap:=h' }):wpAny (model prog w) A (setMerge r a each) Q E s:=by
 unfold setMerge
 rw [if_neg (by simpa using Ne.symm ne)]
 refine wpAny_bind (wpAny_setState_of S.ho S.hd S.fits ?_)
 dsimp only
 by_cases em:ka=[]
 ·have:ea.isEmpty=true:=by
   have:=S.size
   rw [em] at this
   simpa [Array.isEmpty] using this
  rw [if_pos this]
  exact wpAny_pure (h0 em)
 ·have ne2:¬ ea.isEmpty=true:=fun z=>em (List.length_eq_zero_iff.mp (by
   have:=S.size
   have z:ea.size=0:=by simpa [Array.isEmpty] using z
   lia))
  rw [if_neg ne2]
  have sz:=S.size
  refine wpAny_bind (wpAny_mono (room_T (Q:=fun _ s1=>∃ h1 o1 es1 ep1 t1,s1={ s with heap:=h1 }∧Heap.SameBut r s.heap h1∧SetAt knd h1 r o1 es1 ep1 t1 []∧t1.led=t.led∧5 * ka.length < 3 * t1.mask) R (more:=ea.size) (by simp only [List.length_nil]; lia) (fun lo1=>⟨s.heap,o,es,ep,t,rfl,Heap.SameBut.refl ..,R,rfl,by simp only [List.length_nil] at lo1; lia⟩) fun h1 o1 es1 ep1 t1 ks1 sb R1 pm le lo1=>by
   cases List.Perm.eq_nil pm
   exact ⟨h1,o1,es1,ep1,t1,rfl,sb,R1,le,by simp only [List.length_nil] at lo1; lia⟩) ?_ fun _ _ z=>z)
  rintro _ s1 ⟨h1,o1,es1,ep1,t1,rfl,sb,R1,le,lo1⟩
  have S1:SetAt knd h1 a oa ea epa ta ka:=S.but R ne sb
  have T1:=SetAt.tok (s:={ s with heap:=h1 }) R1
  refine wpAny_bind (wpAny_setState_of (s:={ s with heap:=h1 }) R1.ho R1.hd (SetAt.fits (s:={ s with heap:=h1 }) R1) ?_)
  dsimp only
  have fl:t1.fill=0:=by unfold SetTable.fill; rw [T1.sz,T1.nd]; rfl
  unfold SetTable.road
  rw [fl]
  simp only [bne_self_eq_false,Bool.false_eq_true,if_false]
  by_cases c:(t1.mask == ta.mask && ta.dummies.isEmpty)=true
  ·rw [if_pos c]
   dsimp only
   refine wpAny_storeSet_of (s:={ s with heap:=h1 }) R1.ho R1.hd ?_ (by rw [sz,sizeLine_eq]; lia)
   refine h _ _ _ _ _ ka (sb.trans (Heap.SameBut.update ..)) (SetAt.store2 (s:={ s with heap:=h1 }) R1 S1.is S1.nd (TOkH.flags S.ok rfl rfl rfl) (fun z p mp=>S.pl (by simp only [Bool.and_eq_true] at z; exact z.2) p mp) S.es) (List.Perm.refl _) (by show (t1.led && ta.led)=_; rw [le]) lo
  ·rw [if_neg c]
   dsimp only
   obtain ⟨m,hm⟩:=T1.mk2
   have szm:(ea.map (·.1)).size=ka.length:=by rw [Array.size_map,sz]
   obtain ⟨t',order,l1,T,l2,l3,l4,pm⟩:=laid_H hm T1.big T1.few t1.finger t1.moves (t1.led && ta.led) (t1.plain && ta.plain) (ea.map (·.1)) (by rw [szm]; lia)
   rw [szm] at pm
   have pm2:order.toList.Perm (List.range ea.size):=by rw [sz]; exact pm
   have op:=order_perm pm2
   have oz:(order.filterMap (ea[·]?)).size=ea.size:=by rw [← Array.length_toList,op.length_eq,Array.length_toList]
   rw [l1]
   refine wpAny_bind ?_
   refine (show wpAny (model prog w) A (if ((order.filterMap (ea[·]?)).size != ea.size)=true then _ else pure (order.filterMap (ea[·]?),t')) _ E { s with heap:=h1 } from ?_)
   rw [if_neg (by rw [oz]; simp)]
   refine wpAny_pure ?_
   dsimp only
   refine wpAny_storeSet_of (s:={ s with heap:=h1 }) R1.ho R1.hd ?_ (by rw [oz,sz,sizeLine_eq]; lia)
   have kp:(order.toList.filterMap (ka[·]?)).Perm ka:=by
    have:=pm.filterMap fun i=>ka[i]?
    rw [List.filterMap_getElem?_range_length ka] at this
    exact this
   refine h _ _ _ _ _ (order.toList.filterMap (ka[·]?)) (sb.trans (Heap.SameBut.update ..)) (SetAt.store2 (s:={ s with heap:=h1 }) R1 (fun p mp=>S1.is p (kp.mem_iff.mp mp)) ((kp.map (·.1)).nodup_iff.mpr S1.nd) ?_ (fun z p mp=>S.pl (by rw [l4] at z; simp only [Bool.and_eq_true] at z; exact z.2) p (kp.mem_iff.mp mp)) ?_) kp (by rw [l3,le]) (by rw [kp.length_eq,l2]; exact lo1)
   ·have e:(order.toList.map fun q=>(ea.map (·.1)).getD q 0)=(order.toList.filterMap (ka[·]?)).map fun p=>tupleKeyHash knd p.1:=by
     rw [List.map_filterMap,← List.filterMap_eq_map]
     refine fm_congr fun q mq=>?_
     have hq:=List.mem_range.mp (pm.mem_iff.mp mq)
     rw [List.getElem?_eq_getElem hq]
     have:=S.entry hq
     obtain ⟨z1,z2⟩:=Array.getElem?_eq_some_iff.mp this
     simp [z1,z2]
    rw [← e]
    exact T
   ·rw [Array.toList_filterMap,List.map_filterMap]
    refine fm_congr fun q mq=>?_
    have hq:=List.mem_range.mp (pm.mem_iff.mp mq)
    rw [List.getElem?_eq_getElem hq,S.entry hq]
    rfl
end
end PySem
namespace PySem
open SetTable Sem
section
variable {prog:Program} {w:World} {K:Type} [DecidableEq K] {knd:KeyKind prog w K} {A:Around} {E:Value→Shared→Prop} {s:Shared} {a b d r:Addr}
variable {o:Obj} {es:Array (Int × Value)} {ep:Nat} {t:SetTable} {ks:List (List K × Addr)}
theorem wpAny_choose {src:Source} {n:Nat} {Q:Nat→Shared→Prop} (hn:n≠0) (h:∀ i dr,i < n→Q i { s with drawn:=dr }):wpAny (model prog w) A (choose src n) Q E s:=fun Γ p hΓ=>by
 unfold choose
 rw [wp_choose]
 exact ⟨hn,h _ _ (Nat.mod_lt _ (Nat.pos_of_ne_zero hn))⟩
theorem erase_perm {α:Type} {l:List α} {i:Nat} {x:α} (h:l[i]?=some x):(x :: l.eraseIdx i).Perm l:=by
 obtain ⟨li,e⟩:=List.getElem?_eq_some_iff.mp h
 rw [List.eraseIdx_eq_take_drop_succ]
 refine List.perm_middle.symm.trans (List.Perm.of_eq ?_)
 conv=>rhs; rw [← List.take_append_drop i l,List.drop_eq_getElem_cons li,e]
theorem draw_perm {α:Type}:∀ (n:Nat) (xs:List α) (s:Shared) (Q:List α→Shared→Prop),xs.length=n→(∀ l dr,l.Perm xs→Q l { s with drawn:=dr })→wpAny (model prog w) A (drawOrder n xs) Q E s
 | 0,xs,s,Q,hl,h=>by
  cases List.length_eq_zero_iff.mp hl
  unfold drawOrder
  exact wpAny_pure (h [] s.drawn (List.Perm.refl _))
 | n+1,[],s,Q,hl,h=>by cases hl
 | n+1,x :: xs,s,Q,hl,h=>by
  unfold drawOrder
  refine wpAny_bind (wpAny_choose (by rw [hl]; lia) fun i dr hi=>?_)
  rw [List.getElem?_eq_getElem hi]
  dsimp only
  refine wpAny_bind (draw_perm n _ _ _ (by rw [List.length_eraseIdx,if_pos hi,hl]; rfl) fun l dr2 hp=>?_)
  exact wpAny_pure (h _ dr2 ((hp.cons _).trans (erase_perm (List.getElem?_eq_getElem hi))))
theorem pick_perm {α:Type} (next:Nat→Nat):∀ (fuel k:Nat) (left:List α) (out:Array α),left.length=fuel→(pickOrder.go next fuel k left out).toList.Perm (out.toList++left)
 | 0,k,left,out,h=>by
  cases List.length_eq_zero_iff.mp h
  unfold pickOrder.go
  rw [List.append_nil]
 | fuel+1,k,left,out,h=>by
  unfold pickOrder.go
  have hi:next k % left.length < left.length:=Nat.mod_lt _ (by lia)
  rw [List.getElem?_eq_getElem hi]
  dsimp only
  refine (pick_perm next fuel (k+1) _ _ (by rw [List.length_eraseIdx,if_pos hi,h]; rfl)).trans ?_
  rw [Array.toList_push,List.append_assoc]
  exact List.Perm.append_left _ (erase_perm (List.getElem?_eq_getElem hi))
theorem walk_T (S:SetAt knd s.heap a o es ep t ks) {Q:Array (Int × Value)→Shared→Prop} (h:∀ l dr,l.toList.Perm es.toList→Q l { s with drawn:=dr }):wpAny (model prog w) A (setWalk a) Q E s:=by
 unfold setWalk
 refine wpAny_bind (wpAny_setState_of S.ho S.hd S.fits ?_)
 dsimp only
 unfold setsByText
 refine wpAny_bind (wpAny_bind (wpAny_askSetting (wpAny_pure ?_)))
 split
 ·refine wpAny_bind (wpAny_askSetting (wpAny_pure ?_))
  refine h _ s.drawn ?_
  unfold pickOrder
  have:=pick_perm ((model prog w).w.params.setOrder a ep) es.size 0 es.toList #[] (by simp)
  simpa using this
 ·split
  ·refine wpAny_bind (draw_perm _ _ _ _ (by simp) fun l dr hp=>wpAny_pure (h _ dr ?_))
   exact hp
  ·rename_i nd
   have nd:¬ ((!t.plain && decide (es.size > 1))=true):=nd
   have few:es.size≤1:=by
    rcases Nat.lt_or_ge 1 es.size with z | z
    ·exfalso
     have pt:t.plain=true:=by
      cases e:t.plain with
      | true=>rfl
      | false=>exact absurd (by rw [e,decide_eq_true z]; rfl) nd
     have sz:=S.size
     have k0:=S.pl pt ks[0] (List.getElem_mem (by lia))
     have k1:=S.pl pt ks[1] (List.getElem_mem (by lia))
     have N:=List.pairwise_iff_getElem.mp S.nd
     have:=N 0 1 (by rw [List.length_map]; lia) (by rw [List.length_map]; lia) (by decide)
     rw [List.getElem_map,List.getElem_map,k0,k1] at this
     exact this rfl
    ·exact z
   refine wpAny_bind (show wpAny (model prog w) A (if (!t.led && decide (es.size > 1))=true then _ else Pure.pure ()) _ E s from ?_)
   rw [if_neg (by rw [decide_eq_false (by lia),Bool.and_false]; decide)]
   exact wpAny_pure (wpAny_pure (h es s.drawn (List.Perm.refl _)))
end
end PySem
namespace PySem
open SetTable
section
variable {prog:Program} {w:World} {K:Type} [DecidableEq K] {knd:KeyKind prog w K} {A:Around} {E:Value→Shared→Prop} {s:Shared} {a b d r:Addr}
variable {o oa:Obj} {es ea:Array (Int × Value)} {ep epa:Nat} {t ta:SetTable} {ks ka:List (List K × Addr)}
theorem loud_T (S:SetAt knd s.heap a oa ea epa ta ka) (h1:1 < ea.size) {others:List Addr} {Q:Bool→Shared→Prop} (h:Q false s):wpAny (model prog w) A (setsQuiet (a :: others)) Q E s:=by
 have sz:=S.size
 obtain ⟨p,rest,e⟩:∃ p rest,ka=p :: rest:=by
  cases ka with
  | nil=>rw [sz] at h1; cases h1
  | cons p rest=>exact ⟨p,rest,rfl⟩
 have hk:=S.is p (by rw [e]; exact List.mem_cons_self)
 have hT:=hk.typeIs
 unfold setsQuiet
 refine wpAny_bind ?_
 rw [List.forIn_cons]
 refine wpAny_bind (wpAny_bind (wpAny_setEntries_of S.ho S.hd S.fits ?_))
 refine wpAny_bind ?_
 rw [← Array.forIn_toList,S.es,e,List.map_cons,List.forIn_cons]
 refine wpAny_bind ?_
 dsimp only
 refine wpAny_bind (wpAny_specialOf hT F.slot_tuple_eq.lookup ?_)
 rw [if_pos (by decide)]
 exact wpAny_pure (wpAny_pure (wpAny_pure (wpAny_pure (wpAny_pure h))))
theorem walkU_T (S:SetAt knd s.heap a oa ea epa ta ka) {others:List Addr} {fi:Option Addr} {Q:Array (Int × Value)→Shared→Prop} (h:∀ l dr,l.toList.Perm ea.toList→Q l { s with drawn:=dr }):wpAny (model prog w) A (setWalkUnseen a others fi) Q E s:=by
 unfold setWalkUnseen
 refine wpAny_bind (wpAny_setState_of S.ho S.hd S.fits ?_)
 dsimp only
 unfold setsByText
 refine wpAny_bind (wpAny_bind (wpAny_askSetting (wpAny_pure ?_)))
 split
 ·exact walk_T S h
 ·rename_i c
  have h1:1 < ea.size:=by
   rcases Nat.lt_or_ge 1 ea.size with z | z
   ·exact z
   ·exact absurd (by rw [decide_eq_true z,Bool.or_true]) c
  refine wpAny_bind (loud_T S h1 ?_)
  simp only [Bool.not_false,if_true]
  exact walk_T S h
theorem merge_T (hu:(tupleKind knd).room A) (R:SetAt knd s.heap r o es ep t ks) (r0:ks≠[]) (S:SetAt knd s.heap a oa ea epa ta ka) (ne:a≠r) (hn:ks.length+ka.length≤800) (hstr:∀ p∈ka,∀ y∈p.1,∀ v,knd.is y v=true→∀ n,hashByValue n v=pure false) {each:Sem Unit}
  (he:∀ (s1:Shared) (Q1:Unit→Shared→Prop),SetAt knd s1.heap a oa ea epa ta ka→Q1 () s1→wpAny (model prog w) A each Q1 E s1) {Q:Unit→Shared→Prop}
  (h:∀ h' dr o' es' ep' t' ks',Heap.SameBut r s.heap h'→SetAt knd h' r o' es' ep' t' ks'→(∀ k,k∈ks'.map (·.1)↔k∈ks.map (·.1)∨k∈ka.map (·.1))→(ks'.length≤ks.length+ka.length∧∀ p∈ks',p∈ks∨p∈ka)→t'.led=t.led→Q () { s with heap:=h',drawn:=dr }):wpAny (model prog w) A (setMerge r a each) Q E s:=by
 have sz:=S.size
 unfold setMerge
 rw [if_neg (by simpa using Ne.symm ne)]
 refine wpAny_bind (wpAny_setState_of S.ho S.hd S.fits ?_)
 dsimp only
 split
 ·rename_i em
  have em:ea.size=0:=by simpa [Array.isEmpty] using em
  have ke:ka=[]:=List.length_eq_zero_iff.mp (by lia)
  exact wpAny_pure (h s.heap s.drawn o es ep t ks (Heap.SameBut.refl ..) R (fun k=>by rw [ke]; simp) ⟨by lia,fun p m=>.inl m⟩ rfl)
 ·refine wpAny_bind (wpAny_mono (room_T (Q:=fun _ s1=>∃ h1 o1 es1 ep1 t1 ks1,s1={ s with heap:=h1 }∧Heap.SameBut r s.heap h1∧SetAt knd h1 r o1 es1 ep1 t1 ks1∧ks1.Perm ks∧t1.led=t.led∧5 * ks.length < 3 * t1.mask) R (more:=ea.size) (by lia) (fun lo1=>⟨s.heap,o,es,ep,t,ks,rfl,Heap.SameBut.refl ..,R,List.Perm.refl _,rfl,by lia⟩) fun h1 o1 es1 ep1 t1 ks1 sb R1 pm le lo1=>⟨h1,o1,es1,ep1,t1,ks1,rfl,sb,R1,pm,le,by lia⟩) ?_ fun _ _ z=>z)
  rintro _ s1 ⟨h1,o1,es1,ep1,t1,ks1,rfl,sb,R1,pm,le,lo1⟩
  have S1:SetAt knd h1 a oa ea epa ta ka:=S.but R ne sb
  have T1:=SetAt.tok (s:={ s with heap:=h1 }) R1
  have kl:=pm.length_eq
  have k0:=List.length_pos_iff.mpr r0
  refine wpAny_bind (wpAny_setState_of (s:={ s with heap:=h1 }) R1.ho R1.hd (SetAt.fits (s:={ s with heap:=h1 }) R1) ?_)
  dsimp only
  have fl:t1.fill=ks1.length:=by unfold SetTable.fill; rw [T1.sz,T1.nd]; rfl
  unfold SetTable.road
  rw [fl,if_pos (by simp; intro z; rw [z] at kl; simp at kl; lia)]
  dsimp only
  refine wpAny_bind (walkU_T (s:={ s with heap:=h1 }) S1 fun l dr lp=>?_)
  refine wpAny_bind ?_
  rw [← Array.forIn_toList]
  refine wpAny_forIn_list _ (fun rest _ s'=>∃ don h' dr' o' es' ep' t' ks',l.toList=don++rest∧s'={ s with heap:=h',drawn:=dr' }∧Heap.SameBut r s.heap h'∧SetAt knd h' r o' es' ep' t' ks'∧(∀ k,k∈ks'.map (·.1)↔k∈ks.map (·.1)∨∃ p∈ka,p.1=k∧(tupleKeyHash knd p.1,Value.ref p.2)∈don)∧(ks'.length≤ks.length+don.length∧∀ p∈ks',p∈ks∨p∈ka)∧t'.led=t.led∧5 * ks'.length < 3 * t'.mask) _ ?_ ?_ _ _ ⟨[],h1,dr,o1,es1,ep1,t1,ks1,rfl,rfl,sb,R1,fun k=>by rw [(pm.map (·.1)).mem_iff]; simp,⟨by simp; lia,fun p m=>.inl (pm.mem_iff.mp m)⟩,le,by lia⟩
  ·rintro x rest u s' ⟨don,h',dr',o',es',ep',t',ks',el,rfl,sb',R',iff',⟨len',sub'⟩,le',lo'⟩
   have mx:x∈ea.toList:=lp.mem_iff.mp (by rw [el]; simp)
   rw [S.es] at mx
   obtain ⟨p,mp,rfl⟩:=List.mem_map.mp mx
   have S':SetAt knd h' a oa ea epa ta ka:=S.but R ne sb'
   have hk:=S'.is p mp
   have dl:don.length+rest.length+1=ka.length:=by
    have:=lp.length_eq
    rw [el,S.es,List.length_map,List.length_append,List.length_cons] at this
    lia
   have more:∀ k,(∃ q∈ka,q.1=k∧(tupleKeyHash knd q.1,Value.ref q.2)∈don++[(tupleKeyHash knd p.1,Value.ref p.2)])↔(∃ q∈ka,q.1=k∧(tupleKeyHash knd q.1,Value.ref q.2)∈don)∨k=p.1:=fun k=>by
    constructor
    ·rintro ⟨q,mq,eq,m⟩
     rcases List.mem_append.mp m with m | m
     ·exact .inl ⟨q,mq,eq,m⟩
     ·have:=List.mem_singleton.mp m
      have e2:q.2=p.2:=by
       exact Value.ref.inj (Prod.mk.inj this).2
      have:=S'.is q mq
      rw [e2] at this
      exact .inr (by rw [← eq]; exact (tupleKind knd).inj this hk)
    ·rintro (⟨q,mq,eq,m⟩ | e)
     ·exact ⟨q,mq,eq,List.mem_append_left _ m⟩
     ·exact ⟨p,mp,e.symm,List.mem_append_right _ (List.mem_singleton.mpr rfl)⟩
   have tail:∀ (h2:Heap) (o2:Obj) (es2:Array (Int × Value)) (ep2:Nat) (t2:SetTable) (ks2:List (List K × Addr)),Heap.SameBut r s.heap h2→SetAt knd h2 r o2 es2 ep2 t2 ks2→(∀ k,k∈ks2.map (·.1)↔k∈ks'.map (·.1)∨k=p.1)→(ks2.length≤ks'.length+1∧∀ q∈ks2,q∈ks'∨q=p)→t2.led=t.led→5 * ks2.length < 3 * t2.mask→∃ don h' dr2 o' es' ep' t' ks',l.toList=don++rest∧({ s with heap:=h2,drawn:=dr' }:Shared)={ s with heap:=h',drawn:=dr2 }∧Heap.SameBut r s.heap h'∧SetAt knd h' r o' es' ep' t' ks'∧(∀ k,k∈ks'.map (·.1)↔k∈ks.map (·.1)∨∃ p∈ka,p.1=k∧(tupleKeyHash knd p.1,Value.ref p.2)∈don)∧(ks'.length≤ks.length+don.length∧∀ p∈ks',p∈ks∨p∈ka)∧t'.led=t.led∧5 * ks'.length < 3 * t'.mask:=fun h2 o2 es2 ep2 t2 ks2 sb2 R2 i2 l2 le2 lo2=>⟨don++[(tupleKeyHash knd p.1,Value.ref p.2)],h2,dr',o2,es2,ep2,t2,ks2,by rw [el]; simp,rfl,sb2,R2,fun k=>by rw [i2,iff',more,or_assoc],⟨by rw [List.length_append,List.length_singleton]; lia,fun q m=>(l2.2 q m).elim (sub' q) fun e=>.inr (by rw [e]; exact mp)⟩,le2,lo2⟩
   refine wpAny_bind (wpAny_holding ?_)
   refine add_T (s:={ s with heap:=h',drawn:=dr' }) hu R' lo' (by lia) hk (seen_T hk R'.is) (hbv_T hk (hstr p mp)) (fun mk=>?_) fun nk h2 o2 es2 ep2 t2 ks2 sb2 R2 pm2 le2 lo2=>?_
   ·refine wpAny_bind (he _ _ S' ?_)
    refine wpAny_bind (wpAny_setState_of (s:={ s with heap:=h',drawn:=dr' }) S'.ho S'.hd (SetAt.fits (s:={ s with heap:=h',drawn:=dr' }) S') ?_)
    rw [if_neg (by simp)]
    exact wpAny_pure (tail h' o' es' ep' t' ks' sb' R' (fun k=>⟨.inl,fun z=>z.elim id fun e=>by rw [e]; exact mk⟩) ⟨by lia,fun q m=>.inl m⟩ le' lo')
   ·have S2:SetAt knd h2 a oa ea epa ta ka:=S'.but R' ne sb2
    refine wpAny_bind (he _ _ S2 ?_)
    refine wpAny_bind (wpAny_setState_of (s:={ s with heap:=h2,drawn:=dr' }) S2.ho S2.hd (SetAt.fits (s:={ s with heap:=h2,drawn:=dr' }) S2) ?_)
    rw [if_neg (by simp)]
    exact wpAny_pure (tail h2 o2 es2 ep2 t2 ks2 (sb'.trans sb2) R2 (fun k=>by rw [(pm2.map (·.1)).mem_iff,List.map_append,List.mem_append]; simp) ⟨by rw [pm2.length_eq,List.length_append,List.length_singleton]; exact Nat.le_refl _,fun q m=>by
     rcases List.mem_append.mp (pm2.mem_iff.mp m) with z | z
     ·exact .inl z
     ·exact .inr (List.mem_singleton.mp z)⟩ (le2.trans le') lo2)
  ·rintro u s' ⟨don,h',dr',o',es',ep',t',ks',el,rfl,sb',R',iff',⟨len',sub'⟩,le',lo'⟩
   rw [List.append_nil] at el
   refine wpAny_pure (h h' dr' o' es' ep' t' ks' sb' R' (fun k=>?_) ⟨?_,sub'⟩ le')
   ·rw [iff']
    refine or_congr Iff.rfl ⟨fun ⟨p,mp,ep,_⟩=>List.mem_map.mpr ⟨p,mp,ep⟩,fun m=>?_⟩
    obtain ⟨p,mp,ep⟩:=List.mem_map.mp m
    exact ⟨p,mp,ep,by rw [← el]; exact lp.mem_iff.mpr (by rw [S.es]; exact List.mem_map.mpr ⟨p,mp,rfl⟩)⟩
   ·have:=lp.length_eq
    rw [el,S.es,List.length_map] at this
    lia
end
end PySem
namespace PySem
open SetTable
section
variable {prog:Program} {w:World} {K:Type} [DecidableEq K] {knd:KeyKind prog w K} {A:Around} {E:Value→Shared→Prop} {s:Shared} {a b d r:Addr}
variable {o oa:Obj} {es ea:Array (Int × Value)} {ep epa:Nat} {t ta:SetTable} {ks ka:List (List K × Addr)}
def ledIn (prog:Program) (w:World):Bool:=!((model prog w).w.params.followText "set-order")
def newS (l:Bool):Obj:={ cls:=.type "set",dict:=none,data:=.set #[] 0 (.fresh 0 0 l) }
theorem newSet_L {Q:Value→Shared→Prop} (h:SetAt knd (s.heap.push (newS (ledIn prog w))) s.heap.objs.size (newS (ledIn prog w)) #[] 0 (.fresh 0 0 (ledIn prog w)) []→Q (.ref s.heap.objs.size) { s with heap:=s.heap.push (newS (ledIn prog w)) }):wpAny (model prog w) A (newSet (.type "set")) Q E s:=by
 unfold newSet setsByText
 refine wpAny_bind (wpAny_bind (wpAny_askSetting (wpAny_pure ?_)))
 dsimp only
 simp only [newObj]
 refine wpAny_bind (wpAny_alloc (wpAny_pure (h ⟨Heap.get?_push_size _ rfl,⟨rfl,rfl,rfl⟩,rfl,fresh_ok _,fun _ p mp=>(by cases mp),rfl,fun p mp=>(by cases mp),List.nodup_nil⟩)))
theorem isSet_T {Q:Bool→Shared→Prop} (hT:s.TypeIs (.ref a) "set") (h:Q true s):wpAny (model prog w) A (Builtin.Frozenset.isAnySet (.ref a)) Q E s:=by
 unfold Builtin.Frozenset.isAnySet orM
 refine wpAny_bind (wpAny_isInstance hT sub_set_set ?_)
 exact wpAny_pure h
theorem base_T {Q:Value→Shared→Prop} (hT:s.TypeIs (.ref a) "set") (h:Q (.type "set") s):wpAny (model prog w) A (Builtin.Frozenset.baseOf a) Q E s:=by
 unfold Builtin.Frozenset.baseOf
 refine wpAny_bind (wpAny_isInstance hT sub_set_set ?_)
 exact wpAny_pure h
theorem push_get {h:Heap} {x:Obj} {b:Addr} {o:Obj} (e:h.get? b=some o):(h.push x).get? b=some o:=by
 exact Heap.get?_push_of_some x e
theorem SetAt.push (S:SetAt knd s.heap a o es ep t ks) (x:Obj):SetAt knd (s.heap.push x) a o es ep t ks :=
 ⟨push_get S.ho,S.ex,S.hd,S.ok,S.pl,S.es,fun p mp=>by
  obtain ⟨o2,items,n,g1,g⟩:=S.is p mp
  exact ⟨o2,items,n,push_get g1,g⟩,S.nd⟩
theorem fresh_ne {h:Heap} {b:Addr} {o:Obj} (e:h.get? b=some o):b≠h.objs.size:=Nat.ne_of_lt (Heap.lt_size e)
theorem copyOf_T (S:SetAt knd s.heap a oa ea epa ta ka) (hn:ka.length≤1900) (lo:5 * ka.length < 3 * ta.mask) {Q:Value→Shared→Prop}
  (h:∀ h' o' es' ep' t' ks',Heap.SameBut s.heap.objs.size (s.heap.push (newS (ledIn prog w))) h'→SetAt knd h' s.heap.objs.size o' es' ep' t' ks'→SetAt knd h' a oa ea epa ta ka→ks'.Perm ka→t'.led=(ledIn prog w && ta.led)∨t'.led=ledIn prog w→5 * ks'.length < 3 * t'.mask→Q (.ref s.heap.objs.size) { s with heap:=h' }):wpAny (model prog w) A (Builtin.Frozenset.copyOf a) Q E s:=by
 unfold Builtin.Frozenset.copyOf
 refine wpAny_bind (base_T S.typeIs ?_)
 refine wpAny_bind (newSet_L (knd:=knd) fun N=>?_)
 refine wpAny_bind (wpAny_pure ?_)
 have S1:=S.push (newS (ledIn prog w))
 have ne:=fresh_ne S.ho
 refine wpAny_bind (copy_T (s:={ s with heap:=s.heap.push (newS (ledIn prog w)) }) N S1 ne hn lo (fun e=>wpAny_pure ?_) fun h' o' es' ep' t' ks' sb R pm le lo'=>wpAny_pure ?_)
 ·exact h _ _ _ _ _ [] (Heap.SameBut.refl ..) N S1 (by rw [e]) (.inr rfl) (by show 5 * 0 < 3 * 7; decide)
 ·exact h h' o' es' ep' t' ks' sb R (S1.but N ne sb) pm (.inl le) lo'
end
end PySem
namespace PySem
open SetTable
section
variable {prog:Program} {w:World} {K:Type} [DecidableEq K] {knd:KeyKind prog w K} {A:Around} {E:Value→Shared→Prop} {s:Shared} {a b d r:Addr}
variable {o oa ob:Obj} {es ea eb:Array (Int × Value)} {ep epa epb:Nat} {t ta tb:SetTable} {ks ka kb:List (List K × Addr)}
theorem SetAt.ext {x:Obj} {h':Heap} (S:SetAt knd s.heap a o es ep t ks) (sb:Heap.SameBut s.heap.objs.size (s.heap.push x) h'):SetAt knd h' a o es ep t ks :=
 ⟨(sb.2 a (fresh_ne S.ho)).trans (push_get S.ho),S.ex,S.hd,S.ok,S.pl,S.es,fun p mp=>by
  obtain ⟨o2,items,n,g1,g⟩:=S.is p mp
  exact ⟨o2,items,n,(sb.2 _ (fresh_ne g1)).trans (push_get g1),g⟩,S.nd⟩
theorem or_T (hu:(tupleKind knd).room A) (Sa:SetAt knd s.heap a oa ea epa ta ka) (Sb:SetAt knd s.heap b ob eb epb tb kb) (ab:a≠b) (lo:5 * ka.length < 3 * ta.mask) (lob:5 * kb.length < 3 * tb.mask) (la:ta.led=ledIn prog w) (lb:tb.led=ledIn prog w) (hn:ka.length+kb.length≤800) (hstr:∀ p∈kb,∀ y∈p.1,∀ v,knd.is y v=true→∀ n,hashByValue n v=pure false) {Q:Fin→Shared→Prop}
  (h:∀ h' dr o' es' ep' t' ks',Heap.SameBut s.heap.objs.size (s.heap.push (newS (ledIn prog w))) h'→SetAt knd h' s.heap.objs.size o' es' ep' t' ks'→(∀ k,k∈ks'.map (·.1)↔k∈ka.map (·.1)∨k∈kb.map (·.1))→(ks'.length≤ka.length+kb.length∧∀ p∈ks',p∈ka∨p∈kb)→t'.led=ledIn prog w→wpAny (model prog w) A (ret (.ref s.heap.objs.size)) Q E { s with heap:=h',drawn:=dr }):wpAny (model prog w) A (Builtin.«frozenset.__or__» ⟨[.ref a,.ref b],[]⟩) Q E s:=by
 refine wpAny_bind (wpAny_bind (wpAny_pure (wpAny_pure ?_)))
 dsimp only
 refine wpAny_bind ?_
 unfold andM
 refine wpAny_bind (isSet_T Sa.typeIs ?_)
 refine (isSet_T Sb.typeIs ?_)
 simp only [Bool.not_true,Bool.false_eq_true,if_false]
 refine wpAny_bind (wpAny_pure ?_)
 refine wpAny_bind ?_
 refine wpAny_bind (copyOf_T Sa (by lia) lo fun h' o' es' ep' t' ks' sb R Sa' pm le lo'=>?_)
 dsimp only
 rw [if_pos (by simpa using Ne.symm ab)]
 refine wpAny_bind (wpAny_pure ?_)
 have Sb':SetAt knd h' b ob eb epb tb kb:=Sb.ext sb
 have br:b≠s.heap.objs.size:=fresh_ne Sb.ho
 have kl:=pm.length_eq
 have le':t'.led=ledIn prog w:=by
  rcases le with z | z
  ·rw [z,la,Bool.and_self]
  ·exact z
 have same:∀ (s1:Shared) (Q1:Unit→Shared→Prop) (id:String),SetAt knd s1.heap b ob eb epb tb kb→Q1 () s1→wpAny (model prog w) A (Builtin.Frozenset.unchanged id b epb) Q1 E s1:=fun s1 Q1 id S1 q=>by
  unfold Builtin.Frozenset.unchanged
  refine wpAny_bind (wpAny_setEpoch_of S1.ho S1.hd S1.fits ?_)
  rw [if_neg (by simp)]
  exact wpAny_pure q
 refine wpAny_bind (wpAny_holding ?_)
 unfold Builtin.Frozenset.updateFrom
 refine wpAny_bind (isSet_T (s:={ s with heap:=h' }) (SetAt.typeIs (s:={ s with heap:=h' }) Sb') ?_)
 simp only [if_true]
 refine wpAny_bind (wpAny_pure ?_)
 unfold Builtin.Frozenset.merge
 refine wpAny_bind (wpAny_setEpoch_of (s:={ s with heap:=h' }) Sb'.ho Sb'.hd (SetAt.fits (s:={ s with heap:=h' }) Sb') ?_)
 by_cases e0:ks'=[]
 ·subst e0
  have ka0:ka=[]:=List.length_eq_zero_iff.mp kl.symm
  refine copy_T (s:={ s with heap:=h' }) R Sb' br (by lia) lob (fun z=>wpAny_pure ?_) fun h2 o2 es2 ep2 t2 ks2 sb2 R2 pm2 le2 lo2=>wpAny_pure ?_
  ·exact h h' s.drawn o' es' ep' t' [] sb R (fun k=>by rw [ka0,z]; simp) ⟨by simp,fun p m=>(by cases m)⟩ le'
  ·exact h h2 s.drawn o2 es2 ep2 t2 ks2 (sb.trans sb2) R2 (fun k=>by rw [(pm2.map (·.1)).mem_iff,ka0]; simp) ⟨by rw [pm2.length_eq]; lia,fun p m=>.inr (pm2.mem_iff.mp m)⟩ (by rw [le2,le',lb,Bool.and_self])
 ·refine merge_T (s:={ s with heap:=h' }) hu R e0 Sb' br (by lia) hstr (fun s1 Q1 S1 q=>same s1 Q1 _ S1 q) fun h2 dr2 o2 es2 ep2 t2 ks2 sb2 R2 iff2 len2 le2=>wpAny_pure ?_
  exact h h2 dr2 o2 es2 ep2 t2 ks2 (sb.trans sb2) R2 (fun k=>by rw [iff2,(pm.map (·.1)).mem_iff]) ⟨by lia,fun p m=>(len2.2 p m).imp pm.mem_iff.mp id⟩ (le2.trans le')
end
end PySem
namespace PySem
open SetTable
section
variable {prog:Program} {w:World} {K:Type} [DecidableEq K] {knd:KeyKind prog w K} {A:Around} {E:Value→Shared→Prop} {s:Shared} {a b d r:Addr}
variable {o:Obj} {es:Array (Int × Value)} {ep:Nat} {t:SetTable} {xs:List (List K × Addr × Value)}
theorem nameCut_T {n:Nat} {Q:String→Shared→Prop} (hT:s.TypeIs (.ref a) "set") (h:∀ z,Q z s):wpAny (model prog w) A (typeNameOfCut n (.ref a)) Q E s:=by
 unfold typeNameOfCut shownTypeOf
 refine wpAny_bind (wpAny_bind (wpAny_typeOf hT ?_))
 simp only [show (Value.type "set" == Value.type "builtin_function_or_method")=false by decide,Bool.false_eq_true,if_false]
 refine wpAny_pure ?_
 rw [show typeNameCut n (.type "set")=typeName (.type "set") from rfl]
 unfold typeName
 exact wpAny_pure (h _)
theorem init_T (hu:(tupleKind knd).room A) (S:SetAt knd s.heap a o es ep t []) (D:s.heap.DictOfH (tupleKind knd) d xs) (nd:(d == sysModules)=false) (hx:xs.length≤800) (hstr:∀ x∈xs,∀ y∈x.1,∀ v,knd.is y v=true→∀ n,hashByValue n v=pure false) {Q:Fin→Shared→Prop}
  (h:∀ h' o' es' ep' t' ks',Heap.SameBut a s.heap h'→SetAt knd h' a o' es' ep' t' ks'→ks'.Perm (xs.map fun x=>(x.1,x.2.1))→t'.led=t.led→5 * ks'.length < 3 * t'.mask→wpAny (model prog w) A (ret .none) Q E { s with heap:=h' }):wpAny (model prog w) A (Builtin.«set.__init__» ⟨[.ref a,.ref d],[]⟩) Q E s:=by
 have T:=S.tok
 have fl:t.fill=0:=by unfold SetTable.fill; rw [T.sz,T.nd]; rfl
 unfold Builtin.«set.__init__»
 refine wpAny_bind (show wpAny (model prog w) A (noKeywords "set" ⟨[.ref a,.ref d],[]⟩) _ E s from wpAny_pure ?_)
 dsimp only
 refine wpAny_bind ?_
 refine nameCut_T S.typeIs fun z=>?_
 refine wpAny_bind (show wpAny (model prog w) A (checkCount z 0 1 1) _ E s from wpAny_pure ?_)
 refine wpAny_bind (wpAny_pure ?_)
 unfold setUsed
 refine wpAny_bind (wpAny_bind (wpAny_setState_of S.ho S.hd S.fits (wpAny_pure ?_)))
 dsimp only
 rw [fl]
 simp only [bne_self_eq_false,Bool.false_eq_true,if_false]
 exact wpAny_bind (fill_T "set.__init__" hu S D nd hx hstr fun h' o' es' ep' t' ks' sb S' pm le lo=>h h' o' es' ep' t' ks' sb S' pm le lo)
end
end PySem
namespace PySem
open SetTable
section
variable {prog:Program} {w:World} {K:Type} [DecidableEq K] {knd:KeyKind prog w K} {A:Around} {E:Value→Shared→Prop} {s:Shared} {a b d r:Addr} {xs:List (List K × Addr × Value)}
theorem code_set_newL (a:Value) {Q₁:Value→Shared→Prop} (h:Q₁ (.ref s.heap.objs.size) { s with heap:=s.heap.push (newS (ledIn prog w)) }) :
  codeAny (model prog w) A (.call (.builtin "set.__new__") ⟨[.type "set",a],[]⟩) (wants Q₁ E) s:=by
 refine codeAny_of_tree ?_
 show wpAny _ A.in1 (do checkBuiltinCall "set.__new__" ⟨[.type "set",a],[]⟩; again (.builtin "set.__new__" ⟨[.type "set",a],[]⟩)) _ _ s
 refine wpAny_bind (wpAny_of_eq (F.newCall_set_1 a) (wpAny_pure ⟨plainId_quiet F.plain_set_new _,codeAny_builtin F.entry_set_new ?_⟩))
 rw [Around.under_plainId F.plain_set_new _]
 unfold Builtin.«set.__new__» Builtin.Frozenset.newClass
 have hsub:=sub_set_self
 obtain ⟨hp,g,d,tk,os⟩:=s
 dsimp only
 wp_walk
 refine wpAny_askSetting (wpAny_pure ?_)
 dsimp only
 simp only [newObj]
 refine wpAny_bind (wpAny_alloc (wpAny_pure ?_))
 exact wpAny_pure h
set_option maxRecDepth 100000 in
set_option maxHeartbeats 3200000 in
theorem call_set_T (hu:A.units+60 < cLine) (D:s.heap.DictOfH (tupleKind knd) d xs) (nd:(d == sysModules)=false) (hx:xs.length≤800) (hstr:∀ x∈xs,∀ y∈x.1,∀ v,knd.is y v=true→∀ n,hashByValue n v=pure false) {Q:Value→Shared→Prop}
  (h:∀ h' o' es' ep' t' ks',Heap.SameBut s.heap.objs.size (s.heap.push (newS (ledIn prog w))) h'→SetAt knd h' s.heap.objs.size o' es' ep' t' ks'→ks'.Perm (xs.map fun x=>(x.1,x.2.1))→t'.led=ledIn prog w→5 * ks'.length < 3 * t'.mask→Q (.ref s.heap.objs.size) { s with heap:=h' }):wpAny (model prog w) A (call (.type "set") [.ref d]) Q E s:=by
 obtain ⟨c,tl,hmro⟩:=F.called_set.mro
 have hmade:=F.called_set.made
 have hsub:=F.called_set.sub
 refine wpAny_call (codeAny_of_tree ?_)
 show wpAny _ _ (callAny (.type "set") _) _ _ _
 refine wpAny_pure ⟨Code.quiet_builtin _ (by decide +kernel),codeAny_builtin F.entry_type_call ?_⟩
 rw [Around.under_plain (weight_type_call_type "set" [.ref d] []) rfl]
 have h1:=F.called_set.notType
 have h2:=F.called_set.canCreate
 have hct:=F.typeCall_set_1 (.ref d)
 repeat (any_goals (first | assumption | wp_step))
 refine codeAny_mono (code_set_newL (.ref d) (E:=E) (Q₁:=fun obj s₁=>∃ led:Bool,led=ledIn prog w∧obj=.ref s.heap.objs.size∧s₁={ s with heap:=s.heap.push (newS led) }) ⟨_,rfl,rfl,rfl⟩) fun r s₁ hr=>?_
 cases r with
 | error e=>exact hr
 | ok fl =>
  cases fl with
  | ret obj =>
   obtain ⟨led,hled,rfl,rfl⟩:=hr
   have hS:(s.heap.push (newS led)).get? s.heap.objs.size=some (newS led):=Heap.get?_push_size _ rfl
   have hT:Shared.TypeIs { s with heap:=s.heap.push (newS led) } (.ref s.heap.objs.size) "set" := ⟨_,hS,rfl⟩
   have hli:=F.called_set.init.lookup
   have hbi:=F.called_set.init.bind (.ref s.heap.objs.size)
   repeat (any_goals (first | assumption | wp_step))
   refine codeAny_mono (codeAny_call_builtin (R:=wants (fun r s₂=>r=.none∧∃ h' o' es' ep' t' ks',s₂={ s with heap:=h' }∧Heap.SameBut s.heap.objs.size (s.heap.push (newS led)) h'∧SetAt knd h' s.heap.objs.size o' es' ep' t' ks'∧ks'.Perm (xs.map fun x=>(x.1,x.2.1))∧t'.led=led∧5 * ks'.length < 3 * t'.mask) E) F.called_set.init.plain F.entry_set_init (check_set_init_1 hT ?_)) fun r₂ s₂ hr₂=>?_
   ·have N:SetAt knd (s.heap.push (newS led)) s.heap.objs.size (newS led) #[] 0 (.fresh 0 0 led) []:=⟨hS,⟨rfl,rfl,rfl⟩,rfl,fresh_ok _,fun _ p mp=>(by cases mp),rfl,fun p mp=>(by cases mp),List.nodup_nil⟩
    have D':(s.heap.push (newS led)).DictOfH (tupleKind knd) d xs:=by
     obtain ⟨od,ed,epd,d1,d2,d3,d4,d5,d6⟩:=D
     refine ⟨od,ed,epd,push_get d1,d2,d3,d4,fun x mx=>?_,d6⟩
     obtain ⟨o2,items,n,g1,g⟩:=d5 x mx
     exact ⟨o2,items,n,push_get g1,g⟩
    exact init_T (s:={ s with heap:=s.heap.push (newS led) }) (show A.in1.in1.units < cLine by simp only [Around.in1]; lia) N D' nd hx hstr fun h' o' es' ep' t' ks' sb S' pm le lo=>wpAny_pure ⟨rfl,h',o',es',ep',t',ks',rfl,sb,S',pm,le,lo⟩
   ·cases r₂ with
    | error e=>exact hr₂
    | ok fl₂ =>
     cases fl₂ with
     | ret r =>
      obtain ⟨rfl,h',o',es',ep',t',ks',rfl,sb,S',pm,le,lo⟩:=hr₂
      repeat (any_goals (first | assumption | wp_step))
      subst hled
      exact h h' o' es' ep' t' ks' sb S' pm le lo
     | _=>exact hr₂.elim
  | _=>exact hr.elim
end
end PySem
namespace PySem
open SetTable
theorem fills_set_or:fillsNumberSlot (.type "set") "or" = pure true:=by kernel_rfl
theorem entry_set_or:entryFor table "set.__or__" = some Builtin.«frozenset.__or__»:=entryFor_alias (id':="frozenset.__or__") (by kernel_rfl) rfl (by decide +kernel) (by kernel_rfl)
section
variable {prog:Program} {w:World} {K:Type} [DecidableEq K] {knd:KeyKind prog w K} {A:Around} {E:Value→Shared→Prop} {s:Shared} {a b d r:Addr}
variable {o oa ob:Obj} {es ea eb:Array (Int × Value)} {ep epa epb:Nat} {t ta tb:SetTable} {ks ka kb:List (List K × Addr)}
theorem bitor_T (hu:A.units+60 < cLine) (Sa:SetAt knd s.heap a oa ea epa ta ka) (Sb:SetAt knd s.heap b ob eb epb tb kb) (ab:a≠b) (lo:5 * ka.length < 3 * ta.mask) (lob:5 * kb.length < 3 * tb.mask) (la:ta.led=ledIn prog w) (lb:tb.led=ledIn prog w) (hn:ka.length+kb.length≤800) (hstr:∀ p∈kb,∀ y∈p.1,∀ v,knd.is y v=true→∀ n,hashByValue n v=pure false) {Q:Value→Shared→Prop}
  (h:∀ h' dr o' es' ep' t' ks',Heap.SameBut s.heap.objs.size (s.heap.push (newS (ledIn prog w))) h'→SetAt knd h' s.heap.objs.size o' es' ep' t' ks'→(∀ k,k∈ks'.map (·.1)↔k∈ka.map (·.1)∨k∈kb.map (·.1))→(ks'.length≤ka.length+kb.length∧∀ p∈ks',p∈ka∨p∈kb)→t'.led=ledIn prog w→Q (.ref s.heap.objs.size) { s with heap:=h',drawn:=dr }):wpAny (model prog w) A (binaryOp .BitOr (.ref a) (.ref b)) Q E s:=by
 refine wpAny_binaryOp_same Sa.typeIs Sb.typeIs fills_set_or F.slot_set_or (wpAny_call_entry F.slot_set_or Sa.typeIs entry_set_or ?_ (F.args_set_or_2 _ _))
 refine or_T (show A.in1.units < cLine by simp only [Around.in1]; lia) Sa Sb ab lo lob la lb hn hstr fun h' dr o' es' ep' t' ks' sb S' iff' len' le'=>?_
 exact wpAny_pure ⟨_,rfl,fun z=>(by cases z),h h' dr o' es' ep' t' ks' sb S' iff' len' le'⟩
end
end PySem
namespace PySem
open SetTable Sem
theorem slot_seti_next:Slot "set_iterator" "__next__" "set_iterator.__next__" :=
 .of (owner:="set_iterator") (n:="__next__") (by rw [typeLookup_type,builtinLookup_eq_fast]; kernel_rfl) (by decide +kernel) (by decide +kernel) (by decide +kernel)
  (by first | exact .inl (by decide +kernel) | exact .inr (by decide +kernel)) (by rw [isSubtype_type]; kernel_rfl)
theorem entry_seti_next:entryFor table "set_iterator.__next__" = some Builtin.«set_iterator.__next__»:=entryFor_of_tree (by kernel_rfl)
theorem args_seti_next (a:Value):argsOk "set_iterator.__next__" ⟨[a],[]⟩:=by
 unfold argsOk; kernel_rfl
theorem slot_seti_iter:Slot "set_iterator" "__iter__" "set_iterator.__iter__" :=
 .of (owner:="set_iterator") (n:="__iter__") (by rw [typeLookup_type,builtinLookup_eq_fast]; kernel_rfl) (by decide +kernel) (by decide +kernel) (by decide +kernel)
  (by first | exact .inl (by decide +kernel) | exact .inr (by decide +kernel)) (by rw [isSubtype_type]; kernel_rfl)
theorem entry_seti_iter:entryFor table "set_iterator.__iter__" = some Builtin.«dict_keyiterator.__iter__»:=entryFor_alias (id':="dict_keyiterator.__iter__") (by kernel_rfl) rfl (by decide +kernel) (by kernel_rfl)
theorem args_seti_iter (a:Value):argsOk "set_iterator.__iter__" ⟨[a],[]⟩:=by
 unfold argsOk; kernel_rfl
theorem entry_set_iter':entryFor table "set.__iter__" = some Builtin.«frozenset.__iter__»:=entryFor_alias (id':="frozenset.__iter__") (by kernel_rfl) rfl (by decide +kernel) (by kernel_rfl)
def RawS (h:Heap) (a:Addr) (es:Array (Int × Value)) (ep:Nat) (t:SetTable):Prop:=∃ o,h.get? a=some o∧o.data=.set es ep t∧t.fits es.size=true
def SetIt (h:Heap) (I:Addr) (fst:Value) (i:Nat) (a:Addr) (n ep:Nat):Prop:=∃ o,h.get? I=some o∧o.cls=.type "set_iterator" ∧ o.data=.fields #[fst,.int i 0,.ref a,.int n 0,.int ep 0]
section
variable {prog:Program} {w:World} {A:Around} {E:Value→Shared→Prop} {s:Shared} {a b d r I T:Addr}
variable {o:Obj} {es:Array (Int × Value)} {ep i n:Nat} {t:SetTable} {fst:Value}
theorem RawS.keep {h h':Heap} (x:RawS h a es ep t) (k:∀ o,h.get? a=some o→h'.get? a=some o):RawS h' a es ep t:=let ⟨o,h1,r⟩:=x; ⟨o,k o h1,r⟩
theorem SetIt.keep {h h':Heap} (x:SetIt h I fst i a n ep) (k:∀ o,h.get? I=some o→h'.get? I=some o):SetIt h' I fst i a n ep:=let ⟨o,h1,r⟩:=x; ⟨o,k o h1,r⟩
theorem SetIt.typeIs (x:SetIt s.heap I fst i a n ep):s.TypeIs (.ref I) "set_iterator" := let ⟨o,h1,h2,_⟩:=x; ⟨o,h1,h2⟩
theorem seti_self {Q:Value→Shared→Prop} (x:SetIt s.heap I fst i a n ep) (h:Q (.ref I) s):wpAny (model prog w) A (pyIter (.ref I)) Q E s:=by
 refine wpAny_pyIter_slot x.typeIs slot_seti_iter (wpAny_call_entry slot_seti_iter x.typeIs entry_seti_iter ?_ (args_seti_iter _))
 show wpAny _ _ (ret (.ref I)) _ _ s
 exact wpAny_pure ⟨_,rfl,"set_iterator",_,x.typeIs,slot_seti_next.lookup,h⟩
section
variable {Q:Option Value→Shared→Prop}
theorem seti_item {f f':Nat} {v:Value} (x:SetIt s.heap I (rawInt f) i a es.size ep) (S:RawS s.heap a es ep t)
  (nx:∀ (A:Around) (Q:Option (Value × Nat)→Shared→Prop) (E:Value→Shared→Prop),Q (some (v,f')) s→wpAny (model prog w) A (setNext a f i ep) Q E s)
  (fin:∀ h',SetIt h' I (rawInt f') (i+1) a es.size ep→Heap.SameBut I s.heap h'→Q (some v) { s with heap:=h' }):wpAny (model prog w) A (pyNext (.ref I)) Q E s:=by
 have T:=x.typeIs
 obtain ⟨oi,g1,g2,g3⟩:=x
 obtain ⟨o,h1,h2,h3⟩:=S
 unfold pyNext
 refine wpAny_bind (wpAny_attempt (wpAny_callSpecial?_slot (name:=Str.ofString "__next__") T slot_seti_next (wpAny_call_entry slot_seti_next T entry_seti_next (wpAny_bind (wpAny_pure (wpAny_bind (wpAny_fieldsOf g1 g3 ?_)))) (args_seti_next _))))
 dsimp only [rawInt]
 unfold setEntries
 refine wpAny_bind (wpAny_bind (wpAny_setState_of h1 h2 h3 (wpAny_pure ?_)))
 dsimp only
 rw [if_neg (by simp)]
 simp only [Int.toNat_natCast]
 refine wpAny_bind (nx _ _ _ ?_)
 dsimp only
 refine wpAny_bind (wpAny_setField g1 g3 (by simp) ?_)
 have g1':=Heap.get?_update_self (Obj.mapFields (·.setIfInBounds 0 (rawInt f'))) g1 (Obj.isFreed_of_fields (Obj.data_mapFields g3 _))
 have g3':=Obj.data_mapFields g3 (·.setIfInBounds 0 (rawInt f'))
 refine wpAny_bind (wpAny_setField g1' g3' (by simp) ?_)
 refine wpAny_pure ⟨_,rfl,wpAny_pure (fin _ ⟨_,Heap.get?_update_self _ g1' (Obj.isFreed_of_fields (Obj.data_mapFields g3' _)),?_,?_⟩ ?_)⟩
 ·rw [Obj.cls_mapFields,Obj.cls_mapFields]
  exact g2
 ·rw [Obj.data_mapFields g3']
  simp [rawInt]
 ·exact (Heap.SameBut.update ..).trans (Heap.SameBut.update ..)
theorem seti_end {f:Nat} (hh:A.handled=none) (x:SetIt s.heap I (rawInt f) i a es.size ep) (S:RawS s.heap a es ep t)
  (nx:∀ (A:Around) (Q:Option (Value × Nat)→Shared→Prop) (E:Value→Shared→Prop),Q none s→wpAny (model prog w) A (setNext a f i ep) Q E s)
  (fin:∀ h',Heap.ExtBut I s.heap h'→Q none { s with heap:=h' }):wpAny (model prog w) A (pyNext (.ref I)) Q E s:=by
 have T:=x.typeIs
 obtain ⟨oi,g1,g2,g3⟩:=x
 obtain ⟨o,h1,h2,h3⟩:=S
 unfold pyNext
 refine wpAny_bind (wpAny_attempt (wpAny_callSpecial?_slot (name:=Str.ofString "__next__") T slot_seti_next (wpAny_call_entry slot_seti_next T entry_seti_next (wpAny_bind (wpAny_pure (wpAny_bind (wpAny_fieldsOf g1 g3 ?_)))) (args_seti_next _))))
 dsimp only [rawInt]
 unfold setEntries
 refine wpAny_bind (wpAny_bind (wpAny_setState_of h1 h2 h3 (wpAny_pure ?_)))
 dsimp only
 rw [if_neg (by simp)]
 simp only [Int.toNat_natCast]
 refine wpAny_bind (nx _ _ _ ?_)
 dsimp only
 refine wpAny_bind (wpAny_setField g1 g3 (by simp) ?_)
 show wpAny _ _ (newExc (.type "StopIteration") [] >>= fun _=>_) _ _ _
 refine wpAny_bind ?_
 simp only [newExc,newTuple]
 refine wpAny_bind (wpAny_newObj_type (wpAny_bind (m:=firstArgMember _ _) (wpAny_of_eq (a:=Value.none) (by first | rfl | (simp only [firstArgMember]; rfl)) (wpAny_newObj_type ?_ (by size_fits)))) (by size_fits))
 simp only [raiseNew]
 refine (wpAny_bind (wpAny_handled ?_))
 rw [(show A.in1.handled=none from hh)]
 refine (wpAny_bind (wpAny_pure (wpAny_throw ?_)))
 exact wpAny_bind (wpAny_isInstance (T:="StopIteration") (b:=true) ⟨_,Heap.get?_push_size _ rfl,rfl⟩ isSubtype_stop (wpAny_pure (fin _ (((Heap.SameBut.update ..).extBut.push _).push _))))
theorem walks_slot (hh:A.handled=none) (I a:Addr) (ne:a≠I) (es:Array (Int × Value)) (ep:Nat) (t:SetTable) (f:Nat→Nat) (l:List Value) (hl:l.length=es.size)
  (nx:∀ (i:Nat) (v:Value),l[i]?=some v→∀ (s:Shared) (A:Around) (Q:Option (Value × Nat)→Shared→Prop) (E:Value→Shared→Prop),RawS s.heap a es ep t→Q (some (v,f (i+1))) s→wpAny (model prog w) A (setNext a (f i) i ep) Q E s)
  (nd:∀ (s:Shared) (A:Around) (Q:Option (Value × Nat)→Shared→Prop) (E:Value→Shared→Prop),RawS s.heap a es ep t→Q none s→wpAny (model prog w) A (setNext a (f es.size) es.size ep) Q E s) :
  Walks prog w A I [I,a] [I] es.size (fun i v=>l[i]?=some v) (fun i h=>SetIt h I (rawInt (f i)) i a es.size ep∧RawS h a es ep t) where
 sub:=fun b hb=>by
  cases List.mem_singleton.mp hb
  exact List.mem_cons_self ..
 frame:=fun _ _ _ st k=>⟨st.1.keep fun o e=>k I (List.mem_cons_self ..) o e,st.2.keep fun o e=>k a (by simp) o e⟩
 item:=fun i s Q E lt st fin=>by
  have e:l[i]?=some l[i]:=List.getElem?_eq_getElem (by lia)
  exact seti_item (es:=es) st.1 st.2 (fun A Q E q=>nx i _ e s A Q E st.2 q) fun h' K' sb=>fin _ h' s.toks e ⟨K',st.2.keep fun o z=>sb.extBut a o ne z⟩ fun b o nb z=>sb.extBut b o (fun y=>nb (by simp [y])) z
 done:=fun s Q E st fin=>seti_end (es:=es) hh st.1 st.2 (fun A Q E q=>nd s A Q E st.2 q) fun h' x=>fin h' s.toks fun b o nb z=>x b o (fun y=>nb (by simp [y])) z
 self:=fun _ _ _ _ st q=>seti_self st.1 q
end
end
end PySem
namespace PySem
open SetTable Sem
def SeqAt0 (h:Heap) (T:Addr) (vs:List Value):Prop:=∃ o n,h.get? T=some o∧o.data=.seq vs.toArray n
section
variable {prog:Program} {w:World} {A:Around} {E:Value→Shared→Prop} {s:Shared} {a b d r I T:Addr}
variable {o:Obj} {es:Array (Int × Value)} {ep i n:Nat} {t:SetTable} {fst:Value} {ps:List Nat} {Q:Option Value→Shared→Prop}
theorem SeqAt0.keep {h h':Heap} {vs:List Value} (x:SeqAt0 h T vs) (k:∀ o,h.get? T=some o→h'.get? T=some o):SeqAt0 h' T vs:=let ⟨o,n,h1,r⟩:=x; ⟨o,n,k o h1,r⟩
def placesV (ps:List Nat):List Value:=ps.map fun (i:Nat)=>rawInt i
theorem seti_itemD {j:Nat} {v:Value} (x:SetIt s.heap I (.ref T) i a es.size ep) (S:RawS s.heap a es ep t) (P:SeqAt0 s.heap T (placesV ps)) (hj:ps[i]?=some j) (hv:es[j]?.map (·.2)=some v)
  (fin:∀ h',SetIt h' I (.ref T) (i+1) a es.size ep→Heap.SameBut I s.heap h'→Q (some v) { s with heap:=h' }):wpAny (model prog w) A (pyNext (.ref I)) Q E s:=by
 have TT:=x.typeIs
 obtain ⟨oi,g1,g2,g3⟩:=x
 obtain ⟨o,h1,h2,h3⟩:=S
 obtain ⟨ot,nt,t1,t2⟩:=P
 unfold pyNext
 refine wpAny_bind (wpAny_attempt (wpAny_callSpecial?_slot (name:=Str.ofString "__next__") TT slot_seti_next (wpAny_call_entry slot_seti_next TT entry_seti_next (wpAny_bind (wpAny_pure (wpAny_bind (wpAny_fieldsOf g1 g3 ?_)))) (args_seti_next _))))
 dsimp only [rawInt]
 unfold setEntries
 refine wpAny_bind (wpAny_bind (wpAny_setState_of h1 h2 h3 (wpAny_pure ?_)))
 dsimp only
 rw [if_neg (by simp)]
 simp only [Int.toNat_natCast]
 unfold seqItems?
 refine wpAny_bind (wpAny_bind (wpAny_load t1 ?_))
 rw [t2]
 refine wpAny_pure ?_
 dsimp only
 have ep':(placesV ps).toArray[i]?=some (rawInt j):=by
  rw [List.getElem?_toArray]
  unfold placesV
  rw [List.getElem?_map,hj]
  rfl
 rw [ep']
 dsimp only [rawInt]
 simp only [Int.toNat_natCast]
 unfold setNextDrawn
 refine wpAny_bind (wpAny_bind (wpAny_setState_of h1 h2 h3 ?_))
 dsimp only
 rw [if_neg (by simp)]
 obtain ⟨p,e1,e2⟩:=Option.map_eq_some_iff.mp hv
 refine wpAny_bind (wpAny_pure ?_)
 rw [e1]
 dsimp only
 refine wpAny_pure ?_
 refine wpAny_bind (wpAny_setField g1 g3 (by simp) ?_)
 rw [e2]
 refine wpAny_pure ⟨_,rfl,wpAny_pure (fin _ ⟨_,Heap.get?_update_self _ g1 (Obj.isFreed_of_fields (Obj.data_mapFields g3 _)),?_,?_⟩ ?_)⟩
 ·rw [Obj.cls_mapFields]
  exact g2
 ·rw [Obj.data_mapFields g3]
  simp [rawInt]
 ·exact (Heap.SameBut.update ..)
theorem seti_endD (hh:A.handled=none) (x:SetIt s.heap I (.ref T) i a es.size ep) (S:RawS s.heap a es ep t) (P:SeqAt0 s.heap T (placesV ps)) (hj:ps[i]?=none)
  (fin:∀ h',Heap.ExtBut I s.heap h'→Q none { s with heap:=h' }):wpAny (model prog w) A (pyNext (.ref I)) Q E s:=by
 have TT:=x.typeIs
 obtain ⟨oi,g1,g2,g3⟩:=x
 obtain ⟨o,h1,h2,h3⟩:=S
 obtain ⟨ot,nt,t1,t2⟩:=P
 unfold pyNext
 refine wpAny_bind (wpAny_attempt (wpAny_callSpecial?_slot (name:=Str.ofString "__next__") TT slot_seti_next (wpAny_call_entry slot_seti_next TT entry_seti_next (wpAny_bind (wpAny_pure (wpAny_bind (wpAny_fieldsOf g1 g3 ?_)))) (args_seti_next _))))
 dsimp only [rawInt]
 unfold setEntries
 refine wpAny_bind (wpAny_bind (wpAny_setState_of h1 h2 h3 (wpAny_pure ?_)))
 dsimp only
 rw [if_neg (by simp)]
 simp only [Int.toNat_natCast]
 unfold seqItems?
 refine wpAny_bind (wpAny_bind (wpAny_load t1 ?_))
 rw [t2]
 refine wpAny_pure ?_
 dsimp only
 have ep':(placesV ps).toArray[i]?=none:=by
  rw [List.getElem?_toArray]
  unfold placesV
  rw [List.getElem?_map,hj]
  rfl
 rw [ep']
 dsimp only
 refine wpAny_bind (wpAny_setField g1 g3 (by simp) ?_)
 have g1':=Heap.get?_update_self (Obj.mapFields (·.setIfInBounds 0 (rawInt 0))) g1 (Obj.isFreed_of_fields (Obj.data_mapFields g3 _))
 have g3':=Obj.data_mapFields g3 (·.setIfInBounds 0 (rawInt 0))
 refine wpAny_bind (wpAny_setField g1' g3' (by simp) ?_)
 show wpAny _ _ (newExc (.type "StopIteration") [] >>= fun _=>_) _ _ _
 refine wpAny_bind ?_
 simp only [newExc,newTuple]
 refine wpAny_bind (wpAny_newObj_type (wpAny_bind (m:=firstArgMember _ _) (wpAny_of_eq (a:=Value.none) (by first | rfl | (simp only [firstArgMember]; rfl)) (wpAny_newObj_type ?_ (by size_fits)))) (by size_fits))
 simp only [raiseNew]
 refine (wpAny_bind (wpAny_handled ?_))
 rw [(show A.in1.handled=none from hh)]
 refine (wpAny_bind (wpAny_pure (wpAny_throw ?_)))
 exact wpAny_bind (wpAny_isInstance (T:="StopIteration") (b:=true) ⟨_,Heap.get?_push_size _ rfl,rfl⟩ isSubtype_stop (wpAny_pure (fin _ ((((Heap.SameBut.update ..).trans (Heap.SameBut.update ..)).extBut.push _).push _))))
theorem walks_drawn (hh:A.handled=none) (I a T:Addr) (ne:a≠I) (nT:T≠I) (es:Array (Int × Value)) (ep:Nat) (t:SetTable) (ps:List Nat) (l:List Value) (hl:ps.length=es.size)
  (hv:∀ (i j:Nat),ps[i]?=some j→∃ v,l[i]?=some v∧es[j]?.map (·.2)=some v) :
  Walks prog w A I [I,a,T] [I] es.size (fun i v=>l[i]?=some v) (fun i h=>SetIt h I (.ref T) i a es.size ep∧RawS h a es ep t∧SeqAt0 h T (placesV ps)) where
 sub:=fun b hb=>by
  cases List.mem_singleton.mp hb
  exact List.mem_cons_self ..
 frame:=fun _ _ _ st k=>⟨st.1.keep fun o e=>k I (List.mem_cons_self ..) o e,st.2.1.keep fun o e=>k a (by simp) o e,st.2.2.keep fun o e=>k T (by simp) o e⟩
 item:=fun i s Q E lt st fin=>by
  have e:ps[i]?=some ps[i]:=List.getElem?_eq_getElem (by lia)
  obtain ⟨v,e1,e2⟩:=hv i _ e
  exact seti_itemD (es:=es) st.1 st.2.1 st.2.2 e e2 fun h' K' sb=>fin _ h' s.toks e1 ⟨K',st.2.1.keep fun o z=>sb.extBut a o ne z,st.2.2.keep fun o z=>sb.extBut T o nT z⟩ fun b o nb z=>sb.extBut b o (fun y=>nb (by simp [y])) z
 done:=fun s Q E st fin=>seti_endD (es:=es) hh st.1 st.2.1 st.2.2 (List.getElem?_eq_none (by lia)) fun h' x=>fin h' s.toks fun b o nb z=>x b o (fun y=>nb (by simp [y])) z
 self:=fun _ _ _ _ st q=>seti_self st.1 q
end
end PySem
namespace PySem
open SetTable Sem
section
variable {prog:Program} {w:World} {K:Type} [DecidableEq K] {knd:KeyKind prog w K} {A:Around} {E:Value→Shared→Prop} {s:Shared} {a b d r:Addr}
variable {o:Obj} {es:Array (Int × Value)} {ep:Nat} {t:SetTable} {ks:List (List K × Addr)}
theorem SetAt.raw (S:SetAt knd s.heap a o es ep t ks):RawS s.heap a es ep t:=⟨o,S.ho,S.hd,S.fits⟩
theorem SetAt.few (S:SetAt knd s.heap a o es ep t ks) (nd:¬ ((!t.plain && decide (es.size > 1))=true)):es.size≤1:=by
 rcases Nat.lt_or_ge 1 es.size with z | z
 ·exfalso
  have pt:t.plain=true:=by
   cases e:t.plain with
   | true=>rfl
   | false=>exact absurd (by rw [e,decide_eq_true z]; rfl) nd
  have sz:=S.size
  have k0:=S.pl pt ks[0] (List.getElem_mem (by lia))
  have k1:=S.pl pt ks[1] (List.getElem_mem (by lia))
  have N:=List.pairwise_iff_getElem.mp S.nd
  have:=N 0 1 (by rw [List.length_map]; lia) (by rw [List.length_map]; lia) (by decide)
  rw [List.getElem_map,List.getElem_map,k0,k1] at this
  exact this rfl
 ·exact z
theorem next_text {Q:Option (Value × Nat)→Shared→Prop} {f i:Nat} (bt:(model prog w).w.params.followText "set-order" = true) (S:RawS s.heap a es ep t) (q:Q ((((pickOrder ((model prog w).w.params.setOrder a ep) es).toList.map (·.2))[i]?).map fun v=>(v,f)) s):wpAny (model prog w) A (setNext a f i ep) Q E s:=by
 obtain ⟨o,h1,h2,h3⟩:=S
 unfold setNext
 refine wpAny_bind (wpAny_setState_of h1 h2 h3 ?_)
 dsimp only
 unfold setsByText
 refine wpAny_bind (wpAny_bind (wpAny_askSetting (wpAny_pure ?_)))
 rw [bt]
 simp only [if_true]
 rw [if_neg (by simp)]
 unfold setWalk
 refine wpAny_bind (wpAny_bind (wpAny_setState_of h1 h2 h3 ?_))
 dsimp only
 unfold setsByText
 refine wpAny_bind (wpAny_bind (wpAny_askSetting (wpAny_pure ?_)))
 rw [bt]
 simp only [if_true]
 refine wpAny_bind (wpAny_askSetting (wpAny_pure (wpAny_pure ?_)))
 rw [List.getElem?_map,Array.getElem?_toList] at q
 cases e:(pickOrder ((model prog w).w.params.setOrder a ep) es)[i]? with
 | none=>rw [e] at q; exact q
 | some x=>rw [e] at q; exact q
theorem next_few {Q:Option (Value × Nat)→Shared→Prop} {f i:Nat} (bt:(model prog w).w.params.followText "set-order" = false) (S:RawS s.heap a es ep t) (nd:¬ ((!t.plain && decide (es.size > 1))=true)) (led:t.led=true) (q:Q (match es[SetTable.below t.place f]?,t.place[SetTable.below t.place f]? with
  | some (_,x),some j=>some (x,j+1)
  | _,_=>none) s):wpAny (model prog w) A (setNext a f i ep) Q E s:=by
 obtain ⟨o,h1,h2,h3⟩:=S
 unfold setNext
 refine wpAny_bind (wpAny_setState_of h1 h2 h3 ?_)
 dsimp only
 unfold setsByText
 refine wpAny_bind (wpAny_bind (wpAny_askSetting (wpAny_pure ?_)))
 rw [bt]
 simp only [Bool.false_eq_true,if_false]
 split
 ·rename_i z
  exact absurd z nd
 refine wpAny_bind (show wpAny (model prog w) A (if (!t.led && !es.isEmpty)=true then _ else Pure.pure ()) _ E s from ?_)
 rw [led]
 simp only [Bool.not_true,Bool.false_and,Bool.false_eq_true,if_false]
 refine wpAny_pure (wpAny_pure ?_)
 exact q
end
end PySem
namespace PySem
open SetTable Sem
section
variable {prog:Program} {w:World} {K:Type} [DecidableEq K] {knd:KeyKind prog w K} {A:Around} {E:Value→Shared→Prop} {s:Shared} {a b d r:Addr}
variable {o:Obj} {es:Array (Int × Value)} {ep:Nat} {t:SetTable} {ks:List (List K × Addr)}
theorem iter_T (hh:A.handled=none) (S:SetAt knd s.heap a o es ep t ks) (led:t.led=ledIn prog w) (hz:ks.length≤800) {Q:Value→Shared→Prop}
  (h:∀ (I:Addr) (h':Heap) dr (l:List Value) (fp:List Addr) (St:Nat→Heap→Prop),l.Perm (es.toList.map (·.2))→(∀ b o,s.heap.get? b=some o→h'.get? b=some o)→(∀ b∈fp,b=a∨s.heap.objs.size≤b)→s.heap.objs.size≤I →
   Walks prog w A I fp [I] es.size (fun i v=>l[i]?=some v) St→St 0 h'→Q (.ref I) { s with heap:=h',drawn:=dr }):wpAny (model prog w) A (pyIter (.ref a)) Q E s:=by
 have hT:=S.typeIs
 have sz:=S.size
 have lt:a < s.heap.objs.size:=Heap.lt_size S.ho
 refine wpAny_pyIter_slot hT F.slot_set_iter (wpAny_call_entry F.slot_set_iter hT entry_set_iter' ?_ (F.args_set_iter_1 _))
 unfold Builtin.«frozenset.__iter__»
 refine wpAny_bind (wpAny_bind (wpAny_pure (wpAny_pure ?_)))
 dsimp only
 unfold Builtin.Frozenset.sizeOf setEntries
 refine wpAny_bind (wpAny_bind (wpAny_bind (wpAny_setState_of S.ho S.hd S.fits (wpAny_pure (wpAny_pure ?_)))))
 dsimp only
 unfold setDrawn
 refine wpAny_bind (wpAny_bind (wpAny_setState_of S.ho S.hd S.fits ?_))
 dsimp only
 unfold setsByText
 refine wpAny_bind (wpAny_bind (wpAny_askSetting (wpAny_pure (wpAny_pure ?_))))
 have slow:∀ (f:Nat→Nat) (l:List Value),f 0=0→l.Perm (es.toList.map (·.2)) →
   (∀ (i:Nat) (v:Value),l[i]?=some v→∀ (s:Shared) (A:Around) (Q:Option (Value × Nat)→Shared→Prop) (E:Value→Shared→Prop),RawS s.heap a es ep t→Q (some (v,f (i+1))) s→wpAny (model prog w) A (setNext a (f i) i ep) Q E s) →
   (∀ (s:Shared) (A:Around) (Q:Option (Value × Nat)→Shared→Prop) (E:Value→Shared→Prop),RawS s.heap a es ep t→Q none s→wpAny (model prog w) A (setNext a (f es.size) es.size ep) Q E s) →
   Q (.ref s.heap.objs.size) { s with heap:=s.heap.push { cls:=.type "set_iterator",data:=.fields #[rawInt 0,.int 0 0,.ref a,.int es.size 0,.int ep 0] } }:=fun f l f0 hp nx nd=>by
  have hl:l.length=es.size:=by rw [hp.length_eq]; simp
  refine h s.heap.objs.size _ s.drawn l _ _ hp (fun b o e=>Heap.get?_push_of_some _ e) (fun b hb=>?_) (Nat.le_refl _) (walks_slot hh s.heap.objs.size a (Nat.ne_of_lt lt) es ep t f l hl nx nd) ⟨⟨_,Heap.get?_push_size _ rfl,rfl,?_⟩,S.raw.keep fun o e=>Heap.get?_push_of_some _ e⟩
  ·rcases List.mem_cons.mp hb with z | z
   ·exact .inr (by rw [z]; exact Nat.le_refl _)
   ·exact .inl (List.mem_singleton.mp z)
  ·rw [f0]
   rfl
 cases bt:(model prog w).w.params.followText "set-order" with
 | true =>
  simp only [Bool.not_true,Bool.false_and,Bool.false_eq_true,if_false]
  refine wpAny_bind (wpAny_pure ?_)
  unfold setEpoch
  refine wpAny_bind (wpAny_bind (wpAny_setState_of S.ho S.hd S.fits (wpAny_pure ?_)))
  dsimp only
  refine wpAny_bind (wpAny_newObj_type (wpAny_pure ⟨_,rfl,"set_iterator",_,⟨_,Heap.get?_push_size _ rfl,rfl⟩,slot_seti_next.lookup,?_⟩))
  have hp:((pickOrder ((model prog w).w.params.setOrder a ep) es).toList.map (·.2)).Perm (es.toList.map (·.2)):=by
   refine List.Perm.map _ ?_
   unfold pickOrder
   have:=pick_perm ((model prog w).w.params.setOrder a ep) es.size 0 es.toList #[] (by simp)
   simpa using this
  refine slow (fun _=>0) _ rfl hp (fun i v e s A Q E R q=>next_text bt R ?_) fun s A Q E R q=>next_text bt R ?_
  ·rw [e]
   exact q
  ·rw [List.getElem?_eq_none (by rw [hp.length_eq]; simp)]
   exact q
 | false =>
  have led':t.led=true:=by
   rw [led]
   unfold ledIn
   rw [bt]
   rfl
  by_cases dn:(!t.plain && decide (es.size > 1))=true
  ·rw [if_pos (by rw [Bool.not_false,Bool.true_and]; exact dn)]
   refine wpAny_bind (draw_perm _ _ _ _ (by simp) fun ps dr hp=>?_)
   have hpl:ps.length=es.size:=by rw [hp.length_eq]; simp
   refine wpAny_bind (wpAny_newTuple ?_ (by rw [List.length_map,hpl,sz]; exact Nat.le_trans hz (by decide)))
   generalize eh:Heap.push _ _=h1
   have e1:h1.get? s.heap.objs.size=some { cls:=.type "tuple",data:=.seq (placesV ps).toArray }:=by
    rw [← eh]
    exact Heap.get?_push_size _ rfl
   have k1:∀ b o,s.heap.get? b=some o→h1.get? b=some o:=fun b o e=>by
    rw [← eh]
    exact Heap.get?_push_of_some _ e
   have n1:h1.objs.size=s.heap.objs.size+1:=by rw [← eh,PyProof.Rows.size_push']
   unfold setEpoch
   refine wpAny_bind (wpAny_bind (wpAny_setState_of (s:={ s with heap:=h1,drawn:=dr }) (k1 _ _ S.ho) S.hd S.fits (wpAny_pure ?_)))
   dsimp only
   refine wpAny_bind (wpAny_newObj_type (wpAny_pure ⟨_,rfl,"set_iterator",_,⟨_,Heap.get?_push_size _ rfl,rfl⟩,slot_seti_next.lookup,?_⟩))
   have pr:∀ j,j∈ps↔j < es.size:=fun j=>by rw [hp.mem_iff]; simp
   refine h h1.objs.size _ dr (ps.map fun j=>(es.toList.map (·.2)).getD j Value.none) _ _ ?_ (fun b o e=>Heap.get?_push_of_some _ (k1 b o e)) (fun b hb=>?_) (by lia) (walks_drawn hh h1.objs.size a s.heap.objs.size (by lia) (by lia) es ep t ps _ hpl fun i j e=>?_) ⟨⟨_,Heap.get?_push_size _ rfl,rfl,rfl⟩,S.raw.keep fun o e=>Heap.get?_push_of_some _ (k1 _ o e),⟨_,_,Heap.get?_push_of_some _ e1,rfl⟩⟩
   ·have:=hp.map fun j=>(es.toList.map (·.2)).getD j Value.none
    refine this.trans (List.Perm.of_eq ?_)
    apply List.ext_getElem
    ·simp
    ·intro i h1 h2
     have h2':i < es.size:=by simpa using h2
     simp [List.getD_eq_getElem?_getD,h2']
   ·rcases List.mem_cons.mp hb with z | z
    ·exact .inr (by lia)
    rcases List.mem_cons.mp z with z | z
    ·exact .inl z
    ·exact .inr (by rw [List.mem_singleton.mp z]; exact Nat.le_refl _)
   ·have lj:j < es.size:=(pr j).mp (List.mem_of_getElem? e)
    refine ⟨_,by rw [List.getElem?_map,e]; rfl,?_⟩
    simp [List.getD_eq_getElem?_getD,lj]
  ·rw [if_neg (by rw [Bool.not_false,Bool.true_and]; exact dn)]
   refine wpAny_bind (wpAny_pure ?_)
   unfold setEpoch
   refine wpAny_bind (wpAny_bind (wpAny_setState_of S.ho S.hd S.fits (wpAny_pure ?_)))
   dsimp only
   refine wpAny_bind (wpAny_newObj_type (wpAny_pure ⟨_,rfl,"set_iterator",_,⟨_,Heap.get?_push_size _ rfl,rfl⟩,slot_seti_next.lookup,?_⟩))
   have few:=S.few dn
   have ps:t.place.size=es.size:=by rw [S.tok.sz,sz]
   refine slow (fun i=>if i=0 then 0 else (t.place.getD 0 0)+1) _ rfl (List.Perm.refl _) (fun i v e s A Q E R q=>next_few bt R dn led' ?_) fun s A Q E R q=>next_few bt R dn led' ?_
   ·have li:i < es.size:=by
     have:=(List.getElem?_eq_some_iff.mp e).1
     simpa using this
    have i0:i=0:=by lia
    subst i0
    have e1:es.size=1:=by lia
    have p1:t.place.size=1:=by lia
    obtain ⟨pl,ep⟩:∃ p,t.place=#[p]:=Array.size_eq_one_iff.mp p1
    obtain ⟨x,ex⟩:∃ x,es=#[x]:=Array.size_eq_one_iff.mp e1
    subst ex
    rw [ep] at q ⊢
    have ev:x.2=v:=by simpa using e
    rw [← ev] at q
    exact q
   ·rcases Nat.eq_zero_or_pos es.size with z | z
    ·have e0:es=#[]:=Array.size_eq_zero_iff.mp z
     have p0:t.place=#[]:=Array.size_eq_zero_iff.mp (by lia)
     subst e0
     rw [p0]
     exact q
    ·have e1:es.size=1:=by lia
     obtain ⟨pl,ep⟩:∃ p,t.place=#[p]:=Array.size_eq_one_iff.mp (by lia)
     obtain ⟨x,ex⟩:∃ x,es=#[x]:=Array.size_eq_one_iff.mp e1
     subst ex
     rw [ep]
     have:SetTable.below #[pl] (pl+1)=1:=by
      unfold SetTable.below
      simp [SetTable.below.go]
     show Q (match #[x][SetTable.below #[pl] (pl+1)]?,#[pl][SetTable.below #[pl] (pl+1)]? with
      | some (_,x),some j=>some (x,j+1)
      | _,_=>none) s
     rw [this]
     exact q
end
end PySem
namespace PySem
open SetTable Sem Calls PyProof.Rows PyProof.V PySem.Spec
section
variable {prog:Program} {w:World} {K:Type} [DecidableEq K] {knd:KeyKind prog w K} {A:Around} {E:Value→Shared→Prop} {s:Shared} {a b d r:Addr}
variable {o:Obj} {es:Array (Int × Value)} {ep:Nat} {t:SetTable} {ks:List (List K × Addr)}
theorem hint_set {Q:Bool→Shared→Prop} (hT:s.TypeIs (.ref r) "set") (h:Q false s):wpAny (model prog w) A (Builtin.List.listLengthHint (.ref r)) Q E s:=by
 unfold Builtin.List.listLengthHint
 refine wpAny_bind (wpAny_specialOf hT PySem.F.slot_set_len.lookup ?_)
 generalize hid:("set.__len__" : String)=id0
 wp_delta
 rw [show splitId id0=some ("set","__len__") from by subst hid; decide +kernel]
 subst hid
 refine wpAny_bind (wpAny_isInstance (T:="set") (b:=true) hT (by rw [isSubtype_type]; kernel_rfl) ?_)
 refine wpAny_ite_split (fun hab=>absurd hab (by decide)) (fun _=>?_)
 refine wpAny_ite_split (fun _=>?_) (fun hab=>absurd (by decide +kernel) hab)
 refine wpAny_bind (wpAny_typeOf hT ?_)
 exact wpAny_pure h
theorem items_perm {l:List Value} {acc:Array Value} {n:Nat} (h:ItemsOf (fun i v=>l[i]?=some v) acc n) (hl:l.length=n):acc.toList=l:=by
 apply List.ext_getElem
 ·rw [Array.length_toList,h.1,hl]
 ·intro i h1 h2
  have:l[i]?=some acc[i]:=h.2 i acc[i] (by simp at h1; simp [h1])
  rw [List.getElem?_eq_getElem h2] at this
  simpa using (Option.some.inj this).symm
theorem extend_T {R:Result→Shared→Prop} (hh:A.handled=none) (S:SetAt knd s.heap a o es ep t ks) (led:t.led=ledIn prog w) (hz:ks.length≤800) (L:Addr) (hLa:L≠a) (res:Value) (c₀:Nat) (hS:s.heap.get? L=some { cls:=.type "list",data:=.seq #[] c₀ })
  (hR:∀ h' tk dr acc' c',(∀ b o,b≠L→s.heap.get? b=some o→h'.get? b=some o)→h'.get? L=some { cls:=.type "list",dict:=none,data:=.seq acc' c',slots:=#[] }→acc'.toList.Perm (es.toList.map (·.2))→R (.ok (.ret res)) { s with heap:=h',toks:=tk,drawn:=dr }) :
  wpAny (model prog w) A.in1 (Builtin.List.listExtendWith (.ref L) (.ref a) res)
   (fun fin s'=>match fin with | .done f=>R (.ok f) s' | .again c'=>c'.quiet=true∧codeAny (model prog w) A c' R s') (fun e s'=>R (.error e) s') s:=by
 have lt:L < s.heap.objs.size:=Heap.lt_size hS
 have sz:=S.size
 unfold Builtin.List.listExtendWith
 refine wpAny_bind (wpAny_typeOf (T:="set") S.typeIs ?_)
 have h1:Builtin.List.listSameRef (.ref L) (.ref a)=false:=by simp [Builtin.List.listSameRef,hLa]
 have h2:(Value.type "set" == Value.type "list")=false:=by decide
 have h3:(Value.type "set" == Value.type "tuple")=false:=by decide
 simp only [h1,h2,h3,Bool.or_false,Bool.false_eq_true,if_false]
 refine wpAny_bind (iter_T (A:=A.in1) hh S led hz fun I h' dr l fp St hp k fpa hI W st=>?_)
 have hl:l.length=es.size:=by rw [hp.length_eq]; simp
 have hSf:L∉fp:=fun z=>by
  rcases fpa L z with y | y
  ·exact hLa y
  ·lia
 have key:∀ (h:Heap) (c₁ tk:Nat),St 0 h→(∀ b o,b≠L→s.heap.get? b=some o→h.get? b=some o) →
   h.get? L=some { cls:=.type "list",data:=.seq #[] c₁ }→codeAny (model prog w) A (.builtin "list.extend.loop" ⟨[.ref L,.ref I,res],[]⟩) R { s with heap:=h,toks:=tk,drawn:=dr }:=by
  intro h c₁ tk hst hk hS₁
  refine codeAny_extend_loopS W.toS (by rw [sz]; exact Nat.le_trans hz (by decide)) L hSf res es.size 0 _ #[] c₁ rfl (Nat.zero_le _) hst hS₁ (ItemsOf.nil _) fun s' acc' c' hm hS' hacc=>?_
  rw [Moved.eq_with hm]
  refine hR s'.heap s'.toks dr acc' c' (fun b o hb e=>hm.heap b o (fun hmem=>?_) (hk b o hb e)) hS' (by rw [items_perm hacc hl]; exact hp)
  rcases List.mem_cons.mp hmem with e' | hmem
  ·exact hb e'
  ·have:=Heap.lt_size e
   rw [List.mem_singleton.mp hmem] at this
   lia
 have hS₁:=k _ _ hS
 have hT1:Shared.TypeIs { s with heap:=h',drawn:=dr } (.ref a) "set" := by
  obtain ⟨o1,q1,q2⟩:=S.typeIs
  exact ⟨o1,k _ _ q1,q2⟩
 refine wpAny_bind (wpAny_holding (hint_set (s:={ s with heap:=h',drawn:=dr }) hT1 ?_))
 refine wpAny_ite_split (fun _=>?_) (fun _=>wpAny_pure ⟨plainId_quiet PySem.F.plain_extend_loop _,key _ c₀ _ st (fun b o _ e=>k _ _ e) hS₁⟩)
 refine wpAny_bind (wpAny_rule ?_)
 refine wpAny_bind ?_
 show wpAny _ _ (updateSeq L (·.push .none) >>= fun _=>updateSeq L (·.pop)) _ _ _
 refine wpAny_bind (wpAny_updateSeq (s:={ s with heap:=h',drawn:=dr }) hS₁ rfl ?_)
 have hS₂:=Heap.get?_update_self (Obj.mapSeq (·.push Value.none)) hS₁ rfl
 refine wpAny_updateSeq (hz:=by seq_fits) hS₂ rfl ?_
 have hS₃:=Heap.get?_update_self (Obj.mapSeq (·.pop)) hS₂ rfl
 refine wpAny_pure ⟨plainId_quiet PySem.F.plain_extend_loop _,key _ _ _ ?_ (fun b o hb e=>?_) hS₃⟩
 ·refine W.frame 0 _ _ st fun b hb o e=>?_
  have hbS:b≠L:=fun h=>hSf (h ▸ hb)
  exact (Heap.get?_update_other _ _ (Ne.symm hbS)).trans ((Heap.get?_update_other _ _ (Ne.symm hbS)).trans e)
 ·exact (Heap.get?_update_other _ _ (Ne.symm hb)).trans ((Heap.get?_update_other _ _ (Ne.symm hb)).trans (k _ _ e))
theorem collect_T {R:List Value→Shared→Prop} (hh:A.handled=none) (S:SetAt knd s.heap a o es ep t ks) (led:t.led=ledIn prog w) (hz:ks.length≤800)
  (h:∀ (h':Heap) (tk:Nat) dr (acc:Array Value),(∀ b o,s.heap.get? b=some o→h'.get? b=some o)→acc.toList.Perm (es.toList.map (·.2))→R acc.toList { s with heap:=h',toks:=tk,drawn:=dr }) :
  wpAny (model prog w) A (collect (.ref a)) R E s:=by
 have lt:a < s.heap.objs.size:=Heap.lt_size S.ho
 unfold collect
 refine wpAny_bind (wpAny_runValue (codeAny_builtin entry_proto_collect' ?_))
 rw [Around.under_plainId PySem.F.plain_proto_collect _]
 show wpAny _ A.in1 (newList [] >>= fun l=>again (.builtin "list.__iadd__" ⟨[l,.ref a],[]⟩)) _ _ s
 refine wpAny_bind (wpAny_newObj_type ?_)
 refine wpAny_pure ⟨plainId_quiet PySem.F.plain_list_iadd _,codeAny_builtin entry_list_iadd' ?_⟩
 rw [Around.under_plainId PySem.F.plain_list_iadd _]
 have hS₁:(s.heap.push { cls:=.type "list",data:=.seq ([]:List Value).toArray }).get? s.heap.objs.size=some { cls:=.type "list",data:=.seq #[] }:=Heap.get?_push_size _ rfl
 show wpAny _ A.in1 (Builtin.List.listExtendWith (.ref s.heap.objs.size) (.ref a) (.ref s.heap.objs.size)) _ _ _
 have key:=extend_T (A:=A) (s:={ s with heap:=s.heap.push { cls:=.type "list",data:=.seq ([]:List Value).toArray } })
  (R:=fun (q:Result) (s':Shared)=>∃ (h':Heap) (tk:Nat) (dr:_) (acc':Array Value) (c':Nat),q=.ok (.ret (.ref s.heap.objs.size))∧s'={ s with heap:=h',toks:=tk,drawn:=dr } ∧
   (∀ b o,s.heap.get? b=some o→h'.get? b=some o)∧h'.get? s.heap.objs.size=some { cls:=.type "list",dict:=none,data:=.seq acc' c',slots:=#[] }∧acc'.toList.Perm (es.toList.map (·.2)))
  hh (S.push _) led hz s.heap.objs.size (Nat.ne_of_gt lt) (.ref s.heap.objs.size) 0 hS₁
  (fun h' tk dr acc' c' hk hS' hacc=>⟨h',tk,dr,acc',c',rfl,rfl,fun b o e=>hk b o (Nat.ne_of_lt (Heap.lt_size e)) (Heap.get?_push_of_some _ e),hS',hacc⟩)
 refine wpAny_mono key (fun fin s' x=>?_) fun e s' x=>?_
 ·cases fin with
  | done f =>
   obtain ⟨h',tk,dr,acc',c',e,rfl,hk,hS',hacc⟩:=x
   cases e
   show wpAny _ A (load s.heap.objs.size >>= _) _ _ _
   refine wpAny_bind (wpAny_load hS' ?_)
   exact wpAny_pure (h h' tk dr acc' hk hacc)
  | again c₁ =>
   refine ⟨x.1,codeAny_mono x.2 fun q s₂ y=>?_⟩
   obtain ⟨h',tk,dr,acc',c',rfl,rfl,hk,hS',hacc⟩:=y
   show wpAny _ A (load s.heap.objs.size >>= _) _ _ _
   refine wpAny_bind (wpAny_load hS' ?_)
   exact wpAny_pure (h h' tk dr acc' hk hacc)
 ·obtain ⟨_,_,_,_,_,e',_⟩:=x
  cases e'
end
end PySem
namespace L2
open PySem PySem.Spec PyProof.Rows
theorem perm_map {α β:Type} (f:α→β) {l m:List β} (h:l.Perm m):∀ k:List α,m=k.map f→∃ k':List α,k'.Perm k∧l=k'.map f:=by
 induction h with
 | nil=>exact fun k e=>⟨k,List.Perm.refl _,e⟩
 | cons x p ih =>
  intro k e
  cases k with
  | nil=>cases e
  | cons y k =>
   rw [List.map_cons] at e
   obtain ⟨k',p',e'⟩:=ih k (List.cons.inj e).2
   exact ⟨y :: k',p'.cons _,by rw [List.map_cons,← e',(List.cons.inj e).1]⟩
 | swap x y l =>
  intro k e
  match k,e with
  | a :: b :: k,e =>
   have e1:x=f a:=(List.cons.inj e).1
   have e2:y=f b:=(List.cons.inj (List.cons.inj e).2).1
   have e3:l=k.map f:=(List.cons.inj (List.cons.inj e).2).2
   exact ⟨b :: a :: k,.swap ..,by rw [e1,e2,e3]; rfl⟩
 | trans p q ih1 ih2 =>
  intro k e
  obtain ⟨k1,p1,e1⟩:=ih2 k e
  obtain ⟨k2,p2,e2⟩:=ih1 k1 e1
  exact ⟨k2,p2.trans p1,e2⟩
theorem ways_of:∀ kp:List (List Key × Addr),(∀ p∈kp,∃ w,p.1=wK w)→∃ ws:List (List Str),kp.map (·.1)=ws.map wK
 | [],_=>⟨[],rfl⟩
 | p :: kp,h=>by
  obtain ⟨w,e⟩:=h p (List.mem_cons_self ..)
  obtain ⟨ws,es⟩:=ways_of kp fun q hq=>h q (List.mem_cons_of_mem _ hq)
  exact ⟨w :: ws,by rw [List.map_cons,List.map_cons,e,es]⟩
section
variable {X:Cx} {pins:List (Addr × Obj)} {σ:St} {H:Hp} {s:Shared} {E:Value→Shared→Prop} {a b:Addr} {kvs lvs:List (List Key × V)} {ks ls:List (List Str)}
theorem Inv.drawn (I:Inv X pins σ H s) (d:_):Inv X pins σ H { s with drawn:=d }:=⟨I.ok,I.os,I.bare,I.base,I.loc,I.cell,I.free,I.freeC,I.pin,I.hok,I.len⟩
theorem hstr_way (w:List Str):∀ y∈wK w,∀ v,(mixKind X.prog X.w).is y v=true→∀ n,hashByValue n v=pure false:=fun y hy v hv n=>by
 obtain ⟨z,_,rfl⟩:=List.mem_map.mp hy
 rcases keyIs_shape (k:=Sum.inr z) hv with ⟨i,t,e,_⟩ | ⟨x,t,_,rfl⟩
 ·cases e
 ·cases n <;> rfl
theorem dt_set (I:Inv X pins σ H s) (hu:X.A.units+60 < cLine) (e:Rd H a (.dT kvs)) (hk:kvs.map (·.1)=ks.map wK) (hl:ks.length≤800) {Q:Value→Shared→Prop}
  (h:∀ h' o' es' ep' t' kk,(∀ b o,s.heap.get? b=some o→h'.get? b=some o)→SetAt (mixKind X.prog X.w) h' s.heap.objs.size o' es' ep' t' kk→(∀ p∈kk,∃ w∈ks,p.1=wK w∧H p.2=some (.tup (w.map V.str)))→(∀ w∈ks,wK w∈kk.map (·.1))→kk.length=ks.length →
   t'.led=ledIn X.prog X.w→5 * kk.length < 3 * t'.mask→Q (.ref s.heap.objs.size) { s with heap:=h' }):wpAny (model X.prog X.w) X.A (call (.type "set") [.ref a]) Q E s:=by
 obtain ⟨z,no,xs,kt,D⟩:=dt_rd I.hok e
 have len:xs.length=ks.length:=by
  rw [← Paired.length kt]
  simpa using congrArg List.length hk
 have at_:∀ x∈xs,∃ w∈ks,x.1=wK w∧H x.2.1=some (.tup (w.map V.str)):=fun x hx=>by
  obtain ⟨i,hi⟩:=List.mem_iff_getElem?.mp hx
  obtain ⟨kv,hkv,e1,e2,_⟩:=paired_at kt hi
  have e3:(kvs.map (·.1))[i]?=(ks.map wK)[i]?:=by rw [hk]
  rw [List.getElem?_map,hkv,List.getElem?_map] at e3
  obtain ⟨w,ew,e4⟩:=Option.map_eq_some_iff.mp e3.symm
  have e5:wK w=kv.1:=e4
  refine ⟨w,List.mem_of_getElem? ew,by rw [← e1,e5],?_⟩
  rw [e2,← e5,wK_kV]
 refine call_set_T hu D no (by lia) (fun x hx=>?_) fun h' o' es' ep' t' kk sb S pm le lo=>?_
 ·obtain ⟨w,_,e1,_⟩:=at_ x hx
  rw [e1]
  exact hstr_way w
 ·refine h h' o' es' ep' t' kk (fun b o eb=>(sb.2 b (fresh_ne eb)).trans (push_get eb)) S (fun p hp=>?_) (fun w hw=>?_) (by rw [pm.length_eq,List.length_map,len]) le lo
  ·obtain ⟨x,hx,rfl⟩:=List.mem_map.mp (pm.mem_iff.mp hp)
   exact at_ x hx
  ·rw [(pm.map (·.1)).mem_iff,List.map_map]
   have:wK w∈kvs.map (·.1):=by rw [hk]; exact List.mem_map.mpr ⟨w,hw,rfl⟩
   obtain ⟨kv,hkv,e1⟩:=List.mem_map.mp this
   obtain ⟨i,hi⟩:=List.mem_iff_getElem?.mp hkv
   have li:=(List.getElem?_eq_some_iff.mp hi).1
   have lx:i < xs.length:=by rw [← Paired.length kt]; exact li
   obtain ⟨kv',hkv',e2,_⟩:=paired_at kt (List.getElem?_eq_getElem lx)
   rw [hi] at hkv'
   cases hkv'
   exact List.mem_map.mpr ⟨xs[i],List.getElem_mem lx,by rw [← e1]; exact e2.symm⟩
theorem ld_var {i:Nat} {x:Str} {pos:Pos} {v:V} {Q:Value→Shared→Prop} (I:Inv X pins σ H s) (e:σ[i]?=some (some v)) (h:∀ u,RelV v u→Q u s) (hN:X.N[i]?=some x) (hv:Vis X.env.scope x) (hd:(x == ("__debug__" : Str))=false:=by decide) (hcd:(x == ("__classdict__" : Str))=false:=by decide) :
  wpAny (model X.prog X.w) X.A (eval (.Name x pos) X.env) Q E s:=by
 obtain ⟨m,hn,hl⟩:=I.loc
 obtain ⟨u,r,l⟩:=hl i x v hN e hv
 have fin:=h u r
 rcases l with ⟨hk,hm⟩ | ⟨hk,c,hc,hcell⟩
 ·exact wpAny_Name (wpAny_loadName_local I.ok.kind hk hn hm fin) hd
 ·rcases hk with hk | hk
  ·exact wpAny_Name (wpAny_loadName_cell I.ok.kind hk hc hcell fin) hd
  ·exact wpAny_Name (wpAny_loadName_free I.ok.kind hk hc hcell fin hcd) hd
theorem sp_one {e:Expr} {pos:Pos} (he:plainE e=true) {Q:List Value→Shared→Prop} {M:Model} {A:Around} {env:Env} (h:wpAny M A (eval e env) (fun u s1=>Q [u] s1) E s):wpAny M A (spliced (backTo pos (starEach [e] env))) Q E s:=by
 rw [star_cons he]
 show wpAny _ _ (spliced ((false,eval e env) :: backTo pos (starEach [] env))) _ _ s
 exact Calls.spliced_cons (thn h fun u s1 q=>Calls.spliced_nil q)
theorem ev_set {i:Nat} {x:Str} {p p2 pos:Pos} (I:Inv X pins σ H s) (hu:X.A.units+60 < cLine) (hg:Gl X "set") (hm:X.mg "set" = none) (hb:bootBuiltins "set" = some (.type "set")) (ei:σ[i]?=some (some (.ref a))) (hN:X.N[i]?=some x) (hv:Vis X.env.scope x)
  (hd:(x == ("__debug__" : Str))=false) (hcd:(x == ("__classdict__" : Str))=false) (e:Rd H a (.dT kvs)) (hk:kvs.map (·.1)=ks.map wK) (hl:ks.length≤800) {Q:Value→Shared→Prop}
  (h:∀ h' o' es' ep' t' kk,(∀ b o,s.heap.get? b=some o→h'.get? b=some o)→SetAt (mixKind X.prog X.w) h' s.heap.objs.size o' es' ep' t' kk→(∀ p∈kk,∃ w∈ks,p.1=wK w∧H p.2=some (.tup (w.map V.str)))→(∀ w∈ks,wK w∈kk.map (·.1))→kk.length=ks.length →
   t'.led=ledIn X.prog X.w→5 * kk.length < 3 * t'.mask→Q (.ref s.heap.objs.size) { s with heap:=h' }):wpAny (model X.prog X.w) X.A (eval (.Call (.Name "set" p) [.Name x p2] [] pos) X.env) Q E s:=by
 refine wpAny_Call_Name_kw (ld_blt I hg hm hb ?_)
 refine PyProof.Rows.callWith_type1 (sp_one rfl (ld_var I ei (fun u r=>?_) hN hv hd hcd)) (star_cons rfl) rfl
 cases r
 exact dt_set I hu e hk hl h
end
end L2
namespace L2
open PySem PySem.Spec PyProof.Rows
def tKeys (i j:Nat):TE:=fun σ H Q=>∃ x y kvs lvs,∃ ks ls:List (List Str),σ[i]?=some (some (.ref x))∧σ[j]?=some (some (.ref y))∧Rd H x (.dT kvs)∧Rd H y (.dT lvs)∧kvs.map (·.1)=ks.map wK∧lvs.map (·.1)=ls.map wK∧ks.length+ls.length≤60 ∧
 ∀ (l:Addr) (bs:List Addr) (ws:List (List Str)),H l=none→bs.length=ws.length→(∀ (m:Nat) (b:Addr) (w:List Str),bs[m]?=some b→ws[m]?=some w→H b=some (.tup (w.map V.str)))→(∀ w,w∈ws↔w∈ks∨w∈ls)→ws.Pairwise (fun v w=>ltW v w=true) →
  Q (.ref l) (upd H l (.lst (bs.map V.ref)))
section
variable {X:Cx} {pins:List (Addr × Obj)} {σ:St} {H:Hp} {s:Shared} {E:Value→Shared→Prop} {a b:Addr} {ks ls:List (List Str)}
theorem sorted_T (I:Inv X pins σ H s) (hu:X.A.units+60 < cLine) (hh:X.A.handled=none) {o:Obj} {es:Array (Int × Value)} {ep:Nat} {t:SetTable} {kk:List (List Key × Addr)} (S:SetAt (mixKind X.prog X.w) s.heap a o es ep t kk) (led:t.led=ledIn X.prog X.w) (hz:kk.length≤60)
  (hp:∀ p∈kk,∃ w,p.1=wK w∧H p.2=some (.tup (w.map V.str))) {Q:VK}
  (h:∀ (l:Addr) (bs:List Addr) (ws:List (List Str)),H l=none→bs.length=ws.length→(∀ (m:Nat) (b:Addr) (w:List Str),bs[m]?=some b→ws[m]?=some w→H b=some (.tup (w.map V.str)))→(∀ w,w∈ws↔wK w∈kk.map (·.1))→ws.Pairwise (fun v w=>ltW v w=true)→Q (.ref l) (upd H l (.lst (bs.map V.ref)))) :
  wpAny (model X.prog X.w) X.A (call (.builtin "sorted") [.ref a]) (EP X pins σ Q) E s:=by
 have un:X.A.in1.units=X.A.units+1:=rfl
 have un2:X.A.in1.in1.units=X.A.units+2:=rfl
 refine Calls.call_function_entry kind_sorted plain_sorted entry_sorted (args_sorted1 _) ?_
 unfold Builtin.«sorted»
 refine wpAny_bind (m:=checkCount "sorted" 1 1 _) (wpAny_pure ?_)
 refine wpAny_bind (collect_T (A:=X.A.in1) hh S led (by lia) fun h1 tk dr acc k1 ap=>?_)
 rw [S.es,List.map_map] at ap
 obtain ⟨kp,pk,ea⟩:=perm_map (fun p:List Key × Addr=>Value.ref p.2) ap kk (by rfl)
 obtain ⟨ws,ew⟩:=ways_of kp fun p m=>by
  obtain ⟨w,e,_⟩:=hp p (pk.mem_iff.mp m)
  exact ⟨w,e⟩
 have lw:kp.length=ws.length:=by simpa using congrArg List.length ew
 have lz:acc.toList.length≤sizeLine:=by
  rw [ea,List.length_map,pk.length_eq]
  exact Nat.le_trans hz (by decide)
 have ndw:ws.Nodup:=by
  have n1:(kp.map (·.1)).Nodup:=((pk.map (·.1)).nodup_iff).mpr S.nd
  rw [ew] at n1
  rw [List.nodup_iff_pairwise_ne,List.pairwise_map] at n1
  rw [List.nodup_iff_pairwise_ne]
  exact n1.imp fun z e=>z (by rw [e])
 have key:∀ (m:Nat) (b:Addr) (w:List Str),(kp.map (·.2))[m]?=some b→ws[m]?=some w→H b=some (.tup (w.map V.str)):=fun m b w e1 e2=>by
  rw [List.getElem?_map] at e1
  obtain ⟨p,e3,e4⟩:=Option.map_eq_some_iff.mp e1
  obtain ⟨w',e5,e6⟩:=hp p (pk.mem_iff.mp (List.mem_of_getElem? e3))
  have e7:(kp.map (·.1))[m]?=(ws.map wK)[m]?:=by rw [ew]
  rw [List.getElem?_map,e3,List.getElem?_map,e2] at e7
  have e8:p.1=wK w:=Option.some.inj e7
  rw [← e4,e6,wK_inj (e5.symm.trans e8)]
 have rp:Reps X.K H (ws.map fun w=>.tup (w.map D.str)) ((kp.map (·.2)).map V.ref):=reps_ways (B:=H) (by rw [List.length_map]; exact lw) key
 have rel:∀ bs:List Addr,Vals (bs.map V.ref) (bs.map Value.ref):=fun bs=>by
  induction bs with
  | nil=>exact .nil
  | cons b bs ih=>exact .cons rfl ih
 have ev:acc.toList=(kp.map (·.2)).map Value.ref:=by rw [ea,List.map_map]; rfl
 have I1:Inv X pins σ H { s with heap:=h1,toks:=tk,drawn:=dr }:=(I.kept (t':=tk) k1).drawn dr
 have v:Vals ((kp.map (·.2)).map V.ref) acc.toList:=by rw [ev]; exact rel _
 generalize hbs:kp.map (·.2)=bs at key rp v
 have lb:bs.length=ws.length:=by rw [← hbs,List.length_map]; exact lw
 have la:acc.toList.length=bs.length:=by rw [ev,hbs,List.length_map]
 refine wpAny_bind (wpAny_newList ?_ lz)
 generalize e2:Heap.push _ _=h2
 have hD:h2.get? h1.objs.size=some (seqObj "list" acc.toList.toArray 0):=by rw [← e2]; exact Heap.get?_push_size _ rfl
 have k2:∀ b o,h1.get? b=some o→h2.get? b=some o:=fun b o q=>by rw [← e2]; exact Heap.get?_push_of_some _ q
 show wpAny (model X.prog X.w) X.A.in1 (do let _ ← holding [Value.ref h1.objs.size] (call (.builtin "list.sort") [.ref h1.objs.size]); ret (.ref h1.objs.size)) _ E { s with heap:=h2,toks:=tk,drawn:=dr }
 refine wpAny_bind (wpAny_holding (wpAny_call_entry (s:={ s with heap:=h2,toks:=tk,drawn:=dr }) slot_list_sort ⟨_,hD,rfl⟩ entry_list_sort ?_ (args_list_sort _)))
 refine lsort_D (s:={ s with heap:=h2,toks:=tk,drawn:=dr }) (H:=H) (σ:=σ) (pins:=pins) (X:=X) (ds:=ws.map wayD) hD (fun h' kp=>?_) rp v (sortD_ways ndw) (by have:=pk.length_eq; lia) (by lia) fun q h' m hqp hqs kp' he=>⟨_,rfl,?_⟩
 ·exact I1.kept (t':=tk) fun b o e=>kp b o (Nat.ne_of_lt (Heap.lt_size e)) (k2 b o e)
 ·have hql:q.length=ws.length:=by
   have:=hqp.length_eq
   simpa using this
  have hqm:∀ i∈q,i < ws.length:=fun i hi=>by simpa using hqp.mem_iff.mp hi
  have e1:(q.map fun i=>(bs.map V.ref).getD i .non)=(q.map fun i=>bs.getD i 0).map V.ref:=by
   rw [List.map_map]
   refine List.map_congr_left fun i hi=>?_
   have:=hqm i hi
   simp [List.getD_eq_getElem?_getD,show i < bs.length by lia]
  have hr:((List.range ws.length).map fun i=>ws.getD i [])=ws:=by
   apply List.ext_getElem
   ·simp
   ·intro i h1 h2
    simp [List.getD_eq_getElem?_getD,h2]
  have hw:(q.map fun i=>ws.getD i []).Perm ws:=by
   have:=hqp.map fun i=>ws.getD i []
   rw [List.length_map,hr] at this
   exact this
  refine wpAny_pure ⟨_,rfl,.ref h1.objs.size,upd H h1.objs.size (.lst ((q.map fun i=>bs.getD i 0).map V.ref)),?_,rfl,h _ _ (q.map fun i=>ws.getD i []) (I1.hok.fresh (Nat.le_refl _)) (by simp) (fun m b w e3 e4=>?_) (fun w=>?_) ?_⟩
  ·have I3:Inv X pins σ (upd H h1.objs.size (.lst ((q.map fun i=>bs.getD i 0).map V.ref))) { s with heap:=h',toks:=tk,drawn:=dr }:=by
    refine Inv.laid (t':=tk) I1 (fun b o e=>kp' b o (Nat.ne_of_lt (Heap.lt_size e)) (k2 b o e)) (Nat.le_refl _) ⟨?_,_,m,?_,he⟩
    ·rw [List.length_map,List.length_map,hql,← lb,← la]
     exact lz
    ·rw [← e1]
     exact v.pick q fun i hi=>by rw [List.length_map,lb]; exact hqm i hi
   exact I3
  ·rw [List.getElem?_map] at e3 e4
   obtain ⟨i,hi,e5⟩:=Option.map_eq_some_iff.mp e3
   rw [hi] at e4
   have e6:ws.getD i []=w:=Option.some.inj e4
   have li:=hqm i (List.mem_of_getElem? hi)
   refine key i b w ?_ ?_
   ·rw [← e5]
    simp [List.getD_eq_getElem?_getD,show i < bs.length by lia]
   ·rw [← e6]
    simp [List.getD_eq_getElem?_getD,li]
  ·rw [hw.mem_iff,← (pk.map (·.1)).mem_iff,ew]
   exact ⟨fun m=>List.mem_map.mpr ⟨w,m,rfl⟩,fun m=>by
    obtain ⟨w',m',e'⟩:=List.mem_map.mp m
    rw [← wK_inj e']
    exact m'⟩
  ·have st:(q.map fun i=>(ws.map wayD).getD i .non)=(q.map fun i=>ws.getD i []).map wayD:=by
    rw [List.map_map]
    refine List.map_congr_left fun i hi=>?_
    have:=hqm i hi
    simp [List.getD_eq_getElem?_getD,this]
   have ss:((q.map fun i=>ws.getD i []).map wayD).Pairwise (fun a b=>ltD a b=true):=by
    rw [← st,List.pairwise_map]
    exact hqs
   rw [List.pairwise_map] at ss
   exact ss.imp fun z=>by rw [ltD_way] at z; exact z
end
end L2
namespace L2
open PySem PySem.Spec PyProof.Rows
section
variable {X:Cx} {EX:St→XK} {x y:Str} {i j:Nat} {p1 p2 p3 p4 p5 p6 p7 p8 p9:Pos}
theorem pe_keys (hu64:X.A.units+64 < cLine) (hh:X.A.handled=none) (hg:Gl X "sorted") (hm:X.mg "sorted" = none) (hb:bootBuiltins "sorted" = some (.builtin "sorted")) (hgS:Gl X "set") (hmS:X.mg "set" = none) (hbS:bootBuiltins "set" = some (.type "set"))
  (hN:X.N[i]?=some x) (hv:Vis X.env.scope x) (hN2:X.N[j]?=some y) (hv2:Vis X.env.scope y) (hd:(x == ("__debug__" : Str))=false) (hcd:(x == ("__classdict__" : Str))=false) (hd2:(y == ("__debug__" : Str))=false) (hcd2:(y == ("__classdict__" : Str))=false) :
  PE X (.Call (.Name "sorted" p1) [.BinOp (.Call (.Name "set" p2) [.Name x p3] [] p4) .BitOr (.Call (.Name "set" p5) [.Name y p6] [] p7) p8] [] p9) (tKeys i j):=by
 intro pins s σ H Q I h
 have hu:X.A.units+60 < cLine:=by lia
 obtain ⟨ax,ay,kvs,lvs,ks,ls,ei,ej,dx,dy,hk,hl,few,hq⟩:=h
 refine wpAny_Call_Name_kw (ld_blt I hg hm hb ?_)
 refine PyProof.Rows.callWith_builtin1 (sp_one rfl ?_) (star_cons rfl) rfl
 refine wpAny_BinOp (ev_set I hu hgS hmS hbS ei hN hv hd hcd dx hk (by lia) fun h1 o1 es1 ep1 t1 kk1 k1 S1 sub1 all1 len1 led1 lo1=>?_)
 have I1:Inv X pins σ H { s with heap:=h1 }:=I.kept (t':=s.toks) k1
 refine ev_set I1 hu hgS hmS hbS ej hN2 hv2 hd2 hcd2 dy hl (by lia) fun h2 o2 es2 ep2 t2 kk2 k2 S2 sub2 all2 len2 led2 lo2=>?_
 have I2:Inv X pins σ H { s with heap:=h2 }:=I1.kept (t':=s.toks) k2
 have S1':SetAt (mixKind X.prog X.w) h2 s.heap.objs.size o1 es1 ep1 t1 kk1:=⟨k2 _ _ S1.ho,S1.ex,S1.hd,S1.ok,S1.pl,S1.es,fun p mp=>by
  obtain ⟨w,_,e1,e2⟩:=sub1 p mp
  rw [e1]
  exact key_of I2.hok (by rw [wK_kV]; exact e2),S1.nd⟩
 have ne:s.heap.objs.size≠h1.objs.size:=Nat.ne_of_lt (Heap.lt_size S1.ho)
 refine bitor_T (s:={ s with heap:=h2 }) hu S1' S2 ne lo1 lo2 led1 led2 (by lia) (fun p mp=>?_) fun h3 dr o3 es3 ep3 t3 kk3 sb S3 iff3 ⟨len3,sub3⟩ led3=>?_
 ·obtain ⟨w,_,e1,_⟩:=sub2 p mp
  rw [e1]
  exact hstr_way w
 have k3:∀ b o,h2.get? b=some o→h3.get? b=some o:=fun b o e=>(sb.2 b (fresh_ne e)).trans (push_get e)
 have I3:Inv X pins σ H { s with heap:=h3,drawn:=dr }:=(I2.kept (t':=s.toks) k3).drawn dr
 refine sorted_T I3 hu hh S3 led3 (by lia) (fun p mp=>?_) fun l bs ws hl' lb key iff' st=>hq l bs ws hl' lb key (fun w=>?_) st
 ·rcases sub3 p mp with m | m
  ·obtain ⟨w,_,e1,e2⟩:=sub1 p m
   exact ⟨w,e1,e2⟩
  ·obtain ⟨w,_,e1,e2⟩:=sub2 p m
   exact ⟨w,e1,e2⟩
 ·rw [iff',iff3]
  refine or_congr ⟨fun m=>?_,all1 w⟩ ⟨fun m=>?_,all2 w⟩
  ·obtain ⟨p,mp,e⟩:=List.mem_map.mp m
   obtain ⟨w',m',e1,_⟩:=sub1 p mp
   rw [wK_inj (e.symm.trans e1)]
   exact m'
  ·obtain ⟨p,mp,e⟩:=List.mem_map.mp m
   obtain ⟨w',m',e1,_⟩:=sub2 p mp
   rw [wK_inj (e.symm.trans e1)]
   exact m'
def vKeys (i j:Nat):TV:=fun τ Q=>match τ[i]?,τ[j]? with
 | some (some (.val (.dT ks _))),some (some (.val (.dT ls _)))=>ks.length+ls.length≤60∧∀ ws:List (List Str),(∀ w,w∈ws↔w∈ks∨w∈ls)→ws.Pairwise (fun v w=>ltW v w=true)→Q (.own (.lst (ws.map wayD)))
 | _,_=>False
theorem ve_keys (hu64:X.A.units+64 < cLine) (hh:X.A.handled=none) (hg:Gl X "sorted") (hm:X.mg "sorted" = none) (hgS:Gl X "set") (hmS:X.mg "set" = none)
  (hN:X.N[i]?=some x:=by rfl) (hN2:X.N[j]?=some y:=by rfl) (hv:Vis X.env.scope x:=by first | exact Or.inl rfl | exact Or.inr (Or.inl rfl) | exact Or.inr (Or.inr rfl)) (hv2:Vis X.env.scope y:=by first | exact Or.inl rfl | exact Or.inr (Or.inl rfl) | exact Or.inr (Or.inr rfl))
  (hb:bootBuiltins "sorted" = some (.builtin "sorted"):=by exact PyProof.Rows.Boot.«sorted») (hbS:bootBuiltins "set" = some (.type "set"):=by exact PyProof.Rows.Boot.«set»)
  (hd:(x == ("__debug__" : Str))=false:=by decide) (hcd:(x == ("__classdict__" : Str))=false:=by decide) (hd2:(y == ("__debug__" : Str))=false:=by decide) (hcd2:(y == ("__classdict__" : Str))=false:=by decide) :
  VE X EX (.Call (.Name "sorted" p1) [.BinOp (.Call (.Name "set" p2) [.Name x p3] [] p4) .BitOr (.Call (.Name "set" p5) [.Name y p6] [] p7) p8] [] p9) (vKeys i j):=by
 refine ⟨_,⟨pe_keys hu64 hh hg hm hb hgS hmS hbS hN hv hN2 hv2 hd hcd hd2 hcd2⟩,fun H0 B H τ σ Q Qd s S h _ k=>?_⟩
 unfold vKeys at h
 split at h
 ·rename_i ks ds ls es e1 e2
  obtain ⟨few,h⟩:=h
  obtain ⟨v1,f1,r1⟩:=S.val i _ e1
  obtain ⟨v2,f2,r2⟩:=S.val j _ e2
  have q1:Pk X.K B H (.val (.dT ks ds)) v1:=r1
  have q2:Pk X.K B H (.val (.dT ls es)) v2:=r2
  obtain ⟨a1,kvs,rfl,d1,k1,_⟩:=q1.dT s rfl
  obtain ⟨a2,lvs,rfl,d2,k2,_⟩:=q2.dT s rfl
  refine ⟨a1,a2,kvs,lvs,ks,ls,f1,f2,d1,d2,k1,k2,few,fun l bs ws hl hlen key iff' st=>?_⟩
  have T:=Stp.tups s bs fun b hm=>by
   obtain ⟨m,hm⟩:=List.mem_iff_getElem?.mp hm
   have lm:=(List.getElem?_eq_some_iff.mp hm).1
   exact ⟨_,key m b _ hm (List.getElem?_eq_getElem (by lia))⟩
  have hlB:(fun a=>if a∈bs then H a else B a) l=none:=by
   show (if l∈bs then H l else B l)=none
   split
   ·exact hl
   ·exact s.free hl
  refine k (.own (.lst (ws.map wayD))) _ _ _ (T.trans (.grow T.s (same_upd hl (.lst (bs.map V.ref))))) ⟨l,rfl,hl,hlB,own_newL (reps_ways hlen fun m b w h1 h2=>?_)⟩ (h ws iff' st)
  show (if b∈bs then H b else B b)=_
  rw [if_pos (List.mem_of_getElem? h1)]
  exact key m b w h1 h2
 ·exact h.elim
end
end L2
namespace PySem
open Calls PyProof.Rows PyProof.V PySem.Spec
def On (s0 s:Shared):Prop:=∃ h' tk,(∀ b o,s0.heap.get? b=some o→h'.get? b=some o)∧s={ s0 with heap:=h',toks:=tk }
theorem On.get {s0 s:Shared} (h:On s0 s):∀ b o,s0.heap.get? b=some o→s.heap.get? b=some o:=by
 obtain ⟨h',tk,k,rfl⟩:=h
 exact k
theorem On.next {s0 s:Shared} (h:On s0 s) {h2:Heap} {tk2:Nat} (k:∀ b o,s0.heap.get? b=some o→h2.get? b=some o):On s0 { s with heap:=h2,toks:=tk2 }:=by
 obtain ⟨h',tk,_,rfl⟩:=h
 exact ⟨h2,tk2,k,rfl⟩
section
variable {prog:Program} {w:World} {A:Around} {E:Value→Shared→Prop} {s:Shared} {R:Result→Shared→Prop} {I:Addr} {fp wr:List Addr} {n:Nat} {P:Nat→Value→Prop} {St:Nat→Heap→Prop} {s0:Shared}
theorem mn_loop (W:Walks prog w A.in1 I fp wr n P St) (bt:Nat→Nat→Bool) (S:Addr) (hSf:S∉fp) (out:∀ b o,s0.heap.get? b=some o→b∉wr∧b≠S)
  (hcmp:∀ i j vi vj (s:Shared) (Q:Value→Shared→Prop) (E:Value→Shared→Prop),P i vi→P j vj→On s0 s→Q (.bool (bt i j)) s→wpAny (model prog w) A.in1 (richCompare .Lt vi vj) Q E s) :
  ∀ (k j:Nat) (s:Shared) (vb:Value) (c:Nat),n - (j+1)=k→j+1≤n→St (j+1) s.heap→P (argBest bt j) vb→On s0 s →
  s.heap.get? S=some { cls:=.type "list",dict:=none,data:=.seq #[vb,vb] c,slots:=#[] } →
  (∀ v h' tk,P (argBest bt (n - 1)) v→(∀ b o,s0.heap.get? b=some o→h'.get? b=some o)→R (.ok (.ret v)) { s with heap:=h',toks:=tk }) →
  codeAny (model prog w) A (.builtin "min.loop" ⟨[.ref I,.none,.ref S],[]⟩) R s:=by
 have hSw:S∉wr:=fun h=>hSf (W.sub _ h)
 have hname:(toString "min" ++ toString ".loop" : String)="min.loop" := by decide
 intro k
 induction k with
 | zero =>
  intro j s vb c hk hj hst hPb h0k hS hR
  have hin:j+1=n:=by lia
  refine codeAny_builtin F.entry_min_loop ?_
  rw [Around.under_plainId F.plain_min_loop _]
  show wpAny _ A.in1 (seqItems? (.ref S) >>= _) _ _ s
  refine wpAny_bind (wpAny_seqItems hS rfl ?_)
  show wpAny _ A.in1 (tryCatch (pyNext (.ref I)) _ >>= _) _ _ s
  refine wpAny_bind (wpAny_tryCatch (W.done s _ _ (hin ▸ hst) fun h' tk hk'=>?_))
  have hS':=hk' S _ hSw hS
  show wpAny _ A.in1 (updateSeq S (fun _=>#[]) >>= _) _ _ _
  refine wpAny_bind ?_
  refine wpAny_updateSeq hS' rfl (wpAny_bind (wpAny_letGo (wpAny_pure ?_)))
  refine hR vb _ tk (by rw [← hin]; exact hPb) fun b o e=>(Heap.get?_update_other _ _ (Ne.symm (out b o e).2)).trans (hk' b o (out b o e).1 (h0k.get b o e))
 | succ k ih =>
  intro j s vb c hk hj hst hPb h0k hS hR
  have hlt:j+1 < n:=by lia
  refine codeAny_builtin F.entry_min_loop ?_
  rw [Around.under_plainId F.plain_min_loop _]
  show wpAny _ A.in1 (seqItems? (.ref S) >>= _) _ _ s
  refine wpAny_bind (wpAny_seqItems hS rfl ?_)
  show wpAny _ A.in1 (tryCatch (pyNext (.ref I)) _ >>= _) _ _ s
  refine wpAny_bind (wpAny_tryCatch (W.item (j+1) s _ _ hlt hst fun v h' tk hP hst' hk'=>?_))
  have hS':=hk' S _ hSw hS
  have h0k':∀ b o,s0.heap.get? b=some o→h'.get? b=some o:=fun b o e=>hk' b o (out b o e).1 (h0k.get b o e)
  show wpAny _ A.in1 (tryCatch (holding [v,v] (richCompare .Lt v vb >>= _)) _ >>= _) _ _ _
  refine wpAny_bind (wpAny_tryCatch (wpAny_holding (wpAny_bind (hcmp (j+1) (argBest bt j) v vb _ _ _ hP hPb (h0k.next h0k') ?_))))
  refine wpAny_bind (wpAny_holding (wpAny_truthy_bool ?_))
  refine wpAny_bind (wpAny_letGo (wpAny_pure ?_))
  cases hb:bt (j+1) (argBest bt j) with
  | true =>
   simp only [if_true]
   refine wpAny_bind ?_
   refine wpAny_updateSeq hS' rfl (wpAny_bind (wpAny_letGo ?_))
   rw [hname]
   refine wpAny_pure ⟨plainId_quiet F.plain_min_loop _,ih (j+1) _ v _ (by lia) hlt (W.frame _ _ _ hst' fun b hbf o e=>?_) (by simp only [argBest,hb,if_true]; exact hP) (h0k.next fun b o e=>(Heap.get?_update_other _ _ (Ne.symm (out b o e).2)).trans (h0k' b o e)) (Heap.get?_update_self _ hS' rfl) fun v' h'' tk'' hP' hk''=>?_⟩
   ·exact (Heap.get?_update_other _ _ (fun h:S=b=>hSf (by rw [h]; exact hbf))).trans e
   ·exact hR v' h'' tk'' hP' hk''
  | false =>
   simp only [Bool.false_eq_true,if_false]
   refine wpAny_bind (wpAny_letGo ?_)
   rw [hname]
   refine wpAny_pure ⟨plainId_quiet F.plain_min_loop _,ih (j+1) _ vb c (by lia) hlt hst' (by simp only [argBest,hb,Bool.false_eq_true,if_false]; exact hPb) (h0k.next h0k') hS' fun v' h'' tk'' hP' hk''=>?_⟩
   exact hR v' h'' tk'' hP' hk''
theorem mn_first (W:Walks prog w A.in1 I fp wr n P St) (bt:Nat→Nat→Bool) (S:Addr) (hSf:S∉fp) (out:∀ b o,s0.heap.get? b=some o→b∉wr∧b≠S)
  (hcmp:∀ i j vi vj (s:Shared) (Q:Value→Shared→Prop) (E:Value→Shared→Prop),P i vi→P j vj→On s0 s→Q (.bool (bt i j)) s→wpAny (model prog w) A.in1 (richCompare .Lt vi vj) Q E s)
  (hn:0 < n) {s:Shared} {c:Nat} (hst:St 0 s.heap) (h0k:On s0 s)
  (hS:s.heap.get? S=some { cls:=.type "list",dict:=none,data:=.seq #[] c,slots:=#[] })
  (hR:∀ v h' tk,P (argBest bt (n - 1)) v→(∀ b o,s0.heap.get? b=some o→h'.get? b=some o)→R (.ok (.ret v)) { s with heap:=h',toks:=tk }) :
  codeAny (model prog w) A (.builtin "min.loop" ⟨[.ref I,.none,.ref S],[]⟩) R s:=by
 have hSw:S∉wr:=fun h=>hSf (W.sub _ h)
 have hname:(toString "min" ++ toString ".loop" : String)="min.loop" := by decide
 refine codeAny_builtin F.entry_min_loop ?_
 rw [Around.under_plainId F.plain_min_loop _]
 show wpAny _ A.in1 (seqItems? (.ref S) >>= _) _ _ s
 refine wpAny_bind (wpAny_seqItems hS rfl ?_)
 show wpAny _ A.in1 (tryCatch (pyNext (.ref I)) _ >>= _) _ _ s
 refine wpAny_bind (wpAny_tryCatch (W.item 0 s _ _ hn hst fun v h' tk hP hst' hk'=>?_))
 have hS':=hk' S _ hSw hS
 show wpAny _ A.in1 (updateSeq S (fun _=>#[v,v]) >>= _) _ _ _
 refine wpAny_bind ?_
 refine wpAny_updateSeq hS' rfl ?_
 rw [hname]
 refine wpAny_pure ⟨plainId_quiet F.plain_min_loop _,mn_loop W bt S hSf out hcmp _ 0 _ v _ rfl hn (W.frame _ _ _ hst' fun b hbf o e=>?_) hP (h0k.next fun b o e=>(Heap.get?_update_other _ _ (Ne.symm (out b o e).2)).trans (hk' b o (out b o e).1 (h0k.get b o e))) (Heap.get?_update_self _ hS' rfl) hR⟩
 exact (Heap.get?_update_other _ _ (fun h:S=b=>hSf (by rw [h]; exact hbf))).trans e
theorem mn_call {d:Addr} {es:Array DictEntry} {ep:Nat} (bt:Nat→Nat→Bool) (hh:A.handled=none) (no:(d == sysModules)=false) (x:RawD s.heap d es ep) (hn:0 < es.size) {Q:Value→Shared→Prop}
  (hcmp:∀ i j vi vj (s':Shared) (Q:Value→Shared→Prop) (E:Value→Shared→Prop),es[i]?.map (·.key)=some vi→es[j]?.map (·.key)=some vj→On s s'→Q (.bool (bt i j)) s'→wpAny (model prog w) A.in1 (richCompare .Lt vi vj) Q E s')
  (h:∀ v h' tk,es[argBest bt (es.size - 1)]?.map (·.key)=some v→(∀ b o,s.heap.get? b=some o→h'.get? b=some o)→Q v { s with heap:=h',toks:=tk }):wpAny (model prog w) A (call (.builtin "min") [.ref d]) Q E s:=by
 have lt:d < s.heap.objs.size:=let ⟨_,e,_⟩:=x; Heap.lt_size e
 have hname:(toString "min" ++ toString ".loop" : String)="min.loop" := by decide
 refine call_function_tree F.kind_min F.plain_min F.entry_min (F.args_min1 _) ?_
 show wpAny _ A.in1 (Builtin.Builtins.bindParams "min" ["key","default"] 0 ⟨[],[]⟩ >>= _) _ _ s
 refine wpAny_bind (wpAny_of_eq (show Builtin.Builtins.bindParams "min" ["key","default"] 0 ⟨[],[]⟩=pure [none,none] from rfl) ?_)
 refine wpAny_bind (wpAny_pure ?_)
 refine wpAny_bind (raw_iter no x ?_)
 refine wpAny_bind (wpAny_newObj_type ?_)
 rw [hname]
 generalize e1:s.heap.push _=h1
 have k1:∀ b o,s.heap.get? b=some o→h1.get? b=some o:=fun b o e=>by rw [← e1]; exact Heap.get?_push_of_some _ e
 have n1:h1.objs.size=s.heap.objs.size+1:=by rw [← e1,size_push']
 have K1:h1.IsKeyIter s.heap.objs.size d 0 es.size ep:=⟨_,by rw [← e1]; exact Heap.get?_push_size _ rfl,rfl,rfl⟩
 refine wpAny_pure ⟨plainId_quiet F.plain_min_loop _,mn_first (s0:=s) (walks_raw (A:=A.in1) hh s.heap.objs.size d (Nat.ne_of_lt lt) es ep) bt h1.objs.size ?_ (fun b o e=>?_) hcmp hn ⟨K1.at fun o e=>Heap.get?_push_of_some _ e,(x.keep fun o e=>Heap.get?_push_of_some _ (k1 _ o e))⟩ ?_ (Heap.get?_push_size _ rfl) fun v h' tk hP hk=>?_⟩
 ·simp only [List.mem_cons,List.not_mem_nil,or_false,not_or]
  exact ⟨by lia,by lia⟩
 ·have:=Heap.lt_size e
  exact ⟨by simp only [List.mem_cons,List.not_mem_nil,or_false]; lia,by lia⟩
 ·exact ⟨_,s.toks,fun b o e=>Heap.get?_push_of_some _ (k1 b o e),rfl⟩
 ·exact h v h' tk hP hk
end
end PySem
namespace L2
open PySem PySem.Spec PyProof.Rows
theorem ltW_ir (a:List Str):ltW a a=false:=by
 cases h:ltW a a with
 | false=>rfl
 | true=>exact (ltW_as h).symm.trans h |>.symm ▸ rfl
theorem best_least (f:Nat→List Str):∀ k,argBest (fun i j=>ltW (f i) (f j)) k≤k∧∀ i,i≤k→ltW (f i) (f (argBest (fun i j=>ltW (f i) (f j)) k))=false
 | 0=>⟨Nat.le_refl _,fun i hi=>by
  have:i=0:=by lia
  subst this
  exact ltW_ir _⟩
 | k+1=>by
  obtain ⟨h1,h2⟩:=best_least f k
  have e:argBest (fun i j=>ltW (f i) (f j)) (k+1)=if ltW (f (k+1)) (f (argBest (fun i j=>ltW (f i) (f j)) k)) then k+1 else argBest (fun i j=>ltW (f i) (f j)) k:=rfl
  rw [e]
  split
  ·rename_i z
   refine ⟨Nat.le_refl _,fun i hi=>?_⟩
   by_cases q:i=k+1
   ·rw [q]
    exact ltW_ir _
   ·cases y:ltW (f i) (f (k+1)) with
    | false=>rfl
    | true =>
     have:=h2 i (by lia)
     rw [ltW_tr y z] at this
     cases this
  ·rename_i z
   refine ⟨by lia,fun i hi=>?_⟩
   by_cases q:i=k+1
   ·rw [q]
    exact Bool.eq_false_iff.mpr z
   ·exact h2 i (by lia)
section
variable {X:Cx} {EX:St→XK} {K:PySem.W.Frag} {B H:Hp}
theorem call_min_dT (hu:X.A.units+60 < cLine) (hh:X.A.handled=none):CallR X (.builtin "min") (fun xs H Q=>∃ a kvs,∃ ks:List (List Str),xs=[.ref a]∧Rd H a (.dT kvs)∧kvs.map (·.1)=ks.map wK∧ks≠[] ∧
  ∀ b w,w∈ks→(∀ v∈ks,ltW v w=false)→H b=some (.tup (w.map V.str))→Q (.ref b) H):=by
 intro pins s σ H xs us Q I r h
 obtain ⟨a,kvs,ks,rfl,e,hk,ne,q⟩:=h
 obtain ⟨u,rfl,ru⟩:=vals1 r
 cases ru
 obtain ⟨z,no,es,ep,raw,hs,hkey⟩:=dt_raw I.hok e
 have len:es.size=ks.length:=by
  rw [hs]
  simpa using congrArg List.length hk
 have n0:0 < ks.length:=List.length_pos_iff.mpr ne
 have at_:∀ (i:Nat) (u:Value),es[i]?.map (·.key)=some u→i < ks.length∧∃ b,u=.ref b∧H b=some (.tup ((ks.getD i []).map V.str)):=fun i u hu'=>by
  obtain ⟨b,k,eb,e1,e2⟩:=hkey i u hu'
  have e3:(kvs.map (·.1))[i]?=(ks.map wK)[i]?:=by rw [hk]
  rw [List.getElem?_map,e1,List.getElem?_map] at e3
  obtain ⟨w,ew,e4⟩:=Option.map_eq_some_iff.mp e3.symm
  refine ⟨(List.getElem?_eq_some_iff.mp ew).1,b,eb,?_⟩
  rw [List.getD_eq_getElem?_getD,ew,e2,← e4,wK_kV]
  rfl
 have un:X.A.in1.units=X.A.units+1:=rfl
 refine mn_call (fun i j=>ltW (ks.getD i []) (ks.getD j [])) hh no raw (by lia) (fun i j vi vj s' Q E hi hj on q=>?_) fun v h' tk hv k=>?_
 ·obtain ⟨li,bi,rfl,ri⟩:=at_ i vi hi
  obtain ⟨lj,bj,rfl,rj⟩:=at_ j vj hj
  obtain ⟨h',tk,k,rfl⟩:=on
  have I':Inv X pins σ H { s with heap:=h',toks:=tk }:=I.kept k
  have rep:∀ (b:Addr) (w:List Str),H b=some (.tup (w.map V.str))→Rep X.K H (wayD w) (.ref b):=fun b w hb=>by
   have:=reps_ways (K:=X.K) (B:=H) (ks:=[w]) (bs:=[b]) rfl fun m b' w' h1 h2=>by
    cases m with
    | zero =>
     cases h1
     cases h2
     exact hb
    | succ m=>simp at h1
   unfold Reps at this
   obtain ⟨v1,vs1,e1,r1,_⟩:=this
   cases e1
   exact r1
  have:=ltAt_D I' (sizeOf (wayD (ks.getD i []))) X.A.in1 (wayD (ks.getD i [])) (wayD (ks.getD j [])) (.ref bi) (.ref bj) (.ref bi) (.ref bj) (Nat.le_refl _) (rep _ _ ri) (rep _ _ rj) rfl rfl (by show ordD (.tup _) (.tup _)=true; unfold ordD; exact ord_strs _ _) (by
   have:depD (wayD (ks.getD i []))≤1:=by
    show depD (.tup _)≤1
    unfold depD
    rw [dep_way]
    lia
   lia)
  rw [ltD_way] at this
  exact this X.prog X.w E Q q
 ·obtain ⟨li,b,rfl,rb⟩:=at_ _ v hv
  obtain ⟨b1,b2⟩:=best_least (fun i=>ks.getD i []) (es.size - 1)
  generalize argBest (fun i j=>ltW (ks.getD i []) (ks.getD j [])) (es.size - 1)=m at *
  refine ⟨.ref b,H,I.kept k,rfl,q b (ks.getD m []) ?_ (fun v hv=>?_) rb⟩
  ·rw [List.getD_eq_getElem?_getD,List.getElem?_eq_getElem li]
   exact List.getElem_mem li
  ·obtain ⟨i,hi⟩:=List.mem_iff_getElem?.mp hv
   have:=b2 i (by have:=(List.getElem?_eq_some_iff.mp hi).1; lia)
   rw [List.getD_eq_getElem?_getD (i:=i),hi] at this
   exact this
def vMinD (rx:R) (Q:R→Prop):Prop:=match rx.d with
 | .dT ks _=>ks≠[]∧∀ w∈ks,(∀ v∈ks,ltW v w=false)→Q (.val (wayD w))
 | _=>False
theorem vf_minD (hu64:X.A.units+64 < cLine) (hh:X.A.handled=none):VF X (.builtin "min") vMinD:=by
 refine ⟨_,call_min_dT (by lia) hh,fun B H x rx Q Qd s px h k=>?_⟩
 unfold vMinD at h
 split at h
 ·rename_i ks ds e1
  obtain ⟨ne,h⟩:=h
  obtain ⟨ad,kvs,rfl,hd,hk,hr⟩:=px.dT s e1
  refine ⟨ad,kvs,ks,rfl,hd,hk,ne,fun b w hw hl hb=>?_⟩
  have T:=Stp.tups s [b] fun b' hm=>by
   cases List.mem_singleton.mp hm
   exact ⟨_,hb⟩
  refine k (.val (wayD w)) _ _ _ T ?_ (h w hw hl)
  have:=reps_ways (K:=X.K) (B:=fun a=>if a∈[b] then H a else B a) (ks:=[w]) (bs:=[b]) rfl fun m b' w' h1 h2=>by
   cases m with
   | zero =>
    cases h1
    cases h2
    show (if b∈[b] then H b else B b)=_
    rw [if_pos (List.mem_singleton.mpr rfl)]
    exact hb
   | succ m=>simp at h1
  unfold Reps at this
  obtain ⟨v1,vs1,e1,r1,_⟩:=this
  cases e1
  exact r1
 ·exact h.elim
end
end L2
namespace PySem
open Calls PyProof.Rows PyProof.V PySem.Spec
section
variable {prog:Program} {w:World} {A:Around} {E:Value→Shared→Prop} {s:Shared} {a b:Addr}
theorem eq_raw {es es':Array DictEntry} {ep ep':Nat} {Q:Value→Shared→Prop} (ha:(a == sysModules)=false) (hb:(b == sysModules)=false) (x:RawD s.heap a es ep) (y:RawD s.heap b es' ep') (e0:es'.size=0) (hu:A.units < cLine) (h:Q (.bool (es.size == 0)) s) :
  wpAny (model prog w) A (compareOp .Eq (.ref a) (.ref b)) Q E s:=by
 refine wpAny_richCompare_same_room (op:=.Eq) x.typeIs y.typeIs PySem.F.slot_dict_eq (wpAny_call_entry PySem.F.slot_dict_eq x.typeIs PySem.F.entry_dict_eq ?_ (PySem.F.args_dict_eq_2 _ _)) hu
 show wpAny _ _ (Builtin.Dict.dictSlotArgs "__eq__" ⟨[.ref a,.ref b],[]⟩ >>= _) _ _ s
 refine wpAny_bind ?_
 unfold Builtin.Dict.dictSlotArgs
 refine wpAny_bind (wpAny_notOrdered_dict x.typeIs ?_)
 show wpAny _ _ (pure (Value.ref a,Value.ref b)) _ _ s
 refine wpAny_pure ?_
 refine wpAny_bind (wpAny_isInstance (T:="dict") y.typeIs PySem.F.sub_dict_dict ?_)
 simp only [Bool.not_true,Bool.false_eq_true,if_false]
 refine wpAny_bind (wpAny_pure (wpAny_bind (wpAny_pure ?_)))
 obtain ⟨oa,hoa,_,hda⟩:=x
 obtain ⟨ob,hob,_,hdb⟩:=y
 have fin:∀ c,c=(es.size == 0)→wpAny (model prog w) A.in1 (ret (.bool (c == true))) (fun fin s'=>∃ v,fin=.done (.ret v)∧v≠.notImplemented∧Q v s') E s:=fun c e=>by
  refine wpAny_pure ⟨_,rfl,?_,?_⟩
  ·exact fun x=>nomatch x
  ·rw [e]
   simpa using h
 refine wpAny_bind ?_
 unfold Builtin.Dict.samePairs Builtin.Dict.showsAll
 rw [if_neg (show ¬ (a == sysModules)=true by rw [ha]; exact Bool.false_ne_true),if_neg (show ¬ (b == sysModules)=true by rw [hb]; exact Bool.false_ne_true)]
 refine wpAny_bind (wpAny_pure (wpAny_bind (wpAny_pure ?_)))
 refine wpAny_bind (wpAny_dictEntries hoa hda ?_)
 dsimp only
 refine wpAny_bind (wpAny_dictEntries hob hdb ?_)
 rw [e0]
 by_cases z:es.size=0
 ·rw [if_neg (by rw [z]; simp)]
  refine wpAny_bind (wpAny_dictEpoch hoa hda ?_)
  refine wpAny_bind ?_
  rw [z,Std.Legacy.Range.forIn_eq_forIn_range']
  refine wpAny_pure ?_
  refine wpAny_pure ?_
  exact fin true (by rw [z]; rfl)
 ·rw [if_pos (by simpa using z)]
  refine wpAny_bind (wpAny_rule (wpAny_pure ?_))
  exact fin false (by simpa using z)
end
end PySem
namespace L2
open PySem PySem.Spec PyProof.Rows
section
variable {X:Cx} {EX:St→XK}
theorem op_eq0 (hu:X.A.units+60 < cLine):OpR X (compareOp .Eq) (fun x y H Q=>∃ a b kvs,x=.ref a∧y=.ref b∧Rd H a (.dT kvs)∧Rd H b (.dT [])∧Q (.bl kvs.isEmpty) H):=by
 intro pins s σ H x y v u Q I rx ry h
 obtain ⟨a,b,kvs,rfl,rfl,da,db,q⟩:=h
 cases rx
 cases ry
 obtain ⟨_,no,es,ep,raw,hs,_⟩:=dt_raw I.hok da
 obtain ⟨_,no',es',ep',raw',hs',_⟩:=dt_raw I.hok db
 refine eq_raw no no' raw raw' hs' (by lia) ⟨.bl kvs.isEmpty,H,I,?_,q⟩
 rw [hs]
 cases kvs <;> rfl
def vEq0 (rx ry:R) (Q:R→Prop):Prop:=match rx.d,ry.d with
 | .dT ks _,.dT [] []=>Q (.val (.bl ks.isEmpty))
 | _,_=>False
theorem vo_eq0 (hu:X.A.units+64 < cLine):VO X (compareOp .Eq) vEq0:=⟨_,op_eq0 (by lia),fun B H x y rx ry Q Qd s px py h k=>by
 unfold vEq0 at h
 split at h
 ·rename_i ks ds e1 e2
  obtain ⟨a,kvs,rfl,d1,k1,_⟩:=px.dT s e1
  obtain ⟨b,lvs,rfl,d2,k2,_⟩:=py.dT s e2
  have l0:lvs=[]:=by
   cases lvs with
   | nil=>rfl
   | cons p l=>simp at k2
  subst l0
  refine ⟨a,b,kvs,rfl,rfl,d1,d2,k (.val (.bl ks.isEmpty)) _ B H (.refl s) (repV ?_) h⟩
  have:kvs.length=ks.length:=by simpa using congrArg List.length k1
  cases kvs <;> cases ks <;> simp at this <;> rfl
 ·exact h.elim⟩
end
end L2
namespace L2
open PySem PySem.Spec PyProof.Rows
section
variable {X:Cx} {EX:St→XK} {K:PySem.W.Frag} {e:Expr} {es:List Expr} {te:TV} {tA:TVA} {x:Str} {p pos:Pos}
def RfAN (K:PySem.W.Frag) (EX:St→XK) (te:TA) (t:TVA) (k:Nat):Prop:=∀ (H0 B H:Hp) (τ:VSt) (σ:St) (Q:List V→Hp→Prop) (Qd:AR→Prop),Same B H→Slots K H0 B H τ σ→t τ Qd→(∀ n C B' H',Stp B H B' H'→clsOf K n C→Qd (.exc n)→EX σ (.ref C) none H') →
 (∀ ds vs B' H' c,Stp B H B' H'→k≤vs.length→H c=none→B' c=none→H' c=some (.lst [])→Reps K B' ds vs→Qd (.ok ds)→Q (vs.insertIdx k (.ref c)) H')→te σ H Q
structure VAN (X:Cx) (EX:St→XK) (es:List Expr) (t:TVA) (k:Nat):Prop where
 u:∃ te,QA X es te∧RfAN X.K EX te t k
theorem van_last:VAN X EX [.List [] pos] vNil 0 :=
 ⟨_,qac (qe_lst qa_nil) qa_nil rfl,fun H0 B H τ σ Q Qd s S h xc k=>⟨by decide,fun c hc=>k [] [] B _ c (.grow s (same_upd hc _)) (Nat.zero_le _) hc (s.free hc) upd_same .nil h⟩⟩
theorem van_c {k:Nat} (ha:VE X EX e te) (hr:VAN X EX es tA k) (hs:plainE e=true:=by rfl):VAN X EX (e :: es) (vCons te tA) (k+1) :=
 let ⟨_,a1,a2⟩:=ha.u; let ⟨_,b1,b2⟩:=hr.u; ⟨_,qac a1 b1 hs,fun H0 B H τ σ Q Qd s S h xc kk=>a2 H0 B H τ σ _ _ s S h xc fun r v B1 H1 p q h1=>by
  obtain ⟨d,B2,p2,_,rp,h2⟩:=pub p q (q.okA h1)
  refine b2 H0 B2 H1 τ σ _ _ p2.s (S.step p2) h2 (xst xc p2) fun ds vs B3 H3 c p3 lk hc hb hl q3 h3=>?_
  exact kk (d :: ds) (v :: vs) B3 H3 c (p2.trans p3) (Nat.succ_le_succ lk) (p2.h.free hc) hb hl (by unfold Reps; exact ⟨v,vs,rfl,rp.same p3.b,q3⟩) h3⟩
def vCallF (g:DPI) (tA:TVA):TV:=fun τ Q=>tA τ fun a=>match a with
 | .ok ds=>g ds [] fun r _=>pubR r fun d=>Q (.val d)
 | .exc _=>False
theorem ve_callF {m k:Nat} {ps:List Str} {g:DPI} (C:Cal X.prog X.w X.K X.mg X.base m x ps (spOfI X.K g k)) (hr:Room m X.A) (hg:Gl X x) (ha:VAN X EX (e :: es) tA k) (hp:(e :: es).all plainE=true:=by rfl) (hdb:(x == ("__debug__" : Str))=false:=by decide) :
  VE X EX (.Call (.Name x p) (e :: es) [] pos) (vCallF g tA) :=
 let ⟨_,a1,a2⟩:=ha.u; ⟨_,qe_cal C hr hg a1 hp hdb,fun H0 B H τ σ Q Qd s S h xc kk=>a2 H0 B H τ σ _ _ s S h (xno fun _ q=>q) fun ds vs B1 H1 c p1 lk hc hb hl rp h1=>by
  refine ⟨ds,vs,B1,c,[],_,p1.s,rp,lk,by rw [List.append_nil],hb,io_own hl .nil,h1,fun r v B' H' qs hq q hc' o hr ne=>?_⟩
  obtain ⟨d,B2,q2,s2,hc2,rp2,hd⟩:=pubI q hc' hr ne hq
  exact kk (.val d) v B2 H' (p1.lent hc q2 hc2) rp2 hd⟩
end
end L2
namespace L2
open PySem PySem.Spec PyProof.Rows
section
variable {X:Cx} {EX:St→XK} {pins:List (Addr × Obj)} {σ:St} {H:Hp} {s:Shared}
open Classical in
theorem in_D (I:Inv X pins σ H s) (hu:X.A.units+60 < cLine) {xs:List V} {ds:List D} {its:List Value} {d:D} {x:V} {v:Value} (r:Reps X.K H ds xs) (rv:Vals xs its) (rd:Rep X.K H d x) (rx:RelV x v) (hc:∀ e∈ds,cmpD e d=true∧depD e≤50) :
  ∃ f:Value→Bool,(∀ y,y∈its.toArray→SeqAt.EqAt X.A.in1 s y v (f y))∧its.toArray.any f=ds.any fun e=>eqD e d:=by
 have hl:ds.length=its.length:=r.length.trans rv.length
 have un:X.A.in1.units=X.A.units+1:=rfl
 have at_:∀ (i:Nat) (y:Value),its[i]?=some y→∃ e,ds[i]?=some e∧SeqAt.EqAt X.A.in1 s y v (eqD e d):=fun i y hy=>by
  have li:=(List.getElem?_eq_some_iff.mp hy).1
  have ld:i < ds.length:=by lia
  obtain ⟨z,hz,rz⟩:=r.at (List.getElem?_eq_getElem ld)
  obtain ⟨u,eu,ru⟩:=rv.get hz
  rw [hy] at eu
  cases eu
  obtain ⟨c1,c2⟩:=hc ds[i] (List.getElem_mem ld)
  exact ⟨ds[i],List.getElem?_eq_getElem ld,eqAt_D I _ X.A.in1 ds[i] d z x y v (Nat.le_refl _) rz rd ru rx c1 (by lia)⟩
 refine ⟨fun y=>decide (∃ i:Nat,∃ e,its[i]?=some y∧ds[i]?=some e∧eqD e d=true),fun y hy=>?_,?_⟩
 ·by_cases h:∃ i:Nat,∃ e,its[i]?=some y∧ds[i]?=some e∧eqD e d=true
  ·dsimp only
   rw [decide_eq_true h]
   obtain ⟨i,e,h1,h2,h3⟩:=h
   obtain ⟨e',h4,h5⟩:=at_ i y h1
   rw [h2] at h4
   cases h4
   rw [h3] at h5
   exact h5
  ·dsimp only
   rw [decide_eq_false h]
   obtain ⟨i,hi⟩:=List.mem_iff_getElem?.mp (by simpa using hy)
   obtain ⟨e',h4,h5⟩:=at_ i y hi
   have:eqD e' d=false:=by
    cases q:eqD e' d with
    | false=>rfl
    | true=>exact absurd ⟨i,e',hi,h4,q⟩ h
   rw [this] at h5
   exact h5
 ·rw [show its.toArray.any (fun y=>decide (∃ i:Nat,∃ e,its[i]?=some y∧ds[i]?=some e∧eqD e d=true))=its.any (fun y=>decide (∃ i:Nat,∃ e,its[i]?=some y∧ds[i]?=some e∧eqD e d=true)) by simp]
  apply Bool.eq_iff_iff.mpr
  rw [List.any_eq_true,List.any_eq_true]
  constructor
  ·rintro ⟨y,_,h⟩
   obtain ⟨i,e,_,h2,h3⟩:=of_decide_eq_true h
   exact ⟨e,List.mem_of_getElem? h2,h3⟩
  ·rintro ⟨e,he,h⟩
   obtain ⟨i,hi⟩:=List.mem_iff_getElem?.mp he
   have li:=(List.getElem?_eq_some_iff.mp hi).1
   have h2:its[i]?=some (its[i]'(by lia)):=List.getElem?_eq_getElem (by lia)
   exact ⟨its[i]'(by lia),List.getElem_mem _,decide_eq_true ⟨i,e,h2,hi,h⟩⟩
def rInD (K:PySem.W.Frag) (g:Bool→Bool):R2:=fun x y H Q=>∃ p xs ds d,y=.ref p∧SqL K H p xs∧Reps K H ds xs∧Rep K H d x∧(∀ e∈ds,cmpD e d=true∧depD e≤50)∧Q (.bl (g (ds.any fun e=>eqD e d))) H
theorem op_notInD (hu:X.A.units+60 < cLine):OpR X (compareOp .NotIn) (rInD X.K (!·)):=by
 intro pins s σ H x y v u Q I rx ry h
 obtain ⟨p,xs,ds,d,rfl,hq,r,rd,hc,q⟩:=h
 cases ry
 obtain ⟨its,rv,pl,hz⟩:=I.list hq
 obtain ⟨f,f1,f2⟩:=in_D I hu r rv rd rx hc
 refine SeqAt.notIn_listAt f pl.isList f1 ⟨.bl _,H,I,rfl,?_⟩
 rw [f2]
 exact q
def vInD (g:Bool→Bool) (rx ry:R) (Q:R→Prop):Prop:=match ry.d with
 | .lst ds=>(∀ e∈ds,cmpD e rx.d=true∧depD e≤50)∧Q (.val (.bl (g (ds.any fun e=>eqD e rx.d))))
 | _=>False
theorem rf_inD {K:PySem.W.Frag} {g:Bool→Bool}:RfO K (rInD K g) (vInD g):=fun B H x y rx ry Q Qd s px py h k=>by
 unfold vInD at h
 split at h
 ·rename_i ds e1
  obtain ⟨a,xs,rfl,h1,r1⟩:=py.lst s e1
  exact ⟨a,xs,ds,rx.d,rfl,SqL.of h1,r1.same s,px.rep s,h.1,k (.val (.bl _)) _ B H (.refl s) (repV rfl) h.2⟩
 ·exact h.elim
theorem vo_notinD (hu:X.A.units+64 < cLine):VO X (compareOp .NotIn) (vInD (!·)):=⟨_,op_notInD (by lia),rf_inD⟩
end
end L2
namespace L2
open PySem PySem.Spec PyProof.Rows
section
variable {X:Cx} {EX:St→XK} {pos pos':Pos} {x:Str} {e:Expr} {te:TV}
end
end L2
set_option maxHeartbeats 4000000
namespace K25
open PySem L2
local macro_rules | `(tactic| simp! only [$xs,*])=>`(tactic| simp only [vSeq,vIfS,vBl,vOp,vLt,vLe,vGt,vGe,vI2',vI2,vVar,vF1,vLen,vList,vListD,vTuple,vStr,vRet,vRetO,vRetN,vIxR,vNext,vC,vAdd,vSub,vMul,vDiv,vMod,vPow,vEq,vNe,vSlice,vSlR,vNoPart,vPart,vNeg,vCall,vCallN,vCons,vNil,vTup,vLst,vSet,vSetO,vAppend,ownL,vRetCI,ioL,vInD,vKeys,vMinD,vEq0,vCallF,vFor,vRng1,vRng2,vItems,vComp,vIsin,isTy,vNotT,vAndT,vOrT,vNotE,vAndE,vOrE,vIfE,vAsg,vgName,vgNil,vgCons,vgTup,vFrz,vFrzD,frz,vDrop,vAll,vJoin,vIsN,startD,dV,scal,rd_val,rd_own,rd_peek,rd_exc,pub_val,pub_own,ex_val,ex_own,ex_peek,ex_exc,exA_val,exA_own,exA_peek,exA_exc,exS_val,exS_own,exS_peek,exS_exc,exA_ok,exA_raise,exI_ok,exI_exc,more_ok,more_exc,vRaise,vTry,VEnds.calm,VEnds.wiped,vDGet,vDIn,vDGet1,vDNewT,vDPut,ownT,vSorted,vCalB,scalR,vNeD,vMulS,vIn,vIo,vVarI,vAppendI,vRetI,vCallI,vSetCI,vAsgI,ioOut,startI,List.insertIdx_zero,List.insertIdx_succ_cons,strsOf,strsOf_map,Option.map_some,List.map_cons,List.map_nil,List.length_cons,List.length_nil,List.cons_append,List.nil_append,List.getElem?_cons_zero,List.getElem?_cons_succ,List.set_cons_zero,List.set_cons_succ,List.replicate_succ,List.replicate_zero,Nat.reduceSub,Nat.reduceAdd,if_true,if_false,ite_true,ite_false,Bool.not_true,Bool.not_false,decide_true,decide_false,eq_int,eq_str,cmp_int,cmp_str,dep_int,dep_str,true_and,and_true,Nat.zero_le,List.take_succ_cons,List.take_zero,reduceIte,Bool.false_eq_true,eq_self,List.length_map,V.int.injEq,V.str.injEq,CDiv,Int.reduceLT,Int.zero_add,and_self,List.cons.injEq,D.scr.injEq,D.int.injEq,D.str.injEq,D.tup.injEq,D.lst.injEq,D.bl.injEq,and_assoc,exists_and_left,exists_eq_left,exists_eq_left',map_str_iff,map_int_iff,snoc_str,snoc_int,drop_str,cat_str,cutL_map,Int.reduceLE,Int.le_refl,take_str,dropn_str,atI_lit,atI_neg1,Option.some.injEq,$xs,*])
local macro_rules | `(tactic| dsimp! only [$xs,*])=>`(tactic| ((try dsimp only [vIfS,vBl,vOp,vLt,vLe,vGt,vGe,vI2',vI2,vVar,vF1,vLen,vList,vListD,vTuple,vStr,vRet,vRetO,vRetN,vIxR,vNext,vC,vAdd,vSub,vMul,vDiv,vMod,vPow,vEq,vNe,vSlice,vSlR,vNoPart,vPart,vNeg,vCall,vCallN,vCons,vNil,vTup,vLst,vSet,vSetO,vAppend,ownL,vRetCI,ioL,vInD,vKeys,vMinD,vEq0,vCallF,vFor,vRng1,vRng2,vItems,vComp,vIsin,isTy,vNotT,vAndT,vOrT,vNotE,vAndE,vOrE,vIfE,vAsg,vgName,vgNil,vgCons,vgTup,vFrz,vFrzD,frz,vDrop,vAll,vJoin,vIsN,startD,dV,scal,rd_val,rd_own,rd_peek,rd_exc,pub_val,pub_own,ex_val,ex_own,ex_peek,ex_exc,exA_val,exA_own,exA_peek,exA_exc,exS_val,exS_own,exS_peek,exS_exc,exA_ok,exA_raise,exI_ok,exI_exc,more_ok,more_exc,vRaise,vTry,VEnds.calm,VEnds.wiped,vDGet,vDIn,vDGet1,vDNewT,vDPut,ownT,vSorted,vCalB,scalR,vNeD,vMulS,vIn,vIo,vVarI,vAppendI,vRetI,vCallI,vSetCI,vAsgI,ioOut,startI,List.insertIdx_zero,List.insertIdx_succ_cons,strsOf,Option.map_some,List.map_cons,List.map_nil,List.length_cons,List.length_nil,List.cons_append,List.nil_append,List.getElem?_cons_zero,List.getElem?_cons_succ,List.set_cons_zero,List.set_cons_succ,List.take_succ_cons,List.take_zero,CDiv,$xs,*]); (try simp only [vIfS,vBl,vOp,vLt,vLe,vGt,vGe,vI2',vI2,vVar,vF1,vLen,vList,vListD,vTuple,vStr,vRet,vRetO,vRetN,vIxR,vNext,vC,vAdd,vSub,vMul,vDiv,vMod,vPow,vEq,vNe,vSlice,vSlR,vNoPart,vPart,vNeg,vCall,vCallN,vCons,vNil,vTup,vLst,vSet,vSetO,vAppend,ownL,vRetCI,ioL,vInD,vKeys,vMinD,vEq0,vCallF,vFor,vRng1,vRng2,vItems,vComp,vIsin,isTy,vNotT,vAndT,vOrT,vNotE,vAndE,vOrE,vIfE,vAsg,vgName,vgNil,vgCons,vgTup,vFrz,vFrzD,frz,vDrop,vAll,vJoin,vIsN,startD,dV,scal,rd_val,rd_own,rd_peek,rd_exc,pub_val,pub_own,ex_val,ex_own,ex_peek,ex_exc,exA_val,exA_own,exA_peek,exA_exc,exS_val,exS_own,exS_peek,exS_exc,exA_ok,exA_raise,exI_ok,exI_exc,more_ok,more_exc,vRaise,vTry,VEnds.calm,VEnds.wiped,vDGet,vDIn,vDGet1,vDNewT,vDPut,ownT,vSorted,vCalB,scalR,vNeD,vMulS,vIn,vIo,vVarI,vAppendI,vRetI,vCallI,vSetCI,vAsgI,ioOut,startI,List.insertIdx_zero,List.insertIdx_succ_cons,strsOf,strsOf_map,Option.map_some,List.map_cons,List.map_nil,List.length_cons,List.length_nil,List.cons_append,List.nil_append,List.getElem?_cons_zero,List.getElem?_cons_succ,List.set_cons_zero,List.set_cons_succ,List.replicate_succ,List.replicate_zero,Nat.reduceSub,Nat.reduceAdd,if_true,if_false,ite_true,ite_false,Bool.not_true,Bool.not_false,decide_true,decide_false,eq_int,eq_str,cmp_int,cmp_str,dep_int,dep_str,true_and,and_true,Nat.zero_le,List.take_succ_cons,List.take_zero,reduceIte,Bool.false_eq_true,eq_self,List.length_map,V.int.injEq,V.str.injEq,CDiv,Int.reduceLT,Int.zero_add,and_self,List.cons.injEq,D.scr.injEq,D.int.injEq,D.str.injEq,D.tup.injEq,D.lst.injEq,D.bl.injEq,and_assoc,exists_and_left,exists_eq_left,exists_eq_left',map_str_iff,map_int_iff,snoc_str,snoc_int,drop_str,cat_str,cutL_map,Int.reduceLE,Int.le_refl,take_str,dropn_str,atI_lit,atI_neg1,Option.some.injEq,$xs,*])))
def NS:Str:="abcdefghijklmnopqrstuvwxyz0123456789"
def cellI (ns:List Int) (k:Int):Int:=(ns[k.toNat]?).getD 0
def g_cell_at:DP:=fun ds Q=>∃ ns k,ds=[.scr ns,.int k]∧0≤k∧Q (.val (.int (cellI ns k)))
theorem len_cell_at:∀ ds Q,g_cell_at ds Q→ds.length=2:=by rintro ds Q ⟨_,_,rfl,_⟩; rfl
abbrev En (Q:R→Prop):VEnds:={ nx:=fun _=>Q (.val .non),rt:=Q }
def NmZ (z:Str):Prop:=1≤z.length∧z.length≤12
def Pool (n:Nat) (zs:List Str):Prop:=zs.length≤n∧∀ z∈zs,NmZ z
theorem Pool.more {n m:Nat} {zs:List Str} (h:Pool n zs) (l:n≤m):Pool m zs:=⟨Nat.le_trans h.1 l,h.2⟩
theorem cmpSL (a b:List Str):cmpD (.lst (a.map D.str)) (.lst (b.map D.str))=true:=by
 have h:=cmpW a b
 unfold cmpD at h ⊢
 exact h
theorem depSL (a:List Str):depD (.lst (a.map D.str))≤50:=by
 have h:=depW a
 unfold depD at h ⊢
 exact h
theorem eqSL (a b:List Str):eqD (.lst (a.map D.str)) (.lst (b.map D.str))=decide (a=b):=by
 rw [eqD_lst,← eqD_tup]
 exact eqW a b
def g_big:DP:=fun ds Q=>∃ ns k,ds=[.scr ns,.int k]∧0≤k∧∀ i,Q (.val (.int i))
def g_name_of:DPI:=fun ds ps Q=>∃ b n zs,ds=[.int b]∧ps=zs.map D.str∧n≤9000∧Pool n zs∧∀ (z:Str) (b':Int) (zs':List Str),NmZ z→Pool (n+1) zs'→Q (.val (.tup [.str z,.int b'])) (zs'.map D.str)
def g_signs_of:DP:=fun ds Q=>∃ b m,ds=[.int b,.int m]∧0≤m∧m≤100∧∀ (z:Str) (b':Int),Q (.val (.tup [.str z,.int b']))
def g_words_of:DPI:=fun ds ps Q=>∃ b m n zs,ds=[.int b,.int m]∧ps=zs.map D.str∧0≤m∧m≤5∧n≤8000∧Pool n zs∧∀ (ws:List Str) (b':Int) (zs':List Str),ws.length≤5→(∀ w∈ws,w.length≤12)→Pool (n+5) zs'→Q (.val (.tup [.lst (ws.map D.str),.int b'])) (zs'.map D.str)
def g_text_of:DPI:=fun ds ps Q=>∃ m b n zs,ds=[.str m,.int b]∧ps=zs.map D.str∧n≤8000∧Pool n zs∧∀ (z:Str) (b':Int) (zs':List Str),(m≠mFile→m≠mLink→z=tEmpty)→Pool (n+5) zs'→Q (.val (.tup [.str z,.int b'])) (zs'.map D.str)
theorem line10000:10000≤sizeLine:=by decide
def g_under_shut:DP:=fun ds Q=>∃ rs w,ds=[dictD (rs.map prR),wayD w]∧("" : Str)∉w∧w.length≤1000∧Q (.val (.bl (shutR rs w)))
def PaneG (n:Nat) (p:List Row):Prop:=PaneOk p∧(∀ r∈p,Wy14 r.1)∧bulk p≤n∧p.length≤n+1∧∀ r∈p,r.2.1=mGone∨r.2.1=mShut→hidBy p r.1=false
def PFS (p:List Row):Prop:=∀ r∈p,r.1=[]∨r.1.dropLast=[]∨∃ q∈p,q.1=r.1.dropLast∧FS q.2.1
def TxE (p:List Row):Prop:=∀ r∈p,r.2.1≠mFile→r.2.1≠mLink→r.2.2=tEmpty
def g_pane_of:DPI:=fun ds ps Q=>∃ b m n zs,ds=[.int b,.int m]∧ps=zs.map D.str∧0≤m∧m≤60∧n≤7000∧Pool n zs∧∀ (p:List Row) (zs':List Str),PaneG m.toNat p→PFS p→TxE p→Pool (n+360) zs'→Q (.own (rowsL p)) (zs'.map D.str)
theorem len_under_shut:∀ ds Q,g_under_shut ds Q→ds.length=2:=by rintro ds Q ⟨_,_,rfl,_⟩; rfl
theorem len_pane_of:∀ ds zs Q,g_pane_of ds zs Q→ds.length+1=3:=by rintro ds zs Q ⟨_,_,_,_,rfl,_⟩; rfl
theorem len_big:∀ ds Q,g_big ds Q→ds.length=2:=by rintro ds Q ⟨_,_,rfl,_⟩; rfl
theorem len_name_of:∀ ds zs Q,g_name_of ds zs Q→ds.length+1=2:=by rintro ds zs Q ⟨_,_,_,rfl,_⟩; rfl
theorem len_signs_of:∀ ds Q,g_signs_of ds Q→ds.length=2:=by rintro ds Q ⟨_,_,rfl,_⟩; rfl
theorem len_words_of:∀ ds zs Q,g_words_of ds zs Q→ds.length+1=3:=by rintro ds zs Q ⟨_,_,_,_,rfl,_⟩; rfl
theorem len_text_of:∀ ds zs Q,g_text_of ds zs Q→ds.length+1=3:=by rintro ds zs Q ⟨_,_,_,_,rfl,_⟩; rfl
def g_same:DP:=fun ds Q=>∃ rs:List Row,ds=[rowsL rs,rowsL rs]∧rs.length≤1000∧Q (.val (.bl true))
theorem len_same:∀ ds Q,g_same ds Q→ds.length=2:=by rintro ds Q ⟨_,rfl,_⟩; rfl
theorem frzD_at {i:Nat} {ks:List (List Str)} {ds:List D} {t:TVS} {Dv:VEnds} {τ:VSt} (e:τ[i]?=some (some (.own (.dT ks ds)))) (h:t Dv (τ.set i (some (.peek (.dT ks ds))))):vFrzD i t Dv τ:=by
 unfold vFrzD
 rw [e]
 exact h
theorem v_ifn {t:TVT} {a u:TVS} {Dv:VEnds} {τ:VSt} (P:Bool→Prop) (ht:∀ Y:Bool→Prop,(∀ c,P c→Y c)→t τ Y) (ha:P true→a { nx:=u Dv,rt:=Dv.rt,bk:=Dv.bk,ct:=Dv.ct,xc:=Dv.xc,ro:=Dv.ro } τ) (hb:P false→u Dv τ):vSeq (vIfS t a vNext) u Dv τ:=v_seq (v_if P ht ha hb)
theorem fs_at {α β:Type} {f:α→Option β}:∀ {l:List α} {i:Nat} {x:α} {y:β},l[i]?=some x→(∀ k z,k < i→l[k]?=some z→f z=none)→f x=some y→l.findSome? f=some y
 | [],_,_,_,h,_,_=>by simp at h
 | a :: l,0,x,y,h,_,hx=>by
  have e:a=x:=Option.some.inj (by simpa using h)
  rw [List.findSome?_cons,e,hx]
 | a :: l,i+1,x,y,h,hb,hx=>by
  rw [List.findSome?_cons,hb 0 a (Nat.succ_pos _) rfl]
  exact fs_at (l:=l) (i:=i) (by simpa using h) (fun k z hk hz=>hb (k+1) z (Nat.succ_lt_succ hk) (by simpa using hz)) hx
instance (m:Str):Decidable (FS m):=inferInstanceAs (Decidable (_∨_))
def rowF (p:List Row) (w:List Str):Option Row:=p.find? fun r=>decide (r.1=w)
def prW (r:Row):List Str × D:=(r.1,rowD r)
theorem ways_by (p:List Row):(p.map prW).map (·.1)=p.map (·.1):=by rw [List.map_map]; rfl
def byD (p:List Row):D:=dictD (p.map prW)
theorem lk_by (p:List Row) (w:List Str):lkP (p.map prW) w=(rowF p w).map rowD:=by
 unfold lkP rowF
 rw [List.find?_map,Option.map_map]
 rfl
theorem rowF_mem {p:List Row} {w:List Str} {r:Row} (h:rowF p w=some r):r∈p∧r.1=w:=⟨List.mem_of_find?_eq_some h,by simpa using List.find?_some h⟩
theorem rowF_of {p:List Row} (nd:(p.map (·.1)).Nodup) {r:Row} (h:r∈p):rowF p r.1=some r:=find_one nd h
theorem rowF_none {p:List Row} {w:List Str}:rowF p w=none↔w∉p.map (·.1):=by
 unfold rowF
 rw [List.find?_eq_none]
 constructor
 ·intro h m
  obtain ⟨r,mr,e⟩:=List.mem_map.mp m
  exact h r mr (decide_eq_true e)
 ·intro h r mr z
  exact h (List.mem_map.mpr ⟨r,mr,of_decide_eq_true z⟩)
def leadsW (w:List Str):List (List Str):=(List.range (w.length - 1)).map fun k=>w.take (k+1)
def roads (w:List Str):List (List Str):=[] :: leadsW w
theorem road_at (w:List Str) {k:Nat} (h:k < w.length):(roads w)[k]?=some (w.take k):=by
 cases k with
 | zero=>rfl
 | succ k =>
  show (leadsW w)[k]?=_
  unfold leadsW
  rw [List.getElem?_map,List.getElem?_range (by lia)]
  rfl
theorem road_get {w v:List Str} {k:Nat} (h:(roads w)[k]?=some v):v=w.take k∧(k < w.length∨w=[]):=by
 cases k with
 | zero =>
  cases (show []=v from Option.some.inj h)
  refine ⟨rfl,?_⟩
  cases w with
  | nil=>exact .inr rfl
  | cons a w=>exact .inl (Nat.succ_pos _)
 | succ k =>
  have h':(leadsW w)[k]?=some v:=h
  unfold leadsW at h'
  rw [List.getElem?_map] at h'
  obtain ⟨j,hj,e⟩:=Option.map_eq_some_iff.mp h'
  have lj:=(List.getElem?_eq_some_iff.mp hj).1
  rw [List.length_range] at lj
  rw [List.getElem?_range lj] at hj
  cases hj
  exact ⟨e.symm,.inl (by lia)⟩
def shutAt (p:List Row) (v:List Str):Option Row:=(rowF p v).bind fun q=>if q.2.1=mShut then some q else none
theorem shutAt_some {p:List Row} {v:List Str} {q:Row}:shutAt p v=some q↔rowF p v=some q∧q.2.1=mShut:=by
 unfold shutAt
 cases h:rowF p v with
 | none=>simp
 | some x =>
  simp only [Option.bind_some]
  by_cases z:x.2.1=mShut
  ·rw [if_pos z]
   constructor
   ·intro e
    cases e
    exact ⟨rfl,z⟩
   ·intro e
    exact e.1
  ·rw [if_neg z]
   constructor
   ·intro e
    cases e
   ·intro e
    cases e.1
    exact absurd e.2 z
def shutO (r:Row) (p:List Row):Option Row:=if r.2.1=mGone then none else (roads r.1).findSome? (shutAt p)
def optD (o:Option Row):D:=(o.map rowD).getD .non
def hangR (u l:List Row) (w:List Str):Option (Row × Row) :=
 match rowF u w,rowF l w with
 | some a,some b=>if a=b∨(FS a.2.1∧FS b.2.1) then none else some (a,b)
 | none,some b=>(shutO b u).map fun a=>(a,b)
 | some a,none=>(shutO a l).map fun b=>(a,b)
 | none,none=>none
def pairD (o:Option (Row × Row)):D:=(o.map fun p=>D.tup [rowD p.1,rowD p.2]).getD .non
structure MPn (p:List Row):Prop where
 so:RSorted p
 nm:∀ r∈p,Wy14 r.1
 ns:∀ r∈p,r.2.1=mShut→shutR p r.1=false
 len:p.length≤30
theorem MPn.nd {p:List Row} (h:MPn p):(p.map (·.1)).Nodup:=rsorted_nd h.so
def MeetIs (u l:List Row) (o:Option (Row × Row)):Prop :=
 (o=none∧∀ w,w∈u.map (·.1)∨w∈l.map (·.1)→hangR u l w=none)∨∃ w,(w∈u.map (·.1)∨w∈l.map (·.1))∧o.isSome=true∧hangR u l w=o∧∀ v,v∈u.map (·.1)∨v∈l.map (·.1)→ltW v w=true→hangR u l v=none
theorem MeetIs.one {u l:List Row} {o o':Option (Row × Row)} (h:MeetIs u l o) (h':MeetIs u l o'):o=o':=by
 rcases h with ⟨e,h⟩ | ⟨w,mw,so,hw,h⟩
 ·rcases h' with ⟨e',_⟩ | ⟨w',mw',so',hw',_⟩
  ·rw [e,e']
  ·rw [h w' mw'] at hw'
   rw [← hw'] at so'
   cases so'
 ·rcases h' with ⟨e',h'⟩ | ⟨w',mw',so',hw',h'⟩
  ·rw [h' w mw] at hw
   rw [← hw] at so
   cases so
  ·by_cases e:w=w'
   ·rw [← hw,← hw',e]
   ·rcases ltW_tot e with z | z
    ·rw [h' w mw z] at hw
     rw [← hw] at so
     cases so
    ·rw [h w' mw' z] at hw'
     rw [← hw'] at so'
     cases so'
theorem hang_in {u l:List Row} {w:List Str} {p:Row × Row} (h:hangR u l w=some p):w∈u.map (·.1)∨w∈l.map (·.1):=by
 unfold hangR at h
 cases e1:rowF u w with
 | some a=>exact .inl (by obtain ⟨x,y⟩:=rowF_mem e1; exact List.mem_map.mpr ⟨a,x,y⟩)
 | none =>
  cases e2:rowF l w with
  | some b=>exact .inr (by obtain ⟨x,y⟩:=rowF_mem e2; exact List.mem_map.mpr ⟨b,x,y⟩)
  | none=>rw [e1,e2] at h; cases h
def g_leads:DP:=fun ds Q=>∃ w,ds=[wayD w]∧w.length≤1000∧Q (.own (.lst ((leadsW w).map wayD)))
def g_by_way:DP:=fun ds Q=>∃ p:List Row,ds=[rowsL p]∧(p.map (·.1)).Nodup∧(∀ r∈p,Wy14 r.1)∧p.length≤1000∧Q (.own (byD p))
def g_keys_of:DP:=fun ds Q=>∃ u l:List Row,ds=[byD u,byD l]∧u.length+l.length≤60∧∀ ws:List (List Str),(∀ w,w∈ws↔w∈u.map (·.1)∨w∈l.map (·.1))→ws.Pairwise (fun v w=>ltW v w=true)→Q (.own (.lst (ws.map wayD)))
def g_are_folders:DP:=fun ds Q=>∃ a b:Row,ds=[rowD a,rowD b]∧Q (.val (.bl (decide (FS a.2.1∧FS b.2.1))))
def g_shut_over:DP:=fun ds Q=>∃ (r:Row) (p:List Row),ds=[rowD r,byD p]∧Wy14 r.1∧Q (.val (optD (shutO r p)))
def g_hanging_at:DP:=fun ds Q=>∃ (u l:List Row) (w:List Str),ds=[byD u,byD l,wayD w]∧(∀ r∈u,Wy14 r.1)∧(∀ r∈l,Wy14 r.1)∧(w∈u.map (·.1)∨w∈l.map (·.1))∧Q (.val (pairD (hangR u l w)))
def g_meet:DP:=fun ds Q=>∃ u l:List Row,ds=[rowsL u,rowsL l]∧MPn u∧MPn l∧∀ o,MeetIs u l o→Q (.val (pairD o))
theorem len_leads:∀ ds Q,g_leads ds Q→ds.length=1:=by rintro ds Q ⟨_,rfl,_⟩; rfl
theorem len_by_way:∀ ds Q,g_by_way ds Q→ds.length=1:=by rintro ds Q ⟨_,rfl,_⟩; rfl
theorem len_keys_of:∀ ds Q,g_keys_of ds Q→ds.length=2:=by rintro ds Q ⟨_,_,rfl,_⟩; rfl
theorem len_are_folders:∀ ds Q,g_are_folders ds Q→ds.length=2:=by rintro ds Q ⟨_,_,rfl,_⟩; rfl
theorem len_shut_over:∀ ds Q,g_shut_over ds Q→ds.length=2:=by rintro ds Q ⟨_,_,rfl,_⟩; rfl
theorem len_hanging_at:∀ ds Q,g_hanging_at ds Q→ds.length=3:=by rintro ds Q ⟨_,_,_,rfl,_⟩; rfl
theorem len_meet:∀ ds Q,g_meet ds Q→ds.length=2:=by rintro ds Q ⟨_,_,rfl,_⟩; rfl
def shutsP (a b:Row) (ones:List (List Str)):Bool:=decide (a.2.1=mShut∧b.2.1≠mGone∧a.1.length < b.1.length∧b.1.take a.1.length=a.1∧b.1∉ones)
def hangP (ones twos:List (List Str)) (a b:Row):Bool:=if a.1=b.1 then decide (a≠b∧¬ (FS a.2.1∧FS b.2.1)) else shutsP a b ones || shutsP b a twos
def spotP (a b:Row):List Str:=if a.1.length < b.1.length then b.1 else a.1
theorem any_ways (ones:List (List Str)) (w:List Str):((ones.map wayD).any fun e=>eqD e (wayD w))=decide (w∈ones):=by
 rw [List.any_map]
 apply Bool.eq_iff_iff.mpr
 rw [List.any_eq_true]
 constructor
 ·rintro ⟨v,mv,e⟩
  have e':eqD (.tup (v.map D.str)) (.tup (w.map D.str))=true:=e
  rw [eqW] at e'
  exact decide_eq_true (by rw [← of_decide_eq_true e']; exact mv)
 ·intro h
  refine ⟨w,of_decide_eq_true h,?_⟩
  show eqD (.tup (w.map D.str)) (.tup (w.map D.str))=true
  rw [eqW]
  exact decide_eq_true rfl
theorem shut_one {p:List Row} (P:MPn p) {w:List Str} {j k:Nat} (hk:k < w.length) (jk:j < k) {q q':Row} (h:shutAt p (w.take j)=some q) (h':shutAt p (w.take k)=some q'):False:=by
 obtain ⟨a1,a2⟩:=shutAt_some.mp h
 obtain ⟨b1,b2⟩:=shutAt_some.mp h'
 obtain ⟨a3,a4⟩:=rowF_mem a1
 obtain ⟨b3,b4⟩:=rowF_mem b1
 have:=P.ns q' b3 b2
 unfold shutR at this
 rw [List.any_eq_false] at this
 have lk:q'.1.length=k:=by rw [b4,List.length_take]; lia
 refine this j (List.mem_range.mpr (by lia)) (decide_eq_true ?_)
 rw [b4,List.take_take,Nat.min_eq_left (by lia)]
 have:=markR_mem P.nd a3
 rw [a4,a2] at this
 exact this
theorem shutO_of {p:List Row} (P:MPn p) {b a:Row} (ma:a∈p) (h:shutsP a b (p.map (·.1))=true):shutO b p=some a:=by
 obtain ⟨h1,h2,h3,h4,h5⟩:=of_decide_eq_true h
 have sa:shutAt p (b.1.take a.1.length)=some a:=shutAt_some.mpr ⟨by rw [h4]; exact rowF_of P.nd ma,h1⟩
 unfold shutO
 rw [if_neg h2]
 refine fs_at (road_at b.1 h3) (fun k z hk hz=>?_) sa
 obtain ⟨ez,_⟩:=road_get hz
 cases e:shutAt p z with
 | none=>rfl
 | some q =>
  rw [ez] at e
  exact (shut_one P h3 hk e sa).elim
theorem shutO_to {p:List Row} {b a:Row} (nb:b.1∉p.map (·.1)) (h:shutO b p=some a):a∈p∧shutsP a b (p.map (·.1))=true:=by
 unfold shutO at h
 by_cases g:b.2.1=mGone
 ·rw [if_pos g] at h
  cases h
 ·rw [if_neg g] at h
  obtain ⟨v,mv,hv⟩:=List.exists_of_findSome?_eq_some h
  obtain ⟨h1,h2⟩:=shutAt_some.mp hv
  obtain ⟨ma,ea⟩:=rowF_mem h1
  obtain ⟨k,hk⟩:=List.mem_iff_getElem?.mp mv
  obtain ⟨ev,z⟩:=road_get hk
  have lk:k < b.1.length:=by
   rcases z with z | z
   ·exact z
   ·exfalso
    apply nb
    rw [z]
    rw [z] at ev
    rw [ev] at ea
    exact List.mem_map.mpr ⟨a,ma,by rw [ea]; simp⟩
  have la:a.1.length=k:=by rw [ea,ev,List.length_take]; lia
  exact ⟨ma,decide_eq_true ⟨h2,g,by lia,by rw [la,ea,ev],nb⟩⟩
theorem hang_to {u l:List Row} (U:MPn u) (L:MPn l) {a b:Row} (ma:a∈u) (mb:b∈l) (h:hangP (u.map (·.1)) (l.map (·.1)) a b=true):hangR u l (spotP a b)=some (a,b):=by
 unfold hangP at h
 by_cases e:a.1=b.1
 ·rw [if_pos e] at h
  obtain ⟨h1,h2⟩:=of_decide_eq_true h
  have es:spotP a b=a.1:=by
   unfold spotP
   rw [if_neg (by rw [e]; lia)]
  rw [es]
  unfold hangR
  rw [rowF_of U.nd ma]
  rw [show rowF l a.1=some b by rw [e]; exact rowF_of L.nd mb]
  dsimp only
  rw [if_neg (fun z=>z.elim h1 h2)]
 ·rw [if_neg e] at h
  rcases Bool.or_eq_true_iff.mp h with h | h
  ·obtain ⟨_,_,h3,_,h5⟩:=of_decide_eq_true h
   have es:spotP a b=b.1:=by
    unfold spotP
    rw [if_pos h3]
   rw [es]
   unfold hangR
   rw [rowF_of L.nd mb,rowF_none.mpr h5]
   dsimp only
   rw [shutO_of U ma h]
   rfl
  ·obtain ⟨_,_,h3,_,h5⟩:=of_decide_eq_true h
   have es:spotP a b=a.1:=by
    unfold spotP
    rw [if_neg (by lia)]
   rw [es]
   unfold hangR
   rw [rowF_of U.nd ma,rowF_none.mpr h5]
   dsimp only
   rw [shutO_of L mb h]
   rfl
theorem hang_from {u l:List Row} {w:List Str} {a b:Row} (h:hangR u l w=some (a,b)):a∈u∧b∈l∧hangP (u.map (·.1)) (l.map (·.1)) a b=true∧spotP a b=w:=by
 unfold hangR at h
 cases e1:rowF u w with
 | some x =>
  obtain ⟨mx,ex⟩:=rowF_mem e1
  cases e2:rowF l w with
  | some y =>
   obtain ⟨my,ey⟩:=rowF_mem e2
   rw [e1,e2] at h
   dsimp only at h
   by_cases z:x=y∨(FS x.2.1∧FS y.2.1)
   ·rw [if_pos z] at h
    cases h
   ·rw [if_neg z] at h
    cases h
    refine ⟨mx,my,?_,?_⟩
    ·unfold hangP
     rw [if_pos (ex.trans ey.symm)]
     exact decide_eq_true ⟨fun q=>z (.inl q),fun q=>z (.inr q)⟩
    ·unfold spotP
     rw [if_neg (by rw [ex,ey]; lia)]
     exact ex
  | none =>
   rw [e1,e2] at h
   dsimp only at h
   obtain ⟨y,hy,e⟩:=Option.map_eq_some_iff.mp h
   cases e
   have nb:a.1∉l.map (·.1):=by rw [ex]; exact rowF_none.mp e2
   obtain ⟨my,hs⟩:=shutO_to nb hy
   obtain ⟨_,_,h3,_,_⟩:=of_decide_eq_true hs
   refine ⟨mx,my,?_,?_⟩
   ·unfold hangP
    rw [if_neg (fun q=>by rw [q] at h3; lia),hs,Bool.or_true]
   ·unfold spotP
    rw [if_neg (by lia)]
    exact ex
 | none =>
  cases e2:rowF l w with
  | some y =>
   obtain ⟨my,ey⟩:=rowF_mem e2
   rw [e1,e2] at h
   dsimp only at h
   obtain ⟨x,hx,e⟩:=Option.map_eq_some_iff.mp h
   cases e
   have nb:b.1∉u.map (·.1):=by rw [ey]; exact rowF_none.mp e1
   obtain ⟨mx,hs⟩:=shutO_to nb hx
   obtain ⟨_,_,h3,_,_⟩:=of_decide_eq_true hs
   refine ⟨mx,my,?_,?_⟩
   ·unfold hangP
    rw [if_neg (fun q=>by rw [q] at h3; lia),hs,Bool.true_or]
   ·unfold spotP
    rw [if_pos h3]
    exact ey
  | none =>
   rw [e1,e2] at h
   cases h
def g_shuts:DP:=fun ds Q=>∃ (a b:Row) (ones:List (List Str)),ds=[rowD a,rowD b,.lst (ones.map wayD)]∧Wy14 a.1∧Wy14 b.1∧Q (.val (.bl (shutsP a b ones)))
def g_hang:DP:=fun ds Q=>∃ (a b:Row) (ones twos:List (List Str)),ds=[rowD a,rowD b,.lst (ones.map wayD),.lst (twos.map wayD)]∧Wy14 a.1∧Wy14 b.1∧Q (.val (.bl (hangP ones twos a b)))
def g_met:DP:=fun ds Q=>∃ u l:List Row,ds=[rowsL u,rowsL l]∧MPn u∧MPn l∧∀ o,MeetIs u l o→Q (.val (pairD o))
def g_pair_alike:DP:=fun ds Q=>∃ o,ds=[pairD o,pairD o]∧Q (.val (.bl true))
theorem len_shuts:∀ ds Q,g_shuts ds Q→ds.length=3:=by rintro ds Q ⟨_,_,_,rfl,_⟩; rfl
theorem len_hang:∀ ds Q,g_hang ds Q→ds.length=4:=by rintro ds Q ⟨_,_,_,_,rfl,_⟩; rfl
theorem len_met:∀ ds Q,g_met ds Q→ds.length=2:=by rintro ds Q ⟨_,_,rfl,_⟩; rfl
theorem len_pair_alike:∀ ds Q,g_pair_alike ds Q→ds.length=2:=by rintro ds Q ⟨_,rfl,_⟩; rfl
def g_near_mark:DP:=fun ds Q=>∃ (r:Row) (t:Int),ds=[rowD r,.int t]∧0≤t∧∀ m:Str,Q (.val (.str m))
def g_near_pane:DP:=fun ds Q=>∃ (p:List Row) (b:Int),ds=[rowsL p,.int b]∧MPn p∧∀ q,MPn q→Q (.own (rowsL q))
theorem len_near_mark:∀ ds Q,g_near_mark ds Q→ds.length=2:=by rintro ds Q ⟨_,_,rfl,_⟩; rfl
theorem len_near_pane:∀ ds Q,g_near_pane ds Q→ds.length=2:=by rintro ds Q ⟨_,_,rfl,_⟩; rfl
structure NKept (ws:List (List Str)) (ks:List Row):Prop where
 sub:(ks.map (·.1)).Sublist ws
 ns:∀ r∈ks,r.2.1=mShut→shutR ks r.1=false
theorem NKept.stay {ws:List (List Str)} {ks:List Row} (h:NKept ws ks) (w:List Str):NKept (ws++[w]) ks:=⟨h.sub.trans (List.sublist_append_left _ _),h.ns⟩
theorem ltW_take {w:List Str} {k:Nat} (h:k < w.length):ltW (w.take k) w=true:=by
 have go:∀ n,∀ v:List Str,v.length=k+1+n→ltW (v.take k) v=true:=fun n=>by
  induction n with
  | zero =>
   intro v hv
   have ne:v≠[]:=fun z=>by rw [z] at hv; simp at hv
   have:=ltW_drop ne
   rw [List.dropLast_eq_take,show v.length - 1=k by lia] at this
   exact this
  | succ n ih =>
   intro v hv
   have ne:v≠[]:=fun z=>by rw [z] at hv; simp at hv
   have h1:=ih v.dropLast (by rw [List.length_dropLast]; lia)
   have h2:=ltW_drop ne
   rw [List.dropLast_eq_take,List.take_take,Nat.min_eq_left (by lia),← List.dropLast_eq_take] at h1
   exact ltW_tr h1 h2
 exact go (w.length - (k+1)) w (by lia)
theorem shut_more {ks:List Row} {r:Row} {w:List Str} (h:ltW w r.1=true∨w=r.1):shutR (ks++[r]) w=shutR ks w:=by
 unfold shutR
 refine any_congr fun k hk=>?_
 have lk:=List.mem_range.mp hk
 rw [markR_snoc]
 intro e
 have:=ltW_take lk
 rw [← e] at this
 rcases h with h | h
 ·rw [ltW_as h] at this
  cases this
 ·rw [h,ltW_ir] at this
  cases this
theorem NKept.put {ws:List (List Str)} {ks:List Row} (h:NKept ws ks) {r:Row} (hl:∀ w∈ws,ltW w r.1=true) (hs:r.2.1=mShut→shutR ks r.1=false):NKept (ws++[r.1]) (ks++[r]):=by
 refine ⟨?_,fun q hq=>?_⟩
 ·rw [List.map_append]
  exact h.sub.append (.refl _)
 ·rcases List.mem_append.mp hq with hq | hq
  ·intro z
   rw [shut_more (.inl (hl _ (h.sub.mem (List.mem_map.mpr ⟨q,hq,rfl⟩))))]
   exact h.ns q hq z
  ·rw [List.mem_singleton.mp hq]
   intro z
   rw [shut_more (.inr rfl)]
   exact hs z
def g_upper_of:DPI:=fun ds ps Q=>∃ (l:List Row) (x y:Int) (zs:List Str),ds=[rowsL l,.int x,.int y]∧ps=zs.map D.str∧MPn l∧Pool 360 zs∧∀ (p:List Row) (zs':List Str),MPn p→Q (.own (rowsL p)) (zs'.map D.str)∧Q (.val (rowsL p)) (zs'.map D.str)
theorem len_upper_of:∀ ds zs Q,g_upper_of ds zs Q→ds.length+1=4:=by rintro ds zs Q ⟨_,_,_,_,rfl,_⟩; rfl
theorem pane_mp {p:List Row} (h:PaneG 21 p):MPn p:=by
 obtain ⟨a1,a2,a3,a4,a5⟩:=h
 refine ⟨a1.so,a2,fun r hr z=>?_,by lia⟩
 have:=a5 r hr (.inr z)
 unfold hidBy at this
 unfold shutR
 rw [List.any_eq_false] at this ⊢
 intro k hk q
 have e:=of_decide_eq_true q
 have:=this k hk
 rw [e] at this
 exact this (by decide +kernel)
def g_law:DP:=fun ds Q=>∃ ns,ds=[.scr ns]∧Q (.val (.bl true))
theorem len_law:∀ ds Q,g_law ds Q→ds.length=1:=by rintro ds Q ⟨_,rfl,_⟩; rfl
def b_leads:TVS:=(vRet (vComp (vRng2 (vC (.int 1)) (vF1 vLen (vVar 0))) (vgName 1) (fun _ Q=>Q true) (vSlice (vVar 0) vNoPart (vPart (vVar 1))) 1))
abbrev N_leads:List Str:=["way"]
theorem w_leads:∀ ds Q,g_leads ds Q→b_leads (En Q) (startD N_leads ds):=by
 rintro ds Q ⟨w,rfl,hl,h⟩
 have s1000:=line10000
 simp! only [b_leads,wayD]
 have e:rngL 1 ((w.length:Int) - 1).toNat=(List.range (w.length - 1)).map fun (k:Nat)=>D.int (1+(k:Int)):=by
  unfold rngL
  rw [show ((w.length:Int) - 1).toNat=w.length - 1 by lia]
 rw [e]
 refine ⟨by decide,by decide,by lia,by lia,?_⟩
 refine L2.comp_map (fun k=>wayD (w.take (k+1))) (List.range (w.length - 1)) (by rw [List.length_range]; lia) (fun k mk Y N hY=>?_) ?_
 ·simp! only [true_and]
  rw [show (1:Int)+(k:Int)=((k+1:Nat):Int) by lia]
  simp only [cutL_take]
  exact hY
 ·simp! only [true_and]
  have:(List.range (w.length - 1)).map (fun k=>wayD (w.take (k+1)))=(leadsW w).map wayD:=by
   unfold leadsW
   rw [List.map_map]
   rfl
  rw [this]
  exact h
def b_by_way:TVS:=(vSeq (vSetO 1 vDNewT)
 (vSeq (vFor (vItems (vVar 0)) (vgName 2)
  (vDPut 1 (vOp vIxR (vVar 2) (vC (.int 0))) (vVar 2)))
 (vRetO 1)))
abbrev N_by_way:List Str:=["entries","found","entry"]
theorem w_by_way:∀ ds Q,g_by_way ds Q→b_by_way (En Q) (startD N_by_way ds):=by
 rintro ds Q ⟨p,rfl,nd,nm,hl,h⟩
 have s1000:=line10000
 refine v_cut (fun τ=>τ=[some (.val (rowsL p)),some (.own (byD [])),none]) ?_ fun nx hnx=>?now
 case now =>
  dsimp! only [true_and]
  exact hnx _ rfl
 rintro τ rfl
 refine v_cut (fun τ=>∃ x,τ=[some (.val (rowsL p)),some (.own (byD p)),x]) ?_ fun nx hnx=>?now
 case now =>
  dsimp! only [rowsL]
  refine for_map (fun i τ=>∃ x,τ=[some (.val (rowsL p)),some (.own (byD (p.take i))),x]) ⟨none,rfl⟩ ?_ ?_
  ·rintro i r τ hr ⟨x,rfl⟩ nx2 hnx2
   have mr:=List.mem_of_getElem? hr
   have et:p.take (i+1)=p.take i++[r]:=by rw [List.take_succ,hr]; rfl
   have tl:(p.take i).length≤1000:=by rw [List.length_take]; lia
   dsimp! only [rowD,byD,dictD,wayD]
   refine ⟨(nm r mr).ok.ne,by lia,?_⟩
   rw [putD_pairs]
   have e:insP ((p.take i).map prW) r.1 (rowD r)=(p.take (i+1)).map prW:=by
    unfold insP
    have nk:r.1∉((p.take i).map prW).map (·.1):=by
     rw [ways_by]
     exact take_new nd hr
    rw [if_neg nk,et,List.map_append]
    rfl
   have e':insP ((p.take i).map prW) r.1 (.tup [.tup (r.1.map D.str),.str r.2.1,.str r.2.2])=(p.take (i+1)).map prW:=e
   rw [e']
   exact hnx2 _ ⟨_,rfl⟩
  ·rintro τ ⟨x,rfl⟩
   rw [List.take_length]
   exact hnx _ ⟨x,rfl⟩
 rintro τ ⟨x,rfl⟩
 simp! only [true_and]
 exact h
def b_keys_of:TVS:=(vRet (vKeys 0 1))
abbrev N_keys_of:List Str:=["one","other"]
theorem w_keys_of:∀ ds Q,g_keys_of ds Q→b_keys_of (En Q) (startD N_keys_of ds):=by
 rintro ds Q ⟨u,l,rfl,hl,h⟩
 simp! only [b_keys_of,byD,dictD]
 simp only [ways_by]
 refine ⟨hl,fun ws h1 h2=>?_⟩
 exact h ws h1 h2
def b_are_folders:TVS:=(vRet (vAndE (vOp (vIn id) (vOp vIxR (vVar 0) (vC (.int 1))) (vTup (vCons (vC (.str ("folder" : Str))) (vCons (vC (.str ("shut" : Str))) vNil)))) (vOp (vIn id) (vOp vIxR (vVar 1) (vC (.int 1))) (vTup (vCons (vC (.str ("folder" : Str))) (vCons (vC (.str ("shut" : Str))) vNil))))))
abbrev N_are_folders:List Str:=["one","other"]
theorem w_are_folders:∀ ds Q,g_are_folders ds Q→b_are_folders (En Q) (startD N_are_folders ds):=by
 rintro ds Q ⟨a,b,rfl,h⟩
 have fs:∀ m:Str,decide (m∈[Str.ofString "folder",Str.ofString "shut"])=decide (FS m):=fun m=>by
  apply decide_eq_decide.mpr
  simp only [List.mem_cons,List.not_mem_nil,or_false]
  exact Iff.rfl
 simp! only [b_are_folders,rowD]
 refine ⟨by decide,?_⟩
 rw [fs a.2.1]
 by_cases ha:FS a.2.1
 ·rw [decide_eq_true ha]
  refine iteT ⟨by decide,?_⟩
  rw [fs b.2.1]
  have e:decide (FS a.2.1∧FS b.2.1)=decide (FS b.2.1):=decide_eq_decide.mpr ⟨fun z=>z.2,fun z=>⟨ha,z⟩⟩
  rw [e] at h
  exact h
 ·rw [decide_eq_false ha]
  have e:decide (FS a.2.1∧FS b.2.1)=false:=decide_eq_false fun z=>ha z.1
  rw [e] at h
  exact iteF h
def b_shut_over:TVS:=(vSeq (vIfS (vBl (vOp vEq (vOp vIxR (vVar 0) (vC (.int 1))) (vC (.str ("gone" : Str)))))
  (vRet (vC .non))
  vNext)
 (vSeq (vFor (vItems (vOp vAdd (vLst (vCons (vTup vNil) vNil)) (vCallN g_leads (vCons (vOp vIxR (vVar 0) (vC (.int 0))) vNil)))) (vgName 2)
  (vIfS (vAndT (vBl (vDIn id (vVar 2) (vVar 1))) (vBl (vOp vEq (vOp vIxR (vDGet (vVar 1) (vVar 2)) (vC (.int 1))) (vC (.str ("shut" : Str))))))
  (vRet (vDGet (vVar 1) (vVar 2)))
  vNext))
 (vRet (vC .non))))
abbrev N_shut_over:List Str:=["entry","pane","way"]
theorem w_shut_over:∀ ds Q,g_shut_over ds Q→b_shut_over (En Q) (startD N_shut_over ds):=by
 rintro ds Q ⟨r,p,rfl,w14,h⟩
 have s1000:=line10000
 have wl:=w14.1
 refine v_ifn (fun b=>b=decide (r.2.1=mGone)) (fun Y y=>?test) (fun hb=>?yes) fun hb=>?rest
 case test =>
  dsimp! only [rowD]
  exact y _ rfl
 case yes =>
  have e:shutO r p=none:=by
   unfold shutO
   rw [if_pos (of_decide_eq_true hb.symm)]
  rw [e] at h
  simp! only [true_and]
  exact h
 have ng:r.2.1≠mGone:=of_decide_eq_false hb.symm
 have es:shutO r p=(roads r.1).findSome? (shutAt p):=by
  unfold shutO
  rw [if_neg ng]
 refine v_cut (fun τ=>(∀ v∈roads r.1,shutAt p v=none)∧∃ x,τ=[some (.val (rowD r)),some (.val (byD p)),x]) ?_ fun nx hnx=>?now
 case now =>
  have ld:∀ Y:R→Prop,Y (.own (.lst ((leadsW r.1).map wayD)))→g_leads [wayD r.1] Y:=fun Y y=>⟨r.1,rfl,by lia,y⟩
  dsimp! only [rowD,wayD]
  refine ⟨by decide,ld _ ?_⟩
  dsimp! only [true_and]
  have e1:D.tup [] :: (leadsW r.1).map wayD=(roads r.1).map wayD:=rfl
  have ll:(leadsW r.1).length≤14:=by
   unfold leadsW
   rw [List.length_map,List.length_range]
   lia
  rw [e1]
  refine ⟨by lia,for_map (fun i τ=>(∀ k v,k < i→(roads r.1)[k]?=some v→shutAt p v=none)∧∃ x,τ=[some (.val (rowD r)),some (.val (byD p)),x]) ⟨fun k v hk=>absurd hk (Nat.not_lt_zero _),none,rfl⟩ ?_ ?_⟩
  ·rintro i v τ hv ⟨hb,x,rfl⟩ nx2 hnx2
   obtain ⟨ev,_⟩:=road_get hv
   have wk:("" : Str)∉v:=by rw [ev]; exact fun m=>w14.ok.ne (List.mem_of_mem_take m)
   have go:shutAt p v=none→∀ x,nx2 [some (.val (rowD r)),some (.val (byD p)),x]:=fun z x=>hnx2 _ ⟨fun k v' hk hv'=>by
    rcases Nat.lt_or_ge k i with q | q
    ·exact hb k v' q hv'
    ·have:k=i:=by lia
     rw [this,hv] at hv'
     cases hv'
     exact z,x,rfl⟩
   have lk:=lk_by p v
   dsimp! only [byD,dictD,wayD]
   refine ⟨wk,?_⟩
   rw [lkD_pairs,lk]
   cases e:rowF p v with
   | none=>exact iteF (go (by unfold shutAt; rw [e]; rfl) _)
   | some q =>
    refine iteT ⟨wk,rowD q,rfl,?_⟩
    dsimp! only [rowD]
    by_cases z:q.2.1=mShut
    ·rw [decide_eq_true z]
     refine iteT ?_
     have sa:shutAt p v=some q:=shutAt_some.mpr ⟨e,z⟩
     have:shutO r p=some q:=by rw [es]; exact fs_at hv hb sa
     rw [this] at h
     exact ⟨wk,h⟩
    ·rw [decide_eq_false z]
     exact iteF (go (by unfold shutAt; rw [e]; exact if_neg z) _)
  ·rintro τ ⟨hb,x,rfl⟩
   exact hnx _ ⟨fun v mv=>by
    obtain ⟨k,hk⟩:=List.mem_iff_getElem?.mp mv
    exact hb k v (List.getElem?_eq_some_iff.mp hk).1 hk,x,rfl⟩
 rintro τ ⟨hn,x,rfl⟩
 have e:shutO r p=none:=by
  rw [es,List.findSome?_eq_none_iff]
  exact hn
 rw [e] at h
 simp! only [true_and]
 exact h
def b_hanging_at:TVS:=(vSeq (vSet 3 (vDGet1 (vVar 0) (vVar 2)))
 (vSeq (vSet 4 (vDGet1 (vVar 1) (vVar 2)))
 (vSeq (vIfS (vBl (vOp (vIsN id) (vVar 3) (vC .non)))
  (vSet 3 (vCallN g_shut_over (vCons (vVar 4) (vCons (vVar 0) vNil))))
  (vIfS (vBl (vOp (vIsN id) (vVar 4) (vC .non)))
  (vSet 4 (vCallN g_shut_over (vCons (vVar 3) (vCons (vVar 1) vNil))))
  (vIfS (vOrT (vBl (vOp vEq (vVar 3) (vVar 4))) (vBl (vCallN g_are_folders (vCons (vVar 3) (vCons (vVar 4) vNil)))))
  (vRet (vC .non))
  vNext)))
 (vRet (vIfE (vOrT (vBl (vOp (vIsN id) (vVar 3) (vC .non))) (vBl (vOp (vIsN id) (vVar 4) (vC .non)))) (vC .non) (vTup (vCons (vVar 3) (vCons (vVar 4) vNil))))))))
abbrev N_hanging_at:List Str:=["upper","lower","way","one","other"]
theorem w_hanging_at:∀ ds Q,g_hanging_at ds Q→b_hanging_at (En Q) (startD N_hanging_at ds):=by
 rintro ds Q ⟨u,l,w,rfl,nu,nl,mw,h⟩
 have s1000:=line10000
 have w14:Wy14 w:=by
  rcases mw with m | m
  ·obtain ⟨r,mr,e⟩:=List.mem_map.mp m
   rw [← e]; exact nu r mr
  ·obtain ⟨r,mr,e⟩:=List.mem_map.mp m
   rw [← e]; exact nl r mr
 have lk:∀ p:List Row,lkD ((p.map prW).map (·.1)) ((p.map prW).map (·.2)) w=(rowF p w).map rowD:=fun p=>by rw [lkD_pairs,lk_by]
 refine v_cut (fun τ=>τ=[some (.val (byD u)),some (.val (byD l)),some (.val (wayD w)),some (.val (optD (rowF u w))),none]) ?_ fun nx hnx=>?now
 case now =>
  dsimp! only [byD,dictD,wayD]
  refine ⟨w14.ok.ne,?_⟩
  rw [lk]
  exact hnx _ rfl
 rintro τ rfl
 refine v_cut (fun τ=>τ=[some (.val (byD u)),some (.val (byD l)),some (.val (wayD w)),some (.val (optD (rowF u w))),some (.val (optD (rowF l w)))]) ?_ fun nx hnx=>?now
 case now =>
  dsimp! only [byD,dictD,wayD]
  refine ⟨w14.ok.ne,?_⟩
  rw [lk]
  exact hnx _ rfl
 rintro τ rfl
 have fin:∀ a b:Option Row,hangR u l w=(a.bind fun a=>b.map fun b=>(a,b))→vRet (vIfE (vOrT (vBl (vOp (vIsN id) (vVar 3) (vC .non))) (vBl (vOp (vIsN id) (vVar 4) (vC .non)))) (vC .non) (vTup (vCons (vVar 3) (vCons (vVar 4) vNil)))) (En Q) [some (.val (byD u)),some (.val (byD l)),some (.val (wayD w)),some (.val (optD a)),some (.val (optD b))]:=fun a b e=>by
  rw [e] at h
  cases a with
  | none =>
   dsimp! only [optD]
   exact h
  | some a =>
   cases b with
   | none =>
    dsimp! only [optD,rowD]
    exact h
   | some b =>
    dsimp! only [optD,rowD]
    exact ⟨by decide,h⟩
 have so:∀ (r:Row) (p:List Row) (Y:R→Prop),Wy14 r.1→Y (.val (optD (shutO r p)))→g_shut_over [rowD r,byD p] Y:=fun r p Y w y=>⟨r,p,rfl,w,y⟩
 refine v_cut (fun τ=>∃ a b,hangR u l w=(a.bind fun a=>b.map fun b=>(a,b))∧τ=[some (.val (byD u)),some (.val (byD l)),some (.val (wayD w)),some (.val (optD a)),some (.val (optD b))]) ?_ fun nx hnx=>?now
 case now =>
  cases e1:rowF u w with
  | none =>
   cases e2:rowF l w with
   | none =>
    exfalso
    rcases mw with m | m
    ·exact rowF_none.mp e1 m
    ·exact rowF_none.mp e2 m
   | some b =>
    obtain ⟨mb,eb⟩:=rowF_mem e2
    have eo:optD (some b)=rowD b:=rfl
    dsimp! only [show optD none=D.non from rfl]
    rw [eo]
    refine iteT (so b u _ (nl b mb) ?_)
    dsimp! only [true_and]
    refine hnx _ ⟨shutO b u,some b,?_,rfl⟩
    unfold hangR
    rw [e1,e2]
    dsimp only
    cases shutO b u <;> rfl
  | some a =>
   obtain ⟨ma,ea⟩:=rowF_mem e1
   have eo:optD (some a)=rowD a:=rfl
   cases e2:rowF l w with
   | none =>
    dsimp! only [show optD none=D.non from rfl]
    rw [eo]
    refine iteF (iteT (so a l _ (nu a ma) ?_))
    dsimp! only [true_and]
    refine hnx _ ⟨some a,shutO a l,?_,rfl⟩
    unfold hangR
    rw [e1,e2]
    dsimp only
    cases shutO a l <;> rfl
   | some b =>
    have eob:optD (some b)=rowD b:=rfl
    have af:∀ Y:R→Prop,Y (.val (.bl (decide (FS a.2.1∧FS b.2.1))))→g_are_folders [rowD a,rowD b] Y:=fun Y y=>⟨a,b,rfl,y⟩
    have hr:hangR u l w=if a=b∨(FS a.2.1∧FS b.2.1) then none else some (a,b):=by
     unfold hangR
     rw [e1,e2]
    dsimp! only [true_and]
    rw [eo,eob]
    refine iteF (iteF ⟨cmpR a b,Nat.le_trans (depR a) (by decide),?_⟩)
    rw [eqR]
    by_cases z:a=b
    ·rw [decide_eq_true z]
     rw [if_pos (.inl z)] at hr
     rw [hr] at h
     exact iteT h
    ·rw [decide_eq_false z]
     refine iteF (af _ ?_)
     dsimp! only [true_and]
     by_cases y:FS a.2.1∧FS b.2.1
     ·rw [decide_eq_true y]
      rw [if_pos (.inr y)] at hr
      rw [hr] at h
      exact iteT h
     ·rw [decide_eq_false y]
      rw [if_neg (fun q=>q.elim z y)] at hr
      exact iteF (hnx _ ⟨some a,some b,hr,rfl⟩)
 rintro τ ⟨a,b,e,rfl⟩
 exact fin a b e
def b_meet:TVS:=(vSeq (vSetO 2 (vCallN g_by_way (vCons (vVar 0) vNil)))
 (vSeq (vSetO 3 (vCallN g_by_way (vCons (vVar 1) vNil)))
 (vFrzD 3 (vFrzD 2 (vSeq (vFor (vItems (vCallN g_keys_of (vCons (vVar 2) (vCons (vVar 3) vNil)))) (vgName 4)
  (vSeq (vSet 5 (vCallN g_hanging_at (vCons (vVar 2) (vCons (vVar 3) (vCons (vVar 4) vNil)))))
 (vIfS (vBl (vOp (vIsN (!·)) (vVar 5) (vC .non)))
  (vRet (vVar 5))
  vNext)))
 (vRet (vC .non)))))))
abbrev N_meet:List Str:=["upper","lower","uppers","lowers","way","pair"]
theorem w_meet:∀ ds Q,g_meet ds Q→b_meet (En Q) (startD N_meet ds):=by
 rintro ds Q ⟨u,l,rfl,U,L,h⟩
 have s1000:=line10000
 have ul:=U.len
 have ll:=L.len
 have bw:∀ (p:List Row) (Y:R→Prop),MPn p→Y (.own (byD p))→g_by_way [rowsL p] Y:=fun p Y P y=>⟨p,rfl,P.nd,P.nm,by have:=P.len; lia,y⟩
 refine v_cut (fun τ=>τ=[some (.val (rowsL u)),some (.val (rowsL l)),some (.own (byD u)),none,none,none]) ?_ fun nx hnx=>?now
 case now =>
  dsimp! only [true_and]
  refine bw u _ U ?_
  dsimp! only [true_and]
  exact hnx _ rfl
 rintro τ rfl
 refine v_cut (fun τ=>τ=[some (.val (rowsL u)),some (.val (rowsL l)),some (.own (byD u)),some (.own (byD l)),none,none]) ?_ fun nx hnx=>?now
 case now =>
  dsimp! only [true_and]
  refine bw l _ L ?_
  dsimp! only [true_and]
  exact hnx _ rfl
 rintro τ rfl
 refine frzD_at (i:=3) rfl (frzD_at (i:=2) rfl ?_)
 show vSeq _ _ _ [some (.val (rowsL u)),some (.val (rowsL l)),some (.peek (byD u)),some (.peek (byD l)),none,none]
 refine v_cut (fun τ=>(∀ w,w∈u.map (·.1)∨w∈l.map (·.1)→hangR u l w=none)∧∃ x y,τ=[some (.val (rowsL u)),some (.val (rowsL l)),some (.peek (byD u)),some (.peek (byD l)),x,y]) ?_ fun nx hnx=>?now
 case now =>
  have ko:∀ Y:R→Prop,(∀ ws:List (List Str),(∀ w,w∈ws↔w∈u.map (·.1)∨w∈l.map (·.1))→ws.Pairwise (fun v w=>ltW v w=true)→Y (.own (.lst (ws.map wayD))))→g_keys_of [byD u,byD l] Y:=fun Y y=>⟨u,l,rfl,by lia,y⟩
  dsimp! only [true_and]
  refine ko _ fun ws hi hs=>?_
  dsimp! only [true_and]
  refine for_map (fun i τ=>(∀ k w,k < i→ws[k]?=some w→hangR u l w=none)∧∃ x y,τ=[some (.val (rowsL u)),some (.val (rowsL l)),some (.peek (byD u)),some (.peek (byD l)),x,y]) ⟨fun k v hk=>absurd hk (Nat.not_lt_zero _),none,none,rfl⟩ ?_ ?_
  ·rintro i w τ hw ⟨hb,x,y,rfl⟩ nx2 hnx2
   have mw:=(hi w).mp (List.mem_of_getElem? hw)
   have ha:∀ Y:R→Prop,Y (.val (pairD (hangR u l w)))→g_hanging_at [byD u,byD l,wayD w] Y:=fun Y y=>⟨u,l,w,rfl,U.nm,L.nm,mw,y⟩
   dsimp! only [true_and]
   refine v_seq ?_
   dsimp! only [true_and]
   refine ha _ ?_
   dsimp! only [true_and]
   cases e:hangR u l w with
   | none =>
    refine iteF (hnx2 _ ⟨fun k v hk hv=>?_,_,_,rfl⟩)
    rcases Nat.lt_or_ge k i with q | q
    ·exact hb k v q hv
    ·have:k=i:=by lia
     rw [this,hw] at hv
     cases hv
     exact e
   | some p =>
    refine iteT ?_
    have:=h (some p) (.inr ⟨w,mw,rfl,e,fun v mv lv=>?_⟩)
    ·exact this
    ·obtain ⟨k,hk⟩:=List.mem_iff_getElem?.mp ((hi v).mpr mv)
     rcases Nat.lt_or_ge k i with q | q
     ·exact hb k v q hk
     ·exfalso
      have li:=(List.getElem?_eq_some_iff.mp hw)
      have lk:=(List.getElem?_eq_some_iff.mp hk)
      rcases Nat.lt_or_ge i k with q2 | q2
      ·have:=List.pairwise_iff_getElem.mp hs i k li.1 lk.1 q2
       rw [li.2,lk.2] at this
       rw [ltW_as this] at lv
       cases lv
      ·have:k=i:=by lia
       subst this
       rw [hw] at hk
       cases hk
       rw [ltW_ir] at lv
       cases lv
  ·rintro τ ⟨hb,x,y,rfl⟩
   refine hnx _ ⟨fun w mw=>?_,x,y,rfl⟩
   obtain ⟨k,hk⟩:=List.mem_iff_getElem?.mp ((hi w).mpr mw)
   exact hb k w (List.getElem?_eq_some_iff.mp hk).1 hk
 rintro τ ⟨hn,x,y,rfl⟩
 simp! only [true_and]
 exact h none (.inl ⟨rfl,hn⟩)
def b_pair_alike:TVS:=(vSeq (vIfS (vBl (vOp (vIsN id) (vVar 1) (vC .non)))
  (vRet (vOp (vIsN id) (vVar 0) (vC .non)))
  vNext)
 (vSeq (vIfS (vOrT (vNotT (vBl (vIsin .tuple (vVar 0)))) (vBl (vOp vNeD (vF1 vLen (vVar 0)) (vC (.int 2)))))
  (vRet (vC (.bl false)))
  vNext)
 (vRet (vCallN g_same (vCons (vF1 vList (vVar 0)) (vCons (vF1 vList (vVar 1)) vNil))))))
abbrev N_pair_alike:List Str:=["_law_given","_law_due"]
theorem w_pair_alike:∀ ds Q,g_pair_alike ds Q→b_pair_alike (En Q) (startD N_pair_alike ds):=by
 rintro ds Q ⟨o,rfl,h⟩
 cases o with
 | none =>
  simp! only [b_pair_alike,show pairD none=D.non from rfl]
  exact h
 | some p =>
  have sm:∀ Y:R→Prop,Y (.val (.bl true))→g_same [.lst [rowD p.1,rowD p.2],.lst [rowD p.1,rowD p.2]] Y:=fun Y y=>⟨[p.1,p.2],rfl,by show 2≤1000; decide,y⟩
  simp! only [b_pair_alike,show pairD (some p)=D.tup [rowD p.1,rowD p.2] from rfl]
  refine iteF (iteF (sm _ ?_))
  simp! only [true_and]
  exact h
def b_shuts:TVS:=(vSeq (vIfS (vOrT (vBl (vOp vNeD (vOp vIxR (vVar 0) (vC (.int 1))) (vC (.str ("shut" : Str))))) (vOrT (vBl (vOp vEq (vOp vIxR (vVar 1) (vC (.int 1))) (vC (.str ("gone" : Str))))) (vBl (vOp vLe (vF1 vLen (vOp vIxR (vVar 1) (vC (.int 0)))) (vF1 vLen (vOp vIxR (vVar 0) (vC (.int 0))))))))
  (vRet (vC (.bl false)))
  vNext)
 (vRet (vAndE (vOp vEq (vSlice (vOp vIxR (vVar 1) (vC (.int 0))) vNoPart (vPart (vF1 vLen (vOp vIxR (vVar 0) (vC (.int 0)))))) (vOp vIxR (vVar 0) (vC (.int 0)))) (vOp (vInD (!·)) (vOp vIxR (vVar 1) (vC (.int 0))) (vVar 2)))))
abbrev N_shuts:List Str:=["_law_one","_law_two","_law_ones"]
theorem w_shuts:∀ ds Q,g_shuts ds Q→b_shuts (En Q) (startD N_shuts ds):=by
 rintro ds Q ⟨a,b,ones,rfl,wa,wb,h⟩
 have s1000:=line10000
 have la:=wa.1
 have lb:=wb.1
 refine v_ifn (fun c=>if c=true then ¬ (a.2.1=mShut∧b.2.1≠mGone∧a.1.length < b.1.length) else a.2.1=mShut∧b.2.1≠mGone∧a.1.length < b.1.length) (fun Y y=>?test) (fun hc=>?yes) fun hc=>?rest
 case test =>
  dsimp! only [rowD,wayD]
  by_cases z1:a.2.1=mShut
  ·rw [decide_eq_true z1]
   refine iteF ?_
   by_cases z2:b.2.1=mGone
   ·rw [decide_eq_true z2]
    exact iteT (y _ fun z=>z.2.1 z2)
   ·rw [decide_eq_false z2]
    refine iteF ?_
    by_cases z3:a.1.length < b.1.length
    ·rw [decide_eq_false (by lia)]
     exact y _ ⟨z1,z2,z3⟩
    ·rw [decide_eq_true (by lia)]
     exact y _ fun z=>z3 z.2.2
  ·rw [decide_eq_false z1]
   exact iteT (y _ fun z=>z1 z.1)
 case yes =>
  rw [if_pos rfl] at hc
  have e:shutsP a b ones=false:=decide_eq_false fun z=>hc ⟨z.1,z.2.1,z.2.2.1⟩
  rw [e] at h
  simp! only [true_and]
  exact h
 case rest =>
  rw [if_neg Bool.false_ne_true] at hc
  obtain ⟨z1,z2,z3⟩:=hc
  simp! only [rowD,wayD]
  simp only [cutL_take]
  refine ⟨cmpW _ _,depW _,?_⟩
  rw [eqW]
  by_cases z4:b.1.take a.1.length=a.1
  ·rw [decide_eq_true z4]
   refine iteT ⟨fun e he=>?_,?_⟩
   ·obtain ⟨v,_,rfl⟩:=List.mem_map.mp he
    exact ⟨cmpW _ _,depW _⟩
   ·have e1:(!(List.map wayD ones).any fun e=>eqD e (D.tup (List.map D.str b.1)))=shutsP a b ones:=by
     have:=any_ways ones b.1
     have e2:((List.map wayD ones).any fun e=>eqD e (D.tup (List.map D.str b.1)))=decide (b.1∈ones):=this
     rw [e2]
     unfold shutsP
     by_cases z5:b.1∈ones
     ·rw [decide_eq_true z5,decide_eq_false (fun q=>q.2.2.2.2 z5)]
      rfl
     ·rw [decide_eq_false z5,decide_eq_true ⟨z1,z2,z3,z4,z5⟩]
      rfl
    rw [e1]
    exact h
  ·rw [decide_eq_false z4]
   have e:shutsP a b ones=false:=decide_eq_false fun z=>z4 z.2.2.2.1
   rw [e] at h
   exact iteF h
def b_hang:TVS:=(vSeq (vIfS (vBl (vOp vEq (vOp vIxR (vVar 0) (vC (.int 0))) (vOp vIxR (vVar 1) (vC (.int 0)))))
  (vRet (vAndE (vOp vNeD (vVar 0) (vVar 1)) (vNotE (vAndE (vOp (vIn id) (vOp vIxR (vVar 0) (vC (.int 1))) (vTup (vCons (vC (.str ("folder" : Str))) (vCons (vC (.str ("shut" : Str))) vNil)))) (vOp (vIn id) (vOp vIxR (vVar 1) (vC (.int 1))) (vTup (vCons (vC (.str ("folder" : Str))) (vCons (vC (.str ("shut" : Str))) vNil))))))))
  vNext)
 (vRet (vOrE (vCallN g_shuts (vCons (vVar 0) (vCons (vVar 1) (vCons (vVar 2) vNil)))) (vCallN g_shuts (vCons (vVar 1) (vCons (vVar 0) (vCons (vVar 3) vNil)))))))
abbrev N_hang:List Str:=["_law_one","_law_two","_law_ones","_law_twos"]
theorem w_hang:∀ ds Q,g_hang ds Q→b_hang (En Q) (startD N_hang ds):=by
 rintro ds Q ⟨a,b,ones,twos,rfl,wa,wb,h⟩
 have s1000:=line10000
 have fs:∀ m:Str,decide (m∈[Str.ofString "folder",Str.ofString "shut"])=decide (FS m):=fun m=>by
  apply decide_eq_decide.mpr
  simp only [List.mem_cons,List.not_mem_nil,or_false]
  exact Iff.rfl
 have s1:∀ Y:R→Prop,Y (.val (.bl (shutsP a b ones)))→g_shuts [rowD a,rowD b,.lst (ones.map wayD)] Y:=fun Y y=>⟨a,b,ones,rfl,wa,wb,y⟩
 have s2:∀ Y:R→Prop,Y (.val (.bl (shutsP b a twos)))→g_shuts [rowD b,rowD a,.lst (twos.map wayD)] Y:=fun Y y=>⟨b,a,twos,rfl,wb,wa,y⟩
 refine v_ifn (fun c=>c=decide (a.1=b.1)) (fun Y y=>?test) (fun hc=>?yes) fun hc=>?rest
 case test =>
  dsimp! only [rowD,wayD]
  refine ⟨cmpW _ _,depW _,?_⟩
  rw [eqW]
  exact y _ rfl
 case yes =>
  have z:=of_decide_eq_true hc.symm
  have e:hangP ones twos a b=decide (a≠b∧¬ (FS a.2.1∧FS b.2.1)):=if_pos z
  rw [e] at h
  simp! only [true_and]
  refine ⟨cmpR a b,Nat.le_trans (depR a) (by decide),?_⟩
  rw [eqR]
  by_cases q:a=b
  ·rw [decide_eq_true q]
   rw [decide_eq_false (fun z=>z.1 q)] at h
   exact iteF h
  ·rw [decide_eq_false q]
   refine iteT ?_
   simp! only [rowD]
   refine ⟨by decide,?_⟩
   rw [fs,fs]
   by_cases fa:FS a.2.1
   ·rw [decide_eq_true fa]
    by_cases fb:FS b.2.1
    ·rw [decide_eq_false (fun z=>z.2 ⟨fa,fb⟩)] at h
     rw [decide_eq_true fb]
     exact iteT ⟨by decide,h⟩
    ·rw [decide_eq_true ⟨q,fun z=>fb z.2⟩] at h
     rw [decide_eq_false fb]
     exact iteT ⟨by decide,h⟩
   ·rw [decide_eq_false fa]
    rw [decide_eq_true ⟨q,fun z=>fa z.1⟩] at h
    exact iteF h
 case rest =>
  have z:=of_decide_eq_false hc.symm
  have e:hangP ones twos a b=(shutsP a b ones || shutsP b a twos):=if_neg z
  rw [e] at h
  simp! only [true_and]
  refine s1 _ ?_
  simp! only [true_and]
  cases e1:shutsP a b ones with
  | true =>
   rw [e1] at h
   exact iteT h
  | false =>
   rw [e1] at h
   refine iteF (s2 _ ?_)
   simp! only [true_and]
   exact h
def prP (x:List Str × Row × Row):List Str × D:=(x.1,.tup [rowD x.2.1,rowD x.2.2])
theorem ways_pp (ps:List (List Str × Row × Row)):(ps.map prP).map (·.1)=ps.map (·.1):=by rw [List.map_map]; rfl
structure PrI (u l:List Row) (ps:List (List Str × Row × Row)) (don:Row→Row→Prop) (n:Nat):Prop where
 ok:∀ x∈ps,hangR u l x.1=some x.2
 all:∀ a b,don a b→hangP (u.map (·.1)) (l.map (·.1)) a b=true→spotP a b∈ps.map (·.1)
 len:ps.length≤n
theorem PrI.lk {u l:List Row} {ps:List (List Str × Row × Row)} {don:Row→Row→Prop} {n:Nat} (h:PrI u l ps don n) {w:List Str} (m:w∈ps.map (·.1)):∃ p,hangR u l w=some p∧lkP (ps.map prP) w=some (.tup [rowD p.1,rowD p.2]):=by
 have e:lkP (ps.map prP) w=(ps.find? fun x=>decide (x.1=w)).map fun x=>.tup [rowD x.2.1,rowD x.2.2]:=by
  unfold lkP
  rw [List.find?_map,Option.map_map]
  rfl
 cases f:ps.find? fun x=>decide (x.1=w) with
 | none =>
  rw [List.find?_eq_none] at f
  obtain ⟨x,mx,ex⟩:=List.mem_map.mp m
  exact absurd (decide_eq_true ex) (f x mx)
 | some x =>
  have mx:=List.mem_of_find?_eq_some f
  have ex:x.1=w:=by simpa using List.find?_some f
  exact ⟨x.2,by rw [← ex]; exact h.ok x mx,by rw [e,f]; rfl⟩
theorem PrI.stay {u l:List Row} {ps:List (List Str × Row × Row)} {don don':Row→Row→Prop} {n m:Nat} (h:PrI u l ps don n) {a b:Row} (nm:n≤m) (hd:∀ x y,don' x y→don x y∨(x=a∧y=b)) (hs:hangP (u.map (·.1)) (l.map (·.1)) a b=true→spotP a b∈ps.map (·.1)):PrI u l ps don' m :=
 ⟨h.ok,fun x y d z=>(hd x y d).elim (fun d=>h.all x y d z) fun e=>by rw [e.1,e.2] at z ⊢; exact hs z,Nat.le_trans h.len nm⟩
theorem PrI.put {u l:List Row} {ps:List (List Str × Row × Row)} {don don':Row→Row→Prop} {n:Nat} (h:PrI u l ps don n) {a b:Row} (hd:∀ x y,don' x y→don x y∨(x=a∧y=b)) (hr:hangR u l (spotP a b)=some (a,b)):PrI u l (ps++[(spotP a b,a,b)]) don' (n+1) :=
 ⟨fun x m=>by
  rcases List.mem_append.mp m with m | m
  ·exact h.ok x m
  ·rw [List.mem_singleton.mp m]; exact hr,fun x y d z=>by
  rw [List.map_append]
  rcases hd x y d with d | ⟨rfl,rfl⟩
  ·exact List.mem_append_left _ (h.all x y d z)
  ·exact List.mem_append_right _ (List.mem_singleton.mpr rfl),by rw [List.length_append]; exact Nat.succ_le_succ h.len⟩
theorem PrI.ins {u l:List Row} {ps:List (List Str × Row × Row)} {don:Row→Row→Prop} {n:Nat} (h:PrI u l ps don n) {w:List Str} {a b:Row} (hr:hangR u l w=some (a,b)):insP (ps.map prP) w (.tup [rowD a,rowD b])=(if w∈ps.map (·.1) then ps else ps++[(w,a,b)]).map prP:=by
 unfold insP
 rw [ways_pp]
 by_cases m:w∈ps.map (·.1)
 ·rw [if_pos m,if_pos m,List.map_map]
  refine List.map_congr_left fun x mx=>?_
  show (if (prP x).1=w then ((prP x).1,_) else prP x)=prP x
  by_cases e:x.1=w
  ·have:=h.ok x mx
   rw [e,hr] at this
   have e2:=Option.some.inj this
   rw [if_pos (show (prP x).1=w from e)]
   unfold prP
   rw [← e2]
  ·rw [if_neg (show ¬ (prP x).1=w from e)]
 ·rw [if_neg m,if_neg m,List.map_append]
  rfl
def b_met:TVS:=(vSeq (vSet 2 (vComp (vItems (vVar 0)) (vgName 8) (fun _ Q=>Q true) (vOp vIxR (vVar 8) (vC (.int 0))) 1))
 (vSeq (vSet 3 (vComp (vItems (vVar 1)) (vgName 8) (fun _ Q=>Q true) (vOp vIxR (vVar 8) (vC (.int 0))) 1))
 (vSeq (vSetO 4 vDNewT)
 (vSeq (vFor (vItems (vVar 0)) (vgName 5)
  (vFor (vItems (vVar 1)) (vgName 6)
  (vIfS (vBl (vCallN g_hang (vCons (vVar 5) (vCons (vVar 6) (vCons (vVar 2) (vCons (vVar 3) vNil))))))
  (vSeq (vSet 7 (vOp vIxR (vVar 5) (vC (.int 0))))
 (vSeq (vIfS (vBl (vOp vGt (vF1 vLen (vOp vIxR (vVar 6) (vC (.int 0)))) (vF1 vLen (vOp vIxR (vVar 5) (vC (.int 0))))))
  (vSet 7 (vOp vIxR (vVar 6) (vC (.int 0))))
  vNext)
 (vDPut 4 (vVar 7) (vTup (vCons (vVar 5) (vCons (vVar 6) vNil))))))
  vNext)))
 (vSeq (vIfS (vBl (vOp vEq0 (vVar 4) vDNewT))
  (vRet (vC .non))
  vNext)
 (vRet (vDGet (vVar 4) (vF1 vMinD (vVar 4)))))))))
abbrev N_met:List Str:=["_law_upper","_law_lower","_law_ones","_law_twos","_law_pairs","_law_one","_law_two","_law_spot"]
theorem w_met:∀ ds Q,g_met ds Q→b_met (En Q) (startD N_met ds):=by
 rintro ds Q ⟨u,l,rfl,U,L,h⟩
 have s1000:=line10000
 have ul:=U.len
 have ll:=L.len
 refine v_cut (fun τ=>τ=[some (.val (rowsL u)),some (.val (rowsL l)),some (.val (.lst ((u.map (·.1)).map wayD))),none,none,none,none,none]) ?_ fun nx hnx=>?now
 case now =>
  dsimp! only [rowsL]
  refine L2.comp_map (fun r:Row=>wayD r.1) u (by lia) (fun r mr Y N hY=>?_) ?_
  ·dsimp! only [rowD]
   exact hY
  ·dsimp! only [true_and]
   have:u.map (fun r:Row=>wayD r.1)=(u.map (·.1)).map wayD:=by rw [List.map_map]; rfl
   rw [this]
   exact hnx _ rfl
 rintro τ rfl
 refine v_cut (fun τ=>τ=[some (.val (rowsL u)),some (.val (rowsL l)),some (.val (.lst ((u.map (·.1)).map wayD))),some (.val (.lst ((l.map (·.1)).map wayD))),none,none,none,none]) ?_ fun nx hnx=>?now
 case now =>
  dsimp! only [rowsL]
  refine L2.comp_map (fun r:Row=>wayD r.1) l (by lia) (fun r mr Y N hY=>?_) ?_
  ·dsimp! only [rowD]
   exact hY
  ·dsimp! only [true_and]
   have:l.map (fun r:Row=>wayD r.1)=(l.map (·.1)).map wayD:=by rw [List.map_map]; rfl
   rw [this]
   exact hnx _ rfl
 rintro τ rfl
 generalize ho:(D.lst ((u.map (·.1)).map wayD))=ones
 generalize ht:(D.lst ((l.map (·.1)).map wayD))=twos
 refine v_cut (fun τ=>τ=[some (.val (rowsL u)),some (.val (rowsL l)),some (.val ones),some (.val twos),some (.own (dictD (([]:List (List Str × Row × Row)).map prP))),none,none,none]) ?_ fun nx hnx=>?now
 case now =>
  dsimp! only [true_and]
  exact hnx _ rfl
 rintro τ rfl
 refine v_cut (fun τ=>∃ ps x y z,PrI u l ps (fun a b=>a∈u∧b∈l) 10000∧τ=[some (.val (rowsL u)),some (.val (rowsL l)),some (.val ones),some (.val twos),some (.own (dictD (ps.map prP))),x,y,z]) ?_ fun nx hnx=>?now
 case now =>
  dsimp! only [rowsL]
  refine for_map (fun i τ=>∃ ps x y z,PrI u l ps (fun a b=>a∈u.take i∧b∈l) (100 * i)∧τ=[some (.val (rowsL u)),some (.val (rowsL l)),some (.val ones),some (.val twos),some (.own (dictD (ps.map prP))),x,y,z]) ⟨[],none,none,none,⟨(fun x m=>by cases m),(fun a b d=>by simp at d),Nat.le_refl _⟩,rfl⟩ ?_ ?_
  ·rintro i a τ ha ⟨ps0,x,y,z,P0,rfl⟩ nx2 hnx2
   have ma:=List.mem_of_getElem? ha
   have li:=(List.getElem?_eq_some_iff.mp ha).1
   have eu:u.take (i+1)=u.take i++[a]:=by rw [List.take_succ,ha]; rfl
   dsimp! only [rowsL]
   refine for_map (fun j τ=>∃ ps y z,PrI u l ps (fun c b=>(c∈u.take i∧b∈l)∨(c=a∧b∈l.take j)) (100 * i+j)∧τ=[some (.val (rowsL u)),some (.val (rowsL l)),some (.val ones),some (.val twos),some (.own (dictD (ps.map prP))),some (.val (rowD a)),y,z]) ⟨ps0,y,z,⟨P0.ok,fun c b d=>d.elim (P0.all c b) (fun d=>by simp at d),P0.len⟩,rfl⟩ ?_ ?_
   ·clear P0 ps0 y z
    rintro j b τ hb ⟨ps,y,z,P,rfl⟩ nx3 hnx3
    have mb:=List.mem_of_getElem? hb
    have lj:=(List.getElem?_eq_some_iff.mp hb).1
    have pl:=P.len
    have el:l.take (j+1)=l.take j++[b]:=by rw [List.take_succ,hb]; rfl
    have hd:∀ c d,((c∈u.take i∧d∈l)∨(c=a∧d∈l.take (j+1)))→((c∈u.take i∧d∈l)∨(c=a∧d∈l.take j))∨(c=a∧d=b):=fun c d z=>by
     rcases z with z | ⟨z1,z2⟩
     ·exact .inl (.inl z)
     ·rw [el] at z2
      rcases List.mem_append.mp z2 with z2 | z2
      ·exact .inl (.inr ⟨z1,z2⟩)
      ·exact .inr ⟨z1,List.mem_singleton.mp z2⟩
    have hg:∀ Y:R→Prop,Y (.val (.bl (hangP (u.map (·.1)) (l.map (·.1)) a b)))→g_hang [rowD a,rowD b,ones,twos] Y:=fun Y y=>⟨a,b,u.map (·.1),l.map (·.1),by rw [ho,ht],U.nm a ma,L.nm b mb,y⟩
    refine v_if (fun c=>c=hangP (u.map (·.1)) (l.map (·.1)) a b) (fun Y y=>?test) (fun hc=>?yes) fun hc=>?no
    case test =>
     dsimp! only [true_and]
     refine hg _ ?_
     dsimp! only [true_and]
     exact y _ rfl
    case no =>
     exact hnx3 _ ⟨ps,_,_,P.stay (a:=a) (b:=b) (by lia) hd (fun q=>by rw [← hc] at q; cases q),rfl⟩
    case yes =>
     have hr:=hang_to U L ma mb hc.symm
     refine v_cut (fun τ=>τ=[some (.val (rowsL u)),some (.val (rowsL l)),some (.val ones),some (.val twos),some (.own (dictD (ps.map prP))),some (.val (rowD a)),some (.val (rowD b)),some (.val (wayD a.1))]) ?_ fun nx4 hnx4=>?now
     case now =>
      dsimp! only [rowD]
      exact hnx4 _ rfl
     rintro τ rfl
     refine v_cut (fun τ=>τ=[some (.val (rowsL u)),some (.val (rowsL l)),some (.val ones),some (.val twos),some (.own (dictD (ps.map prP))),some (.val (rowD a)),some (.val (rowD b)),some (.val (wayD (spotP a b)))]) ?_ fun nx4 hnx4=>?now
     case now =>
      dsimp! only [rowD,wayD]
      unfold spotP at hnx4
      by_cases q:a.1.length < b.1.length
      ·rw [decide_eq_true (by lia)]
       rw [if_pos q] at hnx4
       exact iteT (hnx4 _ rfl)
      ·rw [decide_eq_false (by lia)]
       rw [if_neg q] at hnx4
       exact iteF (hnx4 _ rfl)
     rintro τ rfl
     have sw:Wy14 (spotP a b):=by
      unfold spotP
      split
      ·exact L.nm b mb
      ·exact U.nm a ma
     dsimp! only [dictD,wayD]
     refine ⟨by decide,sw.ok.ne,by lia,?_⟩
     rw [putD_pairs,P.ins hr]
     by_cases m:spotP a b∈ps.map (·.1)
     ·rw [if_pos m]
      exact hnx3 _ ⟨ps,_,_,P.stay (a:=a) (b:=b) (by lia) hd (fun _=>m),rfl⟩
     ·rw [if_neg m]
      exact hnx3 _ ⟨_,_,_,P.put hd hr,rfl⟩
   ·rintro τ ⟨ps,y,z,P,rfl⟩
    rw [List.take_length] at P
    exact hnx2 _ ⟨ps,_,y,z,⟨P.ok,fun c b d=>P.all c b (by
     rw [eu] at d
     rcases List.mem_append.mp d.1 with q | q
     ·exact .inl ⟨q,d.2⟩
     ·exact .inr ⟨List.mem_singleton.mp q,d.2⟩),by have:=P.len; lia⟩,rfl⟩
  ·rintro τ ⟨ps,x,y,z,P,rfl⟩
   rw [List.take_length] at P
   exact hnx _ ⟨ps,x,y,z,⟨P.ok,P.all,by have:=P.len; lia⟩,rfl⟩
 rintro τ ⟨ps,x,y,z,P,rfl⟩
 have nof:∀ w,w∉ps.map (·.1)→hangR u l w=none:=fun w m=>by
  cases e:hangR u l w with
  | none=>rfl
  | some p =>
   obtain ⟨a1,a2,a3,a4⟩:=hang_from (a:=p.1) (b:=p.2) e
   exact absurd (by rw [← a4]; exact P.all _ _ ⟨a1,a2⟩ a3) m
 refine v_ifn (fun c=>c=ps.isEmpty) (fun Y y=>?test) (fun hc=>?yes) fun hc=>?rest
 case test =>
  dsimp! only [dictD]
  rw [ways_pp]
  exact y _ (by cases ps <;> rfl)
 case yes =>
  have e:ps=[]:=List.isEmpty_iff.mp hc.symm
  simp! only [true_and]
  exact h none (.inl ⟨rfl,fun w _=>nof w (by rw [e]; simp)⟩)
 case rest =>
  have e:ps≠[]:=fun z=>by rw [z] at hc; cases hc
  simp! only [dictD]
  rw [ways_pp]
  refine ⟨by simpa using e,fun w mw hw=>?_⟩
  obtain ⟨p,hp,lp⟩:=P.lk mw
  have w14:Wy14 w:=by
   rcases hang_in hp with m | m
   ·obtain ⟨r,mr,er⟩:=List.mem_map.mp m
    rw [← er]; exact U.nm r mr
   ·obtain ⟨r,mr,er⟩:=List.mem_map.mp m
    rw [← er]; exact L.nm r mr
  simp! only [wayD]
  refine ⟨w14.ok.ne,_,?_,h (some p) (.inr ⟨w,hang_in hp,rfl,hp,fun v mv lv=>nof v fun mk=>?_⟩)⟩
  ·rw [← ways_pp,lkD_pairs]
   exact lp
  ·rw [hw v mk] at lv
   cases lv
def b_under_shut:TVS:=(vSeq (vFor (vRng1 (vF1 vLen (vVar 1))) (vgName 2)
  (vIfS (vAndT (vBl (vDIn id (vSlice (vVar 1) vNoPart (vPart (vVar 2))) (vVar 0))) (vBl (vOp vEq (vOp vIxR (vDGet (vVar 0) (vSlice (vVar 1) vNoPart (vPart (vVar 2)))) (vC (.int 0))) (vC (.str ("shut" : Str))))))
  (vRet (vC (.bl true)))
  vNext))
 (vRet (vC (.bl false))))
abbrev N_under_shut:List Str:=["_law_things","_law_way","_law_k"]
theorem w_under_shut:∀ ds Q,g_under_shut ds Q→b_under_shut (En Q) (startD N_under_shut ds):=by
 rintro ds Q ⟨rs,w,rfl,hw,hl,h⟩
 simp! only [b_under_shut,wayD]
 have tk:∀ k:Nat,("" : Str)∉w.take k:=fun k m=>hw (List.mem_of_mem_take m)
 refine ⟨by omega,by omega,for_rng (fun i τ=>(∀ k,k < i→markR rs (w.take k)≠some mShut)∧∃ kv,τ=[some (.val (dictD (rs.map prR))),some (.val (wayD w)),kv]) ⟨fun k hk=>absurd hk (Nat.not_lt_zero _),none,rfl⟩ ?_ ?_⟩
 ·rintro i τ hi ⟨hb,kv,rfl⟩ nx hnx
  have hd:∀ Y:R→Prop,Y (.val (.bl (markR rs (w.take i)).isSome))→True:=fun _ _=>trivial
  have mk:markR rs (w.take i)=(rs.find? fun r=>decide (r.1=w.take i)).map (·.2.1):=rfl
  have lk:=lkP_pr rs (w.take i)
  have e0:shutR rs w=true→Q (.val (.bl true)):=fun z=>by rw [z] at h; exact h
  have hit:markR rs (w.take i)=some mShut→Q (.val (.bl true)):=fun z=>e0 (List.any_eq_true.mpr ⟨i,List.mem_range.mpr hi,decide_eq_true z⟩)
  have go:markR rs (w.take i)≠some mShut→∀ kv,nx [some (.val (dictD (rs.map prR))),some (.val (wayD w)),kv]:=fun z kv=>hnx _ ⟨fun k hk=>by
   rcases Nat.lt_or_ge k i with q | q
   ·exact hb k q
   ·have:k=i:=by omega
    rw [this]; exact z,kv,rfl⟩
  dsimp! only [dictD,wayD]
  simp only [cutL_take]
  refine ⟨tk i,?_⟩
  rw [lkD_pairs,lk]
  cases e:rs.find? fun r=>decide (r.1=w.take i) with
  | none =>
   rw [e] at mk
   refine iteF ?_
   exact go (by rw [mk]; exact fun z=>by cases z) _
  | some r =>
   rw [e] at mk
   refine iteT ⟨tk i,thD r.2,rfl,?_⟩
   dsimp! only [thD]
   by_cases q:r.2.1=mShut
   ·rw [decide_eq_true q]
    exact iteT (hit (by rw [mk,← q]; rfl))
   ·rw [decide_eq_false q]
    exact iteF (go (by rw [mk]; exact fun z=>q (Option.some.inj z)) _)
 ·rintro τ ⟨hb,kv,rfl⟩
  simp! only [true_and]
  have e:shutR rs w=false:=by
   unfold shutR
   rw [List.any_eq_false]
   exact fun k hk z=>hb k (List.mem_range.mp hk) (of_decide_eq_true z)
  rw [e] at h
  exact h
def b_cell_at:TVS:=(vSeq (vIfS (vBl (vOp vLt (vVar 1) (vF1 vLen (vVar 0))))
  (vRet (vOp vIxR (vVar 0) (vVar 1)))
  vNext)
 (vRet (vC (.int 0))))
abbrev N_cell_at:List Str:=["_law_script","_law_k"]
theorem w_cell_at:∀ ds Q,g_cell_at ds Q→b_cell_at (En Q) (startD N_cell_at ds):=by
 rintro ds Q ⟨ns,k,rfl,h0,h⟩
 simp! only [b_cell_at]
 split
 ·rename_i c
  obtain ⟨v,hv,hv2⟩:=at_nat (xs:=ns) h0 (of_decide_eq_true c)
  unfold cellI at h
  rw [hv2] at h
  exact ⟨v,hv,h⟩
 ·rename_i c
  have hn:ns[k.toNat]?=none:=List.getElem?_eq_none (by have:=of_decide_eq_false (Bool.eq_false_iff.mpr c); omega)
  unfold cellI at h
  rw [hn] at h
  exact h
def mxA:List Int:=[48271,69621,16807,39373,21401,60493,87721,31337]
def mxB:List Int:=[99991,99989,99971,99961,99929,99923,99907,99901]
def b_big:TVS:=(vSeq (vSet 2 (vTup (vCons (vC (.int 48271)) (vCons (vC (.int 69621)) (vCons (vC (.int 16807)) (vCons (vC (.int 39373)) (vCons (vC (.int 21401)) (vCons (vC (.int 60493)) (vCons (vC (.int 87721)) (vCons (vC (.int 31337)) vNil))))))))))
 (vSeq (vSet 3 (vTup (vCons (vC (.int 99991)) (vCons (vC (.int 99989)) (vCons (vC (.int 99971)) (vCons (vC (.int 99961)) (vCons (vC (.int 99929)) (vCons (vC (.int 99923)) (vCons (vC (.int 99907)) (vCons (vC (.int 99901)) vNil))))))))))
 (vSeq (vSet 4 (vCallN g_cell_at (vCons (vVar 0) (vCons (vVar 1) vNil))))
 (vSeq (vIfS (vBl (vOp vEq (vOp vMod (vVar 4) (vC (.int 2))) (vC (.int 0))))
  (vRet (vOp vDiv (vVar 4) (vC (.int 2))))
  vNext)
 (vSeq (vSet 5 (vC (.int 0)))
 (vSeq (vFor (vRng1 (vC (.int 60))) (vgName 6)
  (vSeq (vSet 7 (vOp vAdd (vOp vAdd (vOp vMod (vCallN g_cell_at (vCons (vVar 0) (vCons (vOp vAdd (vVar 1) (vOp vMod (vVar 6) (vC (.int 9)))) vNil))) (vOp vPow (vC (.int 10)) (vC (.int 18)))) (vC (.int 1))) (vOp vMul (vVar 6) (vVar 6))))
 (vSet 5 (vOp vAdd (vOp vMul (vVar 5) (vC (.int 7919))) (vOp vMod (vOp vMod (vOp vMul (vVar 7) (vOp vIxR (vVar 2) (vOp vMod (vVar 6) (vC (.int 8))))) (vOp vIxR (vVar 3) (vOp vMod (vVar 6) (vC (.int 8))))) (vC (.int 7919)))))))
 (vRet (vVar 5))))))))
abbrev N_big:List Str:=["_law_script","_law_at","_law_by","_law_prime","_law_cell","_law_big_here","_law_k","_law_one"]
theorem w_big:∀ ds Q,g_big ds Q→b_big (En Q) (startD N_big ds):=by
 rintro ds Q ⟨ns,k,rfl,h0,h⟩
 refine v_cut (fun τ=>τ=[some (.val (.scr ns)),some (.val (.int k)),some (.val (.tup (mxA.map D.int))),none,none,none,none,none]) ?_ fun nx hnx=>?now
 case now =>
  dsimp! only [true_and]
  exact ⟨by decide,hnx _ rfl⟩
 rintro τ rfl
 refine v_cut (fun τ=>τ=[some (.val (.scr ns)),some (.val (.int k)),some (.val (.tup (mxA.map D.int))),some (.val (.tup (mxB.map D.int))),none,none,none,none]) ?_ fun nx hnx=>?now
 case now =>
  dsimp! only [true_and]
  exact ⟨by decide,hnx _ rfl⟩
 rintro τ rfl
 refine v_cut (fun τ=>∃ c:Int,τ=[some (.val (.scr ns)),some (.val (.int k)),some (.val (.tup (mxA.map D.int))),some (.val (.tup (mxB.map D.int))),some (.val (.int c)),none,none,none]) ?_ fun nx hnx=>?now
 case now =>
  dsimp! only [g_cell_at]
  exact ⟨h0,hnx _ ⟨_,rfl⟩⟩
 rintro τ ⟨c,rfl⟩
 refine v_cut (fun τ=>τ=[some (.val (.scr ns)),some (.val (.int k)),some (.val (.tup (mxA.map D.int))),some (.val (.tup (mxB.map D.int))),some (.val (.int c)),none,none,none]) ?_ fun nx hnx=>?now
 case now =>
  dsimp! only [true_and]
  split
  ·exact h _
  ·exact hnx _ rfl
 rintro τ rfl
 refine v_cut (fun τ=>τ=[some (.val (.scr ns)),some (.val (.int k)),some (.val (.tup (mxA.map D.int))),some (.val (.tup (mxB.map D.int))),some (.val (.int c)),some (.val (.int 0)),none,none]) ?_ fun nx hnx=>?now
 case now =>
  dsimp! only [true_and]
  exact hnx _ rfl
 rintro τ rfl
 refine v_cut (fun τ=>∃ (i:Int) (a b:Option R),τ=[some (.val (.scr ns)),some (.val (.int k)),some (.val (.tup (mxA.map D.int))),some (.val (.tup (mxB.map D.int))),some (.val (.int c)),some (.val (.int i)),a,b]) ?_ fun nx hnx=>?now
 case now =>
  dsimp! only [true_and]
  refine ⟨by decide,by decide,for_rng (fun _ τ=>∃ (i:Int) (a b:Option R),τ=[some (.val (.scr ns)),some (.val (.int k)),some (.val (.tup (mxA.map D.int))),some (.val (.tup (mxB.map D.int))),some (.val (.int c)),some (.val (.int i)),a,b]) ⟨0,none,none,rfl⟩ ?_ ?_⟩
  ·rintro j τ hj ⟨i,a,b,rfl⟩ nx2 hnx2
   refine v_cut (fun τ=>∃ o:Int,τ=[some (.val (.scr ns)),some (.val (.int k)),some (.val (.tup (mxA.map D.int))),some (.val (.tup (mxB.map D.int))),some (.val (.int c)),some (.val (.int i)),some (.val (.int j)),some (.val (.int o))]) ?_ fun nx3 hnx3=>?now
   case now =>
    have q0:=Int.emod_nonneg (j:Int) (show (9:Int)≠0 by decide)
    have hj':(j:Int) < 60:=by have:(60:Int).toNat=60:=rfl; lia
    dsimp! only [g_cell_at]
    exact ⟨by lia,⟨by decide,by decide,by decide⟩,by decide,.inr ⟨by lia,by lia⟩,hnx3 _ ⟨_,rfl⟩⟩
   rintro τ ⟨o,rfl⟩
   have q0:=Int.emod_nonneg (j:Int) (show (8:Int)≠0 by decide)
   have q1:=Int.emod_lt_of_pos (j:Int) (show (0:Int) < 8 by decide)
   obtain ⟨x,hx,hx2⟩:=at_nat (xs:=mxA) (k:=(j:Int) % 8) q0 q1
   obtain ⟨y,hy,hy2⟩:=at_nat (xs:=mxB) (k:=(j:Int) % 8) q0 q1
   have ba:∀ x∈mxA,0≤x∧x < 100000:=by decide
   have bb:∀ x∈mxB,0 < x:=by decide
   have a1:=ba x (List.mem_of_getElem? hx2)
   have b1:=bb y (List.mem_of_getElem? hy2)
   dsimp! only [true_and]
   refine ⟨.inr (by decide),.int x,by rw [atI_map,hx]; rfl,?_⟩
   dsimp! only [true_and]
   refine ⟨.inr ⟨by lia,by lia⟩,.int y,by rw [atI_map,hy]; rfl,?_⟩
   dsimp! only [true_and]
   exact ⟨b1,hnx2 _ ⟨_,_,_,rfl⟩⟩
  ·rintro τ ⟨i,a,b,rfl⟩
   exact hnx _ ⟨i,a,b,rfl⟩
 rintro τ ⟨i,a,b,rfl⟩
 dsimp! only [true_and]
 exact h i
theorem ns36:(NS.cps.toList.length:Int)=36:=by decide +kernel
theorem nsLine:NS.length≤sizeLine:=by decide +kernel
def b_name_of:TVS:=(vSeq (vSet 2 (vC (.str ("abcdefghijklmnopqrstuvwxyz0123456789" : Str))))
 (vSeq (vSet 3 (vOp vMod (vVar 0) (vC (.int 8))))
 (vSeq (vSet 0 (vOp vDiv (vVar 0) (vC (.int 8))))
 (vSeq (vIfS (vAndT (vBl (vOp vGt (vVar 3) (vC (.int 1)))) (vBl (vOp vNeD (vVarI 1) (vLst vNil))))
  (vRetI (vTup (vCons (vOp vIxR (vVarI 1) (vOp vMod (vVar 0) (vF1 vLen (vVarI 1)))) (vCons (vOp vDiv (vVar 0) (vF1 vLen (vVarI 1))) vNil))))
  vNext)
 (vSeq (vSet 4 (vC (.str ("" : Str))))
 (vSeq (vIfS (vAndT (vBl (vOp vEq (vVar 3) (vC (.int 1)))) (vBl (vOp vNeD (vVarI 1) (vLst vNil))))
  (vSeq (vSet 4 (vSlice (vOp vIxR (vVarI 1) (vOp vMod (vVar 0) (vF1 vLen (vVarI 1)))) vNoPart (vPart (vC (.int 11)))))
 (vSet 0 (vOp vDiv (vVar 0) (vF1 vLen (vVarI 1)))))
  vNext)
 (vSeq (vSet 5 (vOp vAdd (vC (.int 1)) (vOp vMod (vVar 0) (vOp vSub (vC (.int 12)) (vF1 vLen (vVar 4))))))
 (vSeq (vSet 0 (vOp vDiv (vVar 0) (vOp vSub (vC (.int 12)) (vF1 vLen (vVar 4)))))
 (vSeq (vFor (vRng1 (vVar 5)) (vgName 6)
  (vSeq (vSet 4 (vOp vAdd (vVar 4) (vOp vIxR (vVar 2) (vOp vMod (vVar 0) (vC (.int 36))))))
 (vSet 0 (vOp vDiv (vVar 0) (vC (.int 36))))))
 (vSeq (vAppendI 1 (vVar 4))
 (vRetI (vTup (vCons (vVar 4) (vCons (vVar 0) vNil))))))))))))))
abbrev N_name_of:List Str:=["_law_big_here","_law_pool","_law_signs","_law_kind","_law_name","_law_size","_law_k"]
theorem w_name_of:∀ ds ps c Q,g_name_of ds ps Q→b_name_of (EnI 1 c Q) (startI N_name_of 1 c ds ps):=by
 rintro ds ps c Q ⟨b,n,zs,rfl,rfl,hn,⟨hl,hz⟩,h⟩
 have s1000:=line10000
 have ix:∀ t:Int,∃ d,atI NS.cps.toList (t % 36)=some d:=fun t=>by
  obtain ⟨d,hd,_⟩:=at_nat (xs:=NS.cps.toList) (k:=t % 36) (Int.emod_nonneg _ (by decide)) (by rw [ns36]; exact Int.emod_lt_of_pos _ (by decide))
  exact ⟨d,hd⟩
 refine v_cut (fun τ=>τ=[some (.val (.int b)),some (.own (.io c (zs.map D.str))),some (.val (.str NS)),none,none,none,none]) ?_ fun nx hnx=>?now
 case now =>
  dsimp! only [true_and]
  exact hnx _ rfl
 rintro τ rfl
 refine v_cut (fun τ=>∃ k:Int,τ=[some (.val (.int b)),some (.own (.io c (zs.map D.str))),some (.val (.str NS)),some (.val (.int k)),none,none,none]) ?_ fun nx hnx=>?now
 case now =>
  dsimp! only [true_and]
  exact hnx _ ⟨_,rfl⟩
 rintro τ ⟨k,rfl⟩
 refine v_cut (fun τ=>∃ b:Int,τ=[some (.val (.int b)),some (.own (.io c (zs.map D.str))),some (.val (.str NS)),some (.val (.int k)),none,none,none]) ?_ fun nx hnx=>?now
 case now =>
  dsimp! only [true_and]
  exact hnx _ ⟨_,rfl⟩
 clear b
 rintro τ ⟨b,rfl⟩
 have at0:zs≠[]→∃ z∈zs,atI (zs.map D.str) (b % (zs.length:Int))=some (.str z):=fun ne=>by
  have hp:=List.length_pos_iff.mpr ne
  obtain ⟨z,z1,z2⟩:=at_nat (xs:=zs) (k:=b % (zs.length:Int)) (Int.emod_nonneg _ (by lia)) (Int.emod_lt_of_pos _ (by lia))
  exact ⟨z,List.mem_of_getElem? z2,by rw [atI_map,z1]; rfl⟩
 refine v_cut (fun τ=>τ=[some (.val (.int b)),some (.own (.io c (zs.map D.str))),some (.val (.str NS)),some (.val (.int k)),none,none,none]) ?_ fun nx hnx=>?now
 case now =>
  dsimp! only [true_and]
  split
  ·refine ⟨cmpSL zs [],depSL zs,?_⟩
   have e:=eqSL zs []
   rw [List.map_nil] at e
   rw [e]
   by_cases z0:zs=[]
   ·rw [decide_eq_true z0]
    exact hnx _ rfl
   ·rw [decide_eq_false z0]
    have hp:=List.length_pos_iff.mpr z0
    obtain ⟨z,mz,ez⟩:=at0 z0
    exact ⟨by lia,_,ez,by lia,by lia,by decide,h z _ zs (hz z mz) ⟨by lia,hz⟩⟩
  ·exact hnx _ rfl
 rintro τ rfl
 refine v_cut (fun τ=>τ=[some (.val (.int b)),some (.own (.io c (zs.map D.str))),some (.val (.str NS)),some (.val (.int k)),some (.val (.str "")),none,none]) ?_ fun nx hnx=>?now
 case now =>
  dsimp! only [true_and]
  exact hnx _ rfl
 rintro τ rfl
 have e0:("" : Str).length=0:=by decide +kernel
 refine v_cut (fun τ=>∃ (b:Int) (z:Str),z.length≤11∧τ=[some (.val (.int b)),some (.own (.io c (zs.map D.str))),some (.val (.str NS)),some (.val (.int k)),some (.val (.str z)),none,none]) ?_ fun nx hnx=>?now
 case now =>
  have stay:=hnx _ ⟨b,"",by lia,rfl⟩
  refine v_if (fun b=>b=true→zs≠[]) (fun Y y=>?test) (fun hyes=>?yes) fun _=>stay
  case test =>
   dsimp! only [true_and]
   split
   ·refine ⟨cmpSL zs [],depSL zs,y _ fun z z0=>?_⟩
    have e:=eqSL zs []
    rw [List.map_nil] at e
    rw [e,decide_eq_true z0] at z
    cases z
   ·exact y _ fun z=>by cases z
  case yes =>
   have z0:=hyes rfl
   have hp:=List.length_pos_iff.mpr z0
   obtain ⟨z,mz,ez⟩:=at0 z0
   have:=(hz z mz).2
   refine v_seq ?_
   dsimp! only [true_and]
   refine ⟨by lia,_,ez,?_⟩
   dsimp! only [true_and]
   refine ⟨by lia,by lia,by lia,hnx _ ⟨_,_,?_,rfl⟩⟩
   show (Txt.slice z none (some ((11:Nat):Int))).cps.toList.length≤11
   rw [slice_list,cutL_take,List.length_take]
   exact Nat.min_le_left _ _
 clear at0 b
 rintro τ ⟨b,y,hy,rfl⟩
 refine v_cut (fun τ=>∃ m:Nat,(1≤m∧m≤12 - y.length)∧τ=[some (.val (.int b)),some (.own (.io c (zs.map D.str))),some (.val (.str NS)),some (.val (.int k)),some (.val (.str y)),some (.val (.int m)),none]) ?_ fun nx hnx=>?now
 case now =>
  dsimp! only [true_and]
  have q0:=Int.emod_nonneg b (show (12 - (y.length:Int))≠0 by lia)
  have q1:=Int.emod_lt_of_pos b (show (0:Int) < 12 - y.length by lia)
  refine ⟨by lia,by lia,hnx _ ⟨(1+b % (12 - (y.length:Int))).toNat,by lia,?_⟩⟩
  rw [show (((1+b % (12 - (y.length:Int))).toNat:Nat):Int)=1+b % (12 - (y.length:Int)) by lia]
 rintro τ ⟨m,⟨m1,m2⟩,rfl⟩
 refine v_cut (fun τ=>∃ b:Int,τ=[some (.val (.int b)),some (.own (.io c (zs.map D.str))),some (.val (.str NS)),some (.val (.int k)),some (.val (.str y)),some (.val (.int m)),none]) ?_ fun nx hnx=>?now
 case now =>
  dsimp! only [true_and]
  exact ⟨by lia,by lia,by lia,hnx _ ⟨_,rfl⟩⟩
 clear b
 rintro τ ⟨b,rfl⟩
 refine v_cut (fun τ=>∃ (b:Int) (z:Str) (a:Option R),NmZ z∧τ=[some (.val (.int b)),some (.own (.io c (zs.map D.str))),some (.val (.str NS)),some (.val (.int k)),some (.val (.str z)),some (.val (.int m)),a]) ?_ fun nx hnx=>?now
 case now =>
  dsimp! only [true_and]
  refine ⟨by lia,by lia,for_rng (fun i τ=>∃ (b:Int) (z:Str) (a:Option R),z.length=y.length+i∧τ=[some (.val (.int b)),some (.own (.io c (zs.map D.str))),some (.val (.str NS)),some (.val (.int k)),some (.val (.str z)),some (.val (.int m)),a]) ⟨b,y,none,rfl,rfl⟩ ?_ ?_⟩
  ·rintro i τ hi ⟨b,z,a,lz,rfl⟩ nx2 hnx2
   refine v_cut (fun τ=>∃ z:Str,z.length=y.length+i+1∧τ=[some (.val (.int b)),some (.own (.io c (zs.map D.str))),some (.val (.str NS)),some (.val (.int k)),some (.val (.str z)),some (.val (.int m)),some (.val (.int i))]) ?_ fun nx3 hnx3=>?now
   case now =>
    dsimp! only [true_and]
    obtain ⟨d,hd⟩:=ix b
    exact ⟨nsLine,d,hd,Nat.le_trans (show z.length+1≤1000 by lia) line1000,hnx3 _ ⟨_,by rw [PySem.Str.length_append,lz]; rfl,rfl⟩⟩
   clear lz z
   rintro τ ⟨z,lz,rfl⟩
   dsimp! only [true_and]
   exact hnx2 _ ⟨_,z,_,lz,rfl⟩
  ·rintro τ ⟨b,z,a,lz,rfl⟩
   exact hnx _ ⟨b,z,a,⟨by lia,by lia⟩,rfl⟩
 clear b
 rintro τ ⟨b,z,a,nz,rfl⟩
 refine v_cut (fun τ=>τ=[some (.val (.int b)),some (.own (.io c ((zs++[z]).map D.str))),some (.val (.str NS)),some (.val (.int k)),some (.val (.str z)),some (.val (.int m)),a]) ?_ fun nx hnx=>?now
 case now =>
  dsimp! only [true_and]
  refine ⟨by lia,hnx _ ?_⟩
  rw [List.map_append]
 rintro τ rfl
 dsimp! only [true_and]
 refine ⟨by decide,h z b (zs++[z]) nz ⟨by rw [List.length_append]; exact Nat.succ_le_succ hl,fun x hx=>?_⟩⟩
 rcases List.mem_append.mp hx with hx | hx
 ·exact hz x hx
 ·rw [List.mem_singleton.mp hx]
  exact nz
def NA:Str:=" !\"#$&'()*+,-./0123456789:;<=>?@ABCDEFGHIJKLMNOPQRSTUVWXYZ[\\]^_`"
def NB:Str:=NA++"abcdefghijklmnopqrstuvwxyz{|}~"
theorem nb94:(NB.cps.toList.length:Int)=94:=by decide +kernel
theorem nbLine:NB.length≤sizeLine:=by decide +kernel
def b_signs_of:TVS:=(vSeq (vSet 2 (vC (.str (" !\"#$&'()*+,-./0123456789:;<=>?@ABCDEFGHIJKLMNOPQRSTUVWXYZ[\\]^_`" : Str))))
 (vSeq (vSet 2 (vOp vAdd (vVar 2) (vC (.str ("abcdefghijklmnopqrstuvwxyz{|}~" : Str)))))
 (vSeq (vSet 3 (vOp vMod (vVar 0) (vOp vAdd (vVar 1) (vC (.int 1)))))
 (vSeq (vSet 0 (vOp vDiv (vVar 0) (vOp vAdd (vVar 1) (vC (.int 1)))))
 (vSeq (vSet 4 (vC (.str ("" : Str))))
 (vSeq (vFor (vRng1 (vVar 3)) (vgName 5)
  (vSeq (vSet 4 (vOp vAdd (vVar 4) (vOp vIxR (vVar 2) (vOp vMod (vVar 0) (vC (.int 94))))))
 (vSet 0 (vOp vDiv (vVar 0) (vC (.int 94))))))
 (vRet (vTup (vCons (vVar 4) (vCons (vVar 0) vNil))))))))))
abbrev N_signs_of:List Str:=["_law_big_here","_law_most","_law_some","_law_size","_law_text","_law_k"]
theorem w_signs_of:∀ ds Q,g_signs_of ds Q→b_signs_of (En Q) (startD N_signs_of ds):=by
 rintro ds Q ⟨b,m,rfl,m0,m1,h⟩
 have s1000:=line10000
 refine v_cut (fun τ=>τ=[some (.val (.int b)),some (.val (.int m)),some (.val (.str NA)),none,none,none]) ?_ fun nx hnx=>?now
 case now =>
  dsimp! only [true_and]
  exact hnx _ rfl
 rintro τ rfl
 refine v_cut (fun τ=>τ=[some (.val (.int b)),some (.val (.int m)),some (.val (.str NB)),none,none,none]) ?_ fun nx hnx=>?now
 case now =>
  dsimp! only [true_and]
  exact ⟨by decide +kernel,hnx _ rfl⟩
 rintro τ rfl
 refine v_cut (fun τ=>∃ s:Nat,s≤100∧τ=[some (.val (.int b)),some (.val (.int m)),some (.val (.str NB)),some (.val (.int s)),none,none]) ?_ fun nx hnx=>?now
 case now =>
  dsimp! only [true_and]
  have q0:=Int.emod_nonneg b (show m+1≠0 by lia)
  have q1:=Int.emod_lt_of_pos b (show 0 < m+1 by lia)
  refine ⟨by lia,hnx _ ⟨(b % (m+1)).toNat,by lia,?_⟩⟩
  rw [show (((b % (m+1)).toNat:Nat):Int)=b % (m+1) by lia]
 rintro τ ⟨s,hs,rfl⟩
 refine v_cut (fun τ=>∃ b:Int,τ=[some (.val (.int b)),some (.val (.int m)),some (.val (.str NB)),some (.val (.int s)),none,none]) ?_ fun nx hnx=>?now
 case now =>
  dsimp! only [true_and]
  exact ⟨by lia,by lia,hnx _ ⟨_,rfl⟩⟩
 clear b
 rintro τ ⟨b,rfl⟩
 have e0:("" : Str).length=0:=by decide +kernel
 refine v_cut (fun τ=>τ=[some (.val (.int b)),some (.val (.int m)),some (.val (.str NB)),some (.val (.int s)),some (.val (.str "")),none]) ?_ fun nx hnx=>?now
 case now =>
  dsimp! only [true_and]
  exact hnx _ rfl
 rintro τ rfl
 refine v_cut (fun τ=>∃ (b:Int) (z:Str) (a:Option R),τ=[some (.val (.int b)),some (.val (.int m)),some (.val (.str NB)),some (.val (.int s)),some (.val (.str z)),a]) ?_ fun nx hnx=>?now
 case now =>
  dsimp! only [true_and]
  refine ⟨by lia,by lia,for_rng (fun i τ=>∃ (b:Int) (z:Str) (a:Option R),z.length=i∧τ=[some (.val (.int b)),some (.val (.int m)),some (.val (.str NB)),some (.val (.int s)),some (.val (.str z)),a]) ⟨b,"",none,e0,rfl⟩ ?_ ?_⟩
  ·rintro i τ hi ⟨b,z,a,lz,rfl⟩ nx2 hnx2
   refine v_cut (fun τ=>∃ z:Str,z.length=i+1∧τ=[some (.val (.int b)),some (.val (.int m)),some (.val (.str NB)),some (.val (.int s)),some (.val (.str z)),some (.val (.int i))]) ?_ fun nx3 hnx3=>?now
   case now =>
    dsimp! only [true_and]
    obtain ⟨d,hd,_⟩:=at_nat (xs:=NB.cps.toList) (k:=b % 94) (Int.emod_nonneg _ (by decide)) (by rw [nb94]; exact Int.emod_lt_of_pos _ (by decide))
    exact ⟨nbLine,d,hd,Nat.le_trans (show z.length+1≤1000 by lia) line1000,hnx3 _ ⟨_,by rw [PySem.Str.length_append,lz]; rfl,rfl⟩⟩
   clear lz z
   rintro τ ⟨z,lz,rfl⟩
   dsimp! only [true_and]
   exact hnx2 _ ⟨_,z,_,lz,rfl⟩
  ·rintro τ ⟨b,z,a,lz,rfl⟩
   exact hnx _ ⟨b,z,a,rfl⟩
 rintro τ ⟨b,z,a,rfl⟩
 dsimp! only [true_and]
 exact ⟨by decide,h z b⟩
theorem dot1:("." : Str).length≤12:=by decide +kernel
theorem dot2:(".." : Str).length≤12:=by decide +kernel
def b_words_of:TVS:=(vSeq (vSetO 3 (vLst vNil))
 (vSeq (vFor (vRng1 (vVar 1)) (vgName 4)
  (vSeq (vSet 5 (vOp vIxR (vTup (vCons (vC (.str ("." : Str))) (vCons (vC (.str (".." : Str))) vNil))) (vOp vMod (vVar 0) (vC (.int 2)))))
 (vSeq (vSet 6 (vOp vMod (vOp vDiv (vVar 0) (vC (.int 2))) (vC (.int 2))))
 (vSeq (vSet 0 (vOp vDiv (vVar 0) (vC (.int 4))))
 (vSeq (vIfS (vBl (vOp vEq (vVar 6) (vC (.int 1))))
  (vAsgI g_name_of 2 (vCons (vVar 0) vNil) (vgTup 2 (vgCons (vgName 5) (vgCons (vgName 0) vgNil))))
  vNext)
 (vAppend 3 (vVar 5)))))))
 (vFrz 3 (vRetI (vTup (vCons (vVar 3) (vCons (vVar 0) vNil)))))))
abbrev N_words_of:List Str:=["_law_big_here","_law_many","_law_pool","_law_words","_law_k","_law_word","_law_kind"]
theorem w_words_of:∀ ds ps c Q,g_words_of ds ps Q→b_words_of (EnI 2 c Q) (startI N_words_of 2 c ds ps):=by
 rintro ds ps c Q ⟨b,m,n,zs,rfl,rfl,m0,m5,hn,hp,h⟩
 have s1000:=line10000
 refine v_cut (fun τ=>τ=[some (.val (.int b)),some (.val (.int m)),some (.own (.io c (zs.map D.str))),some (.own (.lst (([]:List Str).map D.str))),none,none,none]) ?_ fun nx hnx=>?now
 case now =>
  dsimp! only [true_and]
  exact hnx _ rfl
 rintro τ rfl
 refine v_cut (fun τ=>∃ (b:Int) (ws zs:List Str) (k x y:Option R),(ws.length≤5∧(∀ w∈ws,w.length≤12)∧Pool (n+5) zs)∧τ=[some (.val (.int b)),some (.val (.int m)),some (.own (.io c (zs.map D.str))),some (.own (.lst (ws.map D.str))),k,x,y]) ?_ fun nx hnx=>?now
 case now =>
  dsimp! only [true_and]
  refine ⟨by lia,by lia,for_rng (fun i τ=>∃ (b:Int) (ws zs:List Str) (k x y:Option R),(ws.length=i∧(∀ w∈ws,w.length≤12)∧Pool (n+i) zs)∧τ=[some (.val (.int b)),some (.val (.int m)),some (.own (.io c (zs.map D.str))),some (.own (.lst (ws.map D.str))),k,x,y]) ⟨b,[],zs,none,none,none,⟨rfl,(fun w hw=>by cases hw),hp⟩,rfl⟩ ?_ ?_⟩
  ·clear hp zs b
   rintro i τ hi ⟨b,ws,zs,k,x,y,⟨wl,wz,hp⟩,rfl⟩ nx2 hnx2
   refine v_cut (fun τ=>∃ x:Str,x.length≤12∧τ=[some (.val (.int b)),some (.val (.int m)),some (.own (.io c (zs.map D.str))),some (.own (.lst (ws.map D.str))),some (.val (.int i)),some (.val (.str x)),y]) ?_ fun nx3 hnx3=>?now
   case now =>
    have q0:=Int.emod_nonneg b (show (2:Int)≠0 by decide)
    have q1:=Int.emod_lt_of_pos b (show (0:Int) < 2 by decide)
    obtain ⟨z,z1,z2⟩:=at_nat (xs:=[(".": Str),".."]) (k:=b % 2) q0 q1
    have mz:=List.mem_of_getElem? z2
    have lz:z.length≤12:=by
     simp only [List.mem_cons,List.not_mem_nil,or_false] at mz
     rcases mz with rfl | rfl
     ·exact dot1
     ·exact dot2
    have e:[D.str (Str.ofString "."),D.str (Str.ofString "..")]=[("." : Str),".."].map D.str:=rfl
    dsimp! only [true_and]
    exact ⟨by decide,.str z,by rw [e,atI_map,z1]; rfl,hnx3 _ ⟨z,lz,rfl⟩⟩
   rintro τ ⟨x,lx,rfl⟩
   refine v_cut (fun τ=>∃ y,τ=[some (.val (.int b)),some (.val (.int m)),some (.own (.io c (zs.map D.str))),some (.own (.lst (ws.map D.str))),some (.val (.int i)),some (.val (.str x)),some (.val (.int y))]) ?_ fun nx3 hnx3=>?now
   case now =>
    dsimp! only [true_and]
    exact hnx3 _ ⟨_,rfl⟩
   rintro τ ⟨y,rfl⟩
   refine v_cut (fun τ=>∃ b,τ=[some (.val (.int b)),some (.val (.int m)),some (.own (.io c (zs.map D.str))),some (.own (.lst (ws.map D.str))),some (.val (.int i)),some (.val (.str x)),some (.val (.int y))]) ?_ fun nx3 hnx3=>?now
   case now =>
    dsimp! only [true_and]
    exact hnx3 _ ⟨_,rfl⟩
   clear b
   rintro τ ⟨b,rfl⟩
   refine v_cut (fun τ=>∃ (b:Int) (x:Str) (zs:List Str),(x.length≤12∧Pool (n+(i+1)) zs)∧τ=[some (.val (.int b)),some (.val (.int m)),some (.own (.io c (zs.map D.str))),some (.own (.lst (ws.map D.str))),some (.val (.int i)),some (.val (.str x)),some (.val (.int y))]) ?_ fun nx3 hnx3=>?now
   case now =>
    have no:∀ Y:R→List D→Prop,(∀ (z:Str) (b':Int) (zs':List Str),NmZ z→Pool (n+i+1) zs'→Y (.val (.tup [.str z,.int b'])) (zs'.map D.str))→g_name_of [.int b] (zs.map D.str) Y:=fun Y y=>⟨b,n+i,zs,rfl,rfl,by lia,hp,y⟩
    dsimp! only [true_and]
    split
    ·refine no _ fun z b' zs' nz hp'=>?_
     dsimp! only [true_and]
     exact hnx3 _ ⟨b',z,zs',⟨nz.2,hp'⟩,rfl⟩
    ·exact hnx3 _ ⟨b,x,zs,⟨lx,hp.more (by lia)⟩,rfl⟩
   clear hp lx zs x b
   rintro τ ⟨b,x,zs,⟨lx,hp⟩,rfl⟩
   dsimp! only [true_and]
   refine ⟨by lia,hnx2 _ ⟨b,ws++[x],zs,_,_,_,⟨by rw [List.length_append,wl]; rfl,fun w hw=>?_,hp⟩,rfl⟩⟩
   rcases List.mem_append.mp hw with hw | hw
   ·exact wz w hw
   ·rw [List.mem_singleton.mp hw]
    exact lx
  ·clear hp zs b
   rintro τ ⟨b,ws,zs,k,x,y,⟨wl,wz,hp⟩,rfl⟩
   exact hnx _ ⟨b,ws,zs,k,x,y,⟨by lia,wz,hp.more (by lia)⟩,rfl⟩
 clear hp zs b
 rintro τ ⟨b,ws,zs,k,x,y,⟨wl,wz,hp⟩,rfl⟩
 dsimp! only [true_and]
 exact ⟨by decide,h ws b zs wl wz hp⟩
theorem join_len:∀ ws:List Str,(∀ w∈ws,w.length≤12)→(PySem.Str.join (Str.ofString "/") ws).length≤13 * ws.length
 | [],_=>by decide +kernel
 | [w],h=>by
  have:=h w (by simp)
  show w.length≤13
  lia
 | w :: x :: ws,h=>by
  have e:PySem.Str.join (Str.ofString "/") (w :: x :: ws)=w++(Str.ofString "/")++PySem.Str.join (Str.ofString "/") (x :: ws):=rfl
  have h1:=h w (by simp)
  have h2:=join_len (x :: ws) fun y hy=>h y (by simp [hy])
  have e1:(Str.ofString "/").length=1:=by decide +kernel
  rw [e,PySem.Str.length_append,PySem.Str.length_append,e1,List.length_cons]
  lia
theorem glue_len (ws:List Str) (h:∀ w∈ws,w.length≤12):(glue (Str.ofString "/") ws).length≤13 * ws.length:=by
 show (Builtin.Str.glued (Str.ofString "/") _).length≤_
 rw [StrLaws.glued_eq_join]
 exact join_len ws h
theorem sum_len:∀ ws:List Str,(∀ w∈ws,w.length≤12)→(ws.map fun x=>x.length).sum≤12 * ws.length
 | [],_=>Nat.le_refl _
 | w :: ws,h=>by
  have h1:=h w (by simp)
  have h2:=sum_len ws fun y hy=>h y (by simp [hy])
  rw [List.map_cons,List.sum_cons,List.length_cons]
  lia
theorem mul_ok:∀ k:Fin 2,MulOk (Str.ofString "/") ((k.val:Nat):Int)∧(Txt.mul (Str.ofString "/") ((k.val:Nat):Int)).length≤1:=by unfold MulOk; decide +kernel
def b_text_of:TVS:=(vSeq (vIfS (vBl (vOp vEq (vVar 0) (vC (.str ("file" : Str)))))
  (vRetI (vCallN g_signs_of (vCons (vVar 1) (vCons (vC (.int 8)) vNil))))
  vNext)
 (vSeq (vIfS (vBl (vOp vNeD (vVar 0) (vC (.str ("link" : Str)))))
  (vRetI (vTup (vCons (vC (.str ("" : Str))) (vCons (vVar 1) vNil))))
  vNext)
 (vSeq (vSet 3 (vOp vMod (vVar 1) (vC (.int 2))))
 (vSeq (vAsgI g_words_of 2 (vCons (vOp vDiv (vVar 1) (vC (.int 8))) (vCons (vOp vSub (vOp vAdd (vOp vMod (vOp vDiv (vVar 1) (vC (.int 2))) (vC (.int 4))) (vC (.int 1))) (vVar 3)) vNil)) (vgTup 2 (vgCons (vgName 4) (vgCons (vgName 1) vgNil))))
 (vRetI (vTup (vCons (vOp vAdd (vOp vMulS (vC (.str ("/" : Str))) (vVar 3)) (vJoin (vC (.str ("/" : Str))) (vVar 4))) (vCons (vVar 1) vNil))))))))
abbrev N_text_of:List Str:=["_law_mark","_law_big_here","_law_pool","_law_rooted","_law_words"]
theorem w_text_of:∀ ds ps c Q,g_text_of ds ps Q→b_text_of (EnI 2 c Q) (startI N_text_of 2 c ds ps):=by
 rintro ds ps c Q ⟨m,b,n,zs,rfl,rfl,hn,hp,h⟩
 have s1000:=line10000
 refine v_cut (fun τ=>m≠mFile∧τ=[some (.val (.str m)),some (.val (.int b)),some (.own (.io c (zs.map D.str))),none,none]) ?_ fun nx hnx=>?now
 case now =>
  have so:∀ Y:R→Prop,(∀ (z:Str) (b':Int),Y (.val (.tup [.str z,.int b'])))→g_signs_of [.int b,.int 8] Y:=fun Y y=>⟨b,8,rfl,by decide,by decide,y⟩
  dsimp! only [true_and]
  by_cases e:m=mFile
  ·rw [decide_eq_true (show m=Str.ofString "file" from e)]
   refine iteT (so _ fun z b'=>?_)
   dsimp! only [true_and]
   exact h z b' zs (fun q=>absurd e q) (hp.more (by lia))
  ·rw [decide_eq_false (show ¬ m=Str.ofString "file" from e)]
   exact iteF (hnx _ ⟨e,rfl⟩)
 rintro τ ⟨hf,rfl⟩
 refine v_cut (fun τ=>m=mLink∧τ=[some (.val (.str m)),some (.val (.int b)),some (.own (.io c (zs.map D.str))),none,none]) ?_ fun nx hnx=>?now
 case now =>
  dsimp! only [true_and]
  by_cases e:m=mLink
  ·rw [decide_eq_true (show m=Str.ofString "link" from e)]
   exact hnx _ ⟨e,rfl⟩
  ·rw [decide_eq_false (show ¬ m=Str.ofString "link" from e)]
   exact ⟨by decide,h tEmpty b zs (fun _ _=>rfl) (hp.more (by lia))⟩
 rintro τ ⟨hl,rfl⟩
 refine v_cut (fun τ=>∃ r:Int,(0≤r∧r < 2)∧τ=[some (.val (.str m)),some (.val (.int b)),some (.own (.io c (zs.map D.str))),some (.val (.int r)),none]) ?_ fun nx hnx=>?now
 case now =>
  dsimp! only [true_and]
  exact hnx _ ⟨_,⟨Int.emod_nonneg _ (by decide),Int.emod_lt_of_pos _ (by decide)⟩,rfl⟩
 rintro τ ⟨r,⟨r0,r1⟩,rfl⟩
 refine v_cut (fun τ=>∃ (b:Int) (ws zs:List Str),(ws.length≤5∧(∀ w∈ws,w.length≤12)∧Pool (n+5) zs)∧τ=[some (.val (.str m)),some (.val (.int b)),some (.own (.io c (zs.map D.str))),some (.val (.int r)),some (.val (.lst (ws.map D.str)))]) ?_ fun nx hnx=>?now
 case now =>
  have q0:=Int.emod_nonneg (b / 2) (show (4:Int)≠0 by decide)
  have q1:=Int.emod_lt_of_pos (b / 2) (show (0:Int) < 4 by decide)
  have wo:∀ (x k:Int) (Y:R→List D→Prop),0≤k→k≤5→(∀ (ws:List Str) (b':Int) (zs':List Str),ws.length≤5→(∀ w∈ws,w.length≤12)→Pool (n+5) zs'→Y (.val (.tup [.lst (ws.map D.str),.int b'])) (zs'.map D.str))→g_words_of [.int x,.int k] (zs.map D.str) Y:=fun x k Y k0 k1 y=>⟨x,k,n,zs,rfl,rfl,k0,k1,hn,hp,y⟩
  dsimp! only [true_and]
  refine wo _ _ _ (by lia) (by lia) fun ws b' zs' w1 w2 hp'=>?_
  dsimp! only [true_and]
  exact hnx _ ⟨b',ws,zs',⟨w1,w2,hp'⟩,rfl⟩
 clear hp zs b
 rintro τ ⟨b,ws,zs,⟨w1,w2,hp⟩,rfl⟩
 dsimp! only [true_and]
 have g1:=glue_len ws w2
 have g2:=sum_len ws w2
 obtain ⟨k1,k2⟩:=mul_ok ⟨r.toNat,by lia⟩
 have er:((r.toNat:Nat):Int)=r:=by lia
 rw [er] at k1 k2
 have e1:(Str.ofString "/").length=1:=by decide +kernel
 refine ⟨k1,ws,.inl rfl,by rw [e1]; lia,by lia,by decide,h _ b zs (fun _ q=>absurd hl q) hp⟩
def b_pane_of:TVS:=(vSeq (vSetO 3 vDNewT)
 (vSeq (vSetO 4 (vLst (vCons (vTup vNil) vNil)))
 (vSeq (vIfS (vBl (vOp vEq (vOp vMod (vVar 0) (vC (.int 6))) (vC (.int 5))))
  (vDPut 3 (vTup vNil) (vTup (vCons (vC (.str ("shut" : Str))) (vCons (vC (.str ("" : Str))) vNil))))
  vNext)
 (vSeq (vSet 5 (vOp vMod (vOp vDiv (vVar 0) (vC (.int 6))) (vOp vAdd (vVar 1) (vC (.int 1)))))
 (vSeq (vSet 0 (vOp vDiv (vOp vDiv (vVar 0) (vC (.int 6))) (vOp vAdd (vVar 1) (vC (.int 1)))))
 (vSeq (vFor (vRng1 (vVar 5)) (vgName 6)
  (vSeq (vSet 7 (vOp vIxR (vVar 4) (vOp vMod (vVar 0) (vF1 vLen (vVar 4)))))
 (vSeq (vSet 0 (vOp vDiv (vVar 0) (vF1 vLen (vVar 4))))
 (vSeq (vSet 8 (vOp vIxR (vTup (vCons (vC (.str ("folder" : Str))) (vCons (vC (.str ("shut" : Str))) (vCons (vC (.str ("file" : Str))) (vCons (vC (.str ("gone" : Str))) (vCons (vC (.str ("link" : Str))) vNil)))))) (vOp vMod (vVar 0) (vC (.int 5)))))
 (vSeq (vAsgI g_name_of 2 (vCons (vOp vDiv (vVar 0) (vC (.int 5))) vNil) (vgTup 2 (vgCons (vgName 9) (vgCons (vgName 0) vgNil))))
 (vSeq (vSet 10 (vOp vAdd (vVar 7) (vTup (vCons (vVar 9) vNil))))
 (vSeq (vIfS (vAndT (vBl (vOp (vIn id) (vVar 8) (vTup (vCons (vC (.str ("gone" : Str))) (vCons (vC (.str ("shut" : Str))) vNil))))) (vBl (vCalB g_under_shut 3 (vCons (vVar 10) vNil))))
  (vSet 8 (vC (.str ("folder" : Str))))
  vNext)
 (vSeq (vAsgI g_text_of 2 (vCons (vVar 8) (vCons (vVar 0) vNil)) (vgTup 2 (vgCons (vgName 11) (vgCons (vgName 0) vgNil))))
 (vIfS (vAndT (vBl (vDIn (!·) (vVar 10) (vVar 3))) (vBl (vOp vLt (vF1 vLen (vVar 10)) (vC (.int 15)))))
  (vSeq (vDPut 3 (vVar 10) (vTup (vCons (vVar 8) (vCons (vVar 11) vNil))))
 (vIfS (vBl (vOp (vIn id) (vVar 8) (vTup (vCons (vC (.str ("folder" : Str))) (vCons (vC (.str ("shut" : Str))) vNil)))))
  (vAppend 4 (vVar 10))
  vNext))
  vNext)))))))))
 (vRetI (vComp (vItems (vF1 vSorted (vF1 vListD (vVar 3)))) (vgName 12) (fun _ Q=>Q true) (vOp vAdd (vTup (vCons (vVar 12) vNil)) (vDGet (vVar 3) (vVar 12))) 1))))))))
abbrev N_pane_of:List Str:=["_law_big_here","_law_most","_law_pool","_law_things","_law_folders","_law_many","_law_k","_law_over","_law_mark","_law_name","_law_way","_law_text"]
theorem w_pane_of:∀ ds ps c Q,g_pane_of ds ps Q→b_pane_of (EnI 2 c Q) (startI N_pane_of 2 c ds ps):=by
 rintro ds ps c Q ⟨b,m,n,zs,rfl,rfl,m0,m1,hn,hp,h⟩
 have s1000:=line10000
 refine v_cut (fun τ=>τ=[some (.val (.int b)),some (.val (.int m)),some (.own (.io c (zs.map D.str))),some (.own (dictD (([]:List Row).map prR))),none,none,none,none,none,none,none,none]) ?_ fun nx hnx=>?now
 case now =>
  dsimp! only [true_and]
  exact hnx _ rfl
 rintro τ rfl
 refine v_cut (fun τ=>τ=[some (.val (.int b)),some (.val (.int m)),some (.own (.io c (zs.map D.str))),some (.own (dictD (([]:List Row).map prR))),some (.own (.lst ([([]:List Str)].map wayD))),none,none,none,none,none,none,none]) ?_ fun nx hnx=>?now
 case now =>
  dsimp! only [true_and]
  exact ⟨by decide,hnx _ rfl⟩
 rintro τ rfl
 refine v_cut (fun τ=>∃ rs:List Row,(rs=[]∨rs=[([],mShut,tEmpty)])∧τ=[some (.val (.int b)),some (.val (.int m)),some (.own (.io c (zs.map D.str))),some (.own (dictD (rs.map prR))),some (.own (.lst ([([]:List Str)].map wayD))),none,none,none,none,none,none,none]) ?_ fun nx hnx=>?now
 case now =>
  dsimp! only [true_and]
  split
  ·exact ⟨by decide,[],rfl,by simp,by decide,hnx _ ⟨[([],mShut,tEmpty)],.inr rfl,rfl⟩⟩
  ·exact hnx _ ⟨[],.inl rfl,rfl⟩
 rintro τ ⟨rs0,hrs0,rfl⟩
 have tx0:TxE rs0:=fun r hr=>by
  rcases hrs0 with e | e
  ·rw [e] at hr; cases hr
  ·rw [e] at hr
   rw [List.mem_singleton.mp hr]
   exact fun _ _=>rfl
 refine v_cut (fun τ=>∃ q:Nat,q≤m.toNat∧τ=[some (.val (.int b)),some (.val (.int m)),some (.own (.io c (zs.map D.str))),some (.own (dictD (rs0.map prR))),some (.own (.lst ([([]:List Str)].map wayD))),some (.val (.int q)),none,none,none,none,none,none]) ?_ fun nx hnx=>?now
 case now =>
  dsimp! only [true_and]
  have q0:=Int.emod_nonneg (b / 6) (show m+1≠0 by lia)
  have q1:=Int.emod_lt_of_pos (b / 6) (show 0 < m+1 by lia)
  refine ⟨by lia,hnx _ ⟨(b / 6 % (m+1)).toNat,by lia,?_⟩⟩
  rw [show (((b / 6 % (m+1)).toNat:Nat):Int)=b / 6 % (m+1) by lia]
  rfl
 rintro τ ⟨q,hq,rfl⟩
 refine v_cut (fun τ=>∃ b:Int,τ=[some (.val (.int b)),some (.val (.int m)),some (.own (.io c (zs.map D.str))),some (.own (dictD (rs0.map prR))),some (.own (.lst ([([]:List Str)].map wayD))),some (.val (.int q)),none,none,none,none,none,none]) ?_ fun nx hnx=>?now
 case now =>
  dsimp! only [true_and]
  exact ⟨by lia,by lia,hnx _ ⟨_,rfl⟩⟩
 clear b
 rintro τ ⟨b,rfl⟩
 refine v_cut (fun τ=>∃ (b:Int) (zs:List Str) (rs:List Row) (fs:List (List Str)) (x6 x7 x8 x9 x10 x11:Option R),(PInv q rs fs∧TxE rs∧Pool (n+360) zs)∧τ=[some (.val (.int b)),some (.val (.int m)),some (.own (.io c (zs.map D.str))),some (.own (dictD (rs.map prR))),some (.own (.lst (fs.map wayD))),some (.val (.int q)),x6,x7,x8,x9,x10,x11]) ?_ fun nx hnx=>?now
 case now =>
  dsimp! only [true_and]
  refine ⟨by lia,by lia,for_rng (fun i τ=>∃ (b:Int) (zs:List Str) (rs:List Row) (fs:List (List Str)) (x6 x7 x8 x9 x10 x11:Option R),(PInv i rs fs∧TxE rs∧Pool (n+6 * i) zs)∧τ=[some (.val (.int b)),some (.val (.int m)),some (.own (.io c (zs.map D.str))),some (.own (dictD (rs.map prR))),some (.own (.lst (fs.map wayD))),some (.val (.int q)),x6,x7,x8,x9,x10,x11]) ⟨b,zs,rs0,[[]],none,none,none,none,none,none,⟨.start hrs0,tx0,hp⟩,rfl⟩ ?_ ?_⟩
  ·clear hp zs b tx0 hrs0 rs0
   rintro i τ hi ⟨b,zs,rs,fs,x6,x7,x8,x9,x10,x11,⟨PI,TX,hp⟩,rfl⟩ nx hnx
   have hfp:0 < fs.length:=List.length_pos_iff.mpr PI.ne
   have hfl:=PI.fln
   have hrl:=PI.len
   refine v_cut (fun τ=>∃ f,f∈fs∧τ=[some (.val (.int b)),some (.val (.int m)),some (.own (.io c (zs.map D.str))),some (.own (dictD (rs.map prR))),some (.own (.lst (fs.map wayD))),some (.val (.int q)),some (.val (.int i)),some (.val (wayD f)),x8,x9,x10,x11]) ?_ fun nx2 hnx2=>?now
   case now =>
    dsimp! only [true_and]
    obtain ⟨f,hf,hf2⟩:=at_nat (xs:=fs) (k:=b % (fs.length:Int)) (Int.emod_nonneg _ (by lia)) (Int.emod_lt_of_pos _ (by lia))
    exact ⟨by lia,wayD f,by rw [atI_map,hf]; rfl,hnx2 _ ⟨f,List.mem_of_getElem? hf2,rfl⟩⟩
   rintro τ ⟨f,mf,rfl⟩
   have hf14:=(PI.fol f mf).1
   refine v_cut (fun τ=>∃ b:Int,τ=[some (.val (.int b)),some (.val (.int m)),some (.own (.io c (zs.map D.str))),some (.own (dictD (rs.map prR))),some (.own (.lst (fs.map wayD))),some (.val (.int q)),some (.val (.int i)),some (.val (wayD f)),x8,x9,x10,x11]) ?_ fun nx2 hnx2=>?now
   case now =>
    dsimp! only [true_and]
    exact ⟨by lia,by lia,hnx2 _ ⟨_,rfl⟩⟩
   clear b
   rintro τ ⟨b,rfl⟩
   refine v_cut (fun τ=>∃ mk:Str,(mk=mFolder∨mk=mShut∨mk=mFile∨mk=mGone∨mk=mLink)∧τ=[some (.val (.int b)),some (.val (.int m)),some (.own (.io c (zs.map D.str))),some (.own (dictD (rs.map prR))),some (.own (.lst (fs.map wayD))),some (.val (.int q)),some (.val (.int i)),some (.val (wayD f)),some (.val (.str mk)),x9,x10,x11]) ?_ fun nx2 hnx2=>?now
   case now =>
    dsimp! only [true_and]
    have e:[D.str (Str.ofString "folder"),D.str (Str.ofString "shut"),D.str (Str.ofString "file"),D.str (Str.ofString "gone"),D.str (Str.ofString "link")]=[mFolder,mShut,mFile,mGone,mLink].map D.str:=rfl
    obtain ⟨y,hy,hy2⟩:=at_nat (xs:=[mFolder,mShut,mFile,mGone,mLink]) (k:=b % 5) (Int.emod_nonneg _ (by decide)) (Int.emod_lt_of_pos _ (by decide))
    have my:y=mFolder∨y=mShut∨y=mFile∨y=mGone∨y=mLink:=by
     have:=List.mem_of_getElem? hy2
     simp only [List.mem_cons,List.not_mem_nil,or_false] at this
     rcases this with q | q | q | q | q <;> simp [q]
    exact ⟨by decide,.str y,by rw [e,atI_map,hy]; rfl,hnx2 _ ⟨y,my,rfl⟩⟩
   rintro τ ⟨mk,hmk,rfl⟩
   refine v_cut (fun τ=>∃ (b:Int) (z:Str) (zs:List Str),(NmZ z∧Pool (n+6 * i+1) zs)∧τ=[some (.val (.int b)),some (.val (.int m)),some (.own (.io c (zs.map D.str))),some (.own (dictD (rs.map prR))),some (.own (.lst (fs.map wayD))),some (.val (.int q)),some (.val (.int i)),some (.val (wayD f)),some (.val (.str mk)),some (.val (.str z)),x10,x11]) ?_ fun nx2 hnx2=>?now
   case now =>
    have no:∀ (x:Int) (Y:R→List D→Prop),(∀ (z:Str) (b':Int) (zs':List Str),NmZ z→Pool (n+6 * i+1) zs'→Y (.val (.tup [.str z,.int b'])) (zs'.map D.str))→g_name_of [.int x] (zs.map D.str) Y:=fun x Y y=>⟨x,n+6 * i,zs,rfl,rfl,by lia,hp,y⟩
    dsimp! only [true_and]
    refine no _ _ fun z b' zs' nz hp'=>?_
    dsimp! only [true_and]
    exact hnx2 _ ⟨b',z,zs',⟨nz,hp'⟩,rfl⟩
   clear hp zs b
   rintro τ ⟨b,z,zs,⟨⟨z1,z2⟩,hp⟩,rfl⟩
   refine v_cut (fun τ=>τ=[some (.val (.int b)),some (.val (.int m)),some (.own (.io c (zs.map D.str))),some (.own (dictD (rs.map prR))),some (.own (.lst (fs.map wayD))),some (.val (.int q)),some (.val (.int i)),some (.val (wayD f)),some (.val (.str mk)),some (.val (.str z)),some (.val (wayD (f++[z]))),x11]) ?_ fun nx2 hnx2=>?now
   case now =>
    dsimp! only [wayD]
    have:=hf14.1
    exact ⟨by decide,by lia,hnx2 _ rfl⟩
   rintro τ rfl
   have hfz:(∀ y∈f++[z],1≤y.length∧y.length≤12):=fun y hy=>by
    rcases List.mem_append.mp hy with m | m
    ·exact hf14.2 y m
    ·rw [List.mem_singleton.mp m]; exact ⟨z1,z2⟩
   have hwy:WyOk (f++[z]):=⟨by have:=hf14.1; rw [List.length_append,List.length_singleton]; lia,hfz⟩
   have lk:(lkP (rs.map prR) (f++[z])).isSome=decide (f++[z]∈rs.map (·.1)):=by
    rw [lkP_pr,Option.isSome_map]
    exact (Option.isSome_map ..).symm.trans (markR_in rs (f++[z]))
   have put:=fun (m t:Str) (hm:mkOk (f++[z],m,t)) (hw:Wy14 (f++[z])) (nw:f++[z]∉rs.map (·.1)) (hs:m=mGone∨m=mShut→shutR rs (f++[z])=false)=>PI.put mf hm hw nw hs
   generalize hw:f++[z]=w at *
   refine v_cut (fun τ=>∃ mk:Str,(mk=mFolder∨mk=mShut∨mk=mFile∨mk=mGone∨mk=mLink)∧(mk=mGone∨mk=mShut→shutR rs w=false)∧τ=[some (.val (.int b)),some (.val (.int m)),some (.own (.io c (zs.map D.str))),some (.own (dictD (rs.map prR))),some (.own (.lst (fs.map wayD))),some (.val (.int q)),some (.val (.int i)),some (.val (wayD f)),some (.val (.str mk)),some (.val (.str z)),some (.val (wayD w)),x11]) ?_ fun nx2 hnx2=>?now
   case now =>
    have us:∀ Y:R→Prop,Y (.val (.bl (shutR rs w)))→g_under_shut [dictD (rs.map prR),wayD w] Y:=fun Y y=>⟨rs,w,rfl,hwy.ne,by have:=hwy.1; lia,y⟩
    dsimp! only [true_and]
    refine ⟨by decide,?_⟩
    by_cases q:mk∈[mGone,mShut]
    ·simp only [show decide (mk∈[Str.ofString "gone",Str.ofString "shut"])=true from decide_eq_true q]
     refine iteT (us _ ?_)
     dsimp! only [true_and]
     cases hs:shutR rs w with
     | false=>exact iteF (hnx2 _ ⟨mk,hmk,fun _=>hs,rfl⟩)
     | true=>exact iteT (hnx2 _ ⟨mFolder,.inl rfl,fun z=>z.elim (fun z=>absurd z.symm mne.2.1) fun z=>absurd z.symm mne.1,rfl⟩)
    ·simp only [show decide (mk∈[Str.ofString "gone",Str.ofString "shut"])=false from decide_eq_false q]
     exact hnx2 _ ⟨mk,hmk,fun z=>absurd (by rcases z with z | z <;> simp [z]) q,rfl⟩
   clear hmk mk
   rintro τ ⟨mk,hmk,hsh,rfl⟩
   refine v_cut (fun τ=>∃ (b:Int) (t:Str) (zs:List Str),(mkOk (w,mk,t)∧(mk≠mFile→mk≠mLink→t=tEmpty)∧Pool (n+6 * (i+1)) zs)∧τ=[some (.val (.int b)),some (.val (.int m)),some (.own (.io c (zs.map D.str))),some (.own (dictD (rs.map prR))),some (.own (.lst (fs.map wayD))),some (.val (.int q)),some (.val (.int i)),some (.val (wayD f)),some (.val (.str mk)),some (.val (.str z)),some (.val (wayD w)),some (.val (.str t))]) ?_ fun nx2 hnx2=>?now
   case now =>
    have to:∀ (Y:R→List D→Prop),(∀ (z:Str) (b':Int) (zs':List Str),(mk≠mFile→mk≠mLink→z=tEmpty)→Pool (n+6 * i+1+5) zs'→Y (.val (.tup [.str z,.int b'])) (zs'.map D.str))→g_text_of [.str mk,.int b] (zs.map D.str) Y:=fun Y y=>⟨mk,b,n+6 * i+1,zs,rfl,rfl,by lia,hp,y⟩
    dsimp! only [true_and]
    refine to _ fun t b' zs' ht hp'=>?_
    dsimp! only [true_and]
    refine hnx2 _ ⟨b',t,zs',⟨?_,ht,hp'.more (by lia)⟩,rfl⟩
    rcases hmk with q | q | q | q | q
    ·exact .inr (.inl ⟨q,ht (by rw [q]; exact Ne.symm mne.2.2.1) (by rw [q]; exact Ne.symm mne.2.2.2.1)⟩)
    ·exact .inr (.inr (.inl q))
    ·exact .inl (.inl q)
    ·exact .inr (.inr (.inr q))
    ·exact .inl (.inr q)
   clear hp zs b
   rintro τ ⟨b,t,zs,⟨hmt,htx,hp⟩,rfl⟩
   refine v_if (fun b=>b=true→w∉rs.map (·.1)∧w.length < 15) (fun Y y=>?test) (fun hyes=>?yes) fun _=>hnx _ ⟨b,zs,rs,fs,_,_,_,_,_,_,⟨PI.stay,TX,hp⟩,rfl⟩
   case test =>
    dsimp! only [dictD,wayD]
    refine ⟨hwy.ne,?_⟩
    rw [lkD_pairs,lk]
    by_cases hm:w∈rs.map (·.1)
    ·rw [decide_eq_true hm]
     exact iteF (y _ fun z=>by cases z)
    ·rw [decide_eq_false hm]
     exact iteT (y _ fun z=>⟨hm,by have:=of_decide_eq_true z; lia⟩)
   case yes =>
    obtain ⟨hm,h15'⟩:=hyes rfl
    have w14:Wy14 w:=⟨by lia,hfz⟩
    refine v_cut (fun τ=>τ=[some (.val (.int b)),some (.val (.int m)),some (.own (.io c (zs.map D.str))),some (.own (dictD ((rs++[(w,mk,t)]).map prR))),some (.own (.lst (fs.map wayD))),some (.val (.int q)),some (.val (.int i)),some (.val (wayD f)),some (.val (.str mk)),some (.val (.str z)),some (.val (wayD w)),some (.val (.str t))]) ?_ fun nx2 hnx2=>?now
    case now =>
     dsimp! only [dictD,wayD]
     refine ⟨by decide,hwy.ne,by lia,?_⟩
     rw [putD_pairs]
     refine hnx2 _ ?_
     have e:insP (rs.map prR) w (.tup [.str mk,.str t])=(rs++[(w,mk,t)]).map prR:=by
      unfold insP
      rw [ways_pr,if_neg hm,List.map_append]
      rfl
     rw [e]
     rfl
    rintro τ rfl
    obtain ⟨A,A2⟩:=put mk t hmt w14 hm hsh
    have TX2:TxE (rs++[(w,mk,t)]):=fun r hr=>by
     rcases List.mem_append.mp hr with hr | hr
     ·exact TX r hr
     ·rw [List.mem_singleton.mp hr]
      exact htx
    dsimp! only [true_and]
    refine ⟨by decide,?_⟩
    by_cases q:mk∈[mFolder,mShut]
    ·rw [decide_eq_true q]
     have fsm:FS mk:=by simpa [FS] using q
     have em:fs.map wayD++[wayD w]=(fs++[w]).map wayD:=by rw [List.map_append]; rfl
     rw [em]
     exact ⟨by lia,hnx _ ⟨b,zs,rs++[(w,mk,t)],fs++[w],_,_,_,_,_,_,⟨A2 fsm,TX2,hp⟩,rfl⟩⟩
    ·rw [decide_eq_false q]
     exact hnx _ ⟨b,zs,rs++[(w,mk,t)],fs,_,_,_,_,_,_,⟨A,TX2,hp⟩,rfl⟩
  ·clear hp zs b tx0 hrs0 rs0
   rintro τ ⟨b,zs,rs,fs,x6,x7,x8,x9,x10,x11,⟨PI,TX,hp⟩,rfl⟩
   exact hnx _ ⟨b,zs,rs,fs,x6,x7,x8,x9,x10,x11,⟨PI,TX,hp.more (by lia)⟩,rfl⟩
 clear hp zs b tx0 hrs0 rs0
 rintro τ ⟨b,zs,rs,fs,x6,x7,x8,x9,x10,x11,⟨PI,TX,hp⟩,rfl⟩
 have hlen:=PI.len
 simp! only [dictD]
 have ek:(((rs.map prR).map (·.1)).map fun w=>D.tup (w.map D.str))=(rs.map (·.1)).map wayD:=by
  rw [List.map_map,List.map_map,List.map_map]
  rfl
 refine ⟨?_,?_,fun ds hp' hs=>?_⟩
 ·rw [ek]
  exact sortD_ways PI.nd
 ·(first | omega | (simp only [List.length_map]; omega))
 ·rw [ek] at hp'
  obtain ⟨vs,rfl,hv,hso⟩:=ways_back hp' hs
  have hvl:vs.length=rs.length:=by rw [hv.length_eq,List.length_map]
  refine comp_map (fun w=>rowD (w,lkR rs w)) vs (by lia) (fun w mw Y N hY=>?_) ?_
  ·have mw':=hv.mem_iff.mp mw
   simp! only [wayD]
   have wk:("" : Str)∉w:=by
    obtain ⟨r,mr,er⟩:=List.mem_map.mp mw'
    rcases PI.row r mr with q | q
    ·rw [← er,q.1]; simp
    ·rw [← er]; exact q.2.1.ok.ne
   exact ⟨by decide,wk,thD (lkR rs w),by rw [lkD_pairs]; exact lkP_lkR PI.nd mw',by show 3≤sizeLine; decide,hY⟩
  ·simp! only [true_and]
   have e:vs.map (fun w=>rowD (w,lkR rs w))=(vs.map fun w=>(w,lkR rs w)).map rowD:=by rw [List.map_map]; rfl
   rw [e]
   obtain ⟨p1,p2⟩:=rows_of_ways PI.nd hv hso
   obtain ⟨a1,a2,a3,a4,a5⟩:=PI.pane p1 p2
   refine h _ zs ⟨a1,a2,by lia,by lia,a5⟩ (fun r hr=>?_) (fun r hr=>TX r (p1.mem_iff.mp hr)) hp
   rcases PI.row r (p1.mem_iff.mp hr) with z | ⟨_,_,⟨_,z⟩,_⟩
   ·exact .inl z.1
   ·exact .inr (z.imp id fun ⟨q,mq,x⟩=>⟨q,p1.mem_iff.mpr mq,x⟩)
def b_same:TVS:=(vSeq (vIfS (vOrT (vNotT (vBl (vIsin .list (vVar 0)))) (vBl (vOp vNeD (vF1 vLen (vVar 0)) (vF1 vLen (vVar 1)))))
  (vRet (vC (.bl false)))
  vNext)
 (vSeq (vFor (vRng1 (vF1 vLen (vVar 1))) (vgName 2)
  (vSeq (vSet 3 (vOp vIxR (vVar 0) (vVar 2)))
 (vSeq (vIfS (vOrT (vNotT (vBl (vIsin .tuple (vVar 3)))) (vOrT (vBl (vOp vNeD (vF1 vLen (vVar 3)) (vC (.int 3)))) (vNotT (vBl (vIsin .tuple (vOp vIxR (vVar 3) (vC (.int 0))))))))
  (vRet (vC (.bl false)))
  vNext)
 (vIfS (vOrT (vNotT (vBl (vIsin .str (vOp vIxR (vVar 3) (vC (.int 1)))))) (vOrT (vNotT (vBl (vIsin .str (vOp vIxR (vVar 3) (vC (.int 2)))))) (vBl (vOp vNeD (vVar 3) (vOp vIxR (vVar 1) (vVar 2))))))
  (vRet (vC (.bl false)))
  vNext))))
 (vRet (vC (.bl true)))))
abbrev N_same:List Str:=["_law_found","_law_due","_law_k","_law_row"]
theorem w_same:∀ ds Q,g_same ds Q→b_same (En Q) (startD N_same ds):=by
 rintro ds Q ⟨rs,rfl,hl,h⟩
 simp! only [b_same,rowsL]
 refine ⟨by omega,by omega,for_rng (fun i τ=>∃ kv rv,τ=[some (.val (.lst (rs.map rowD))),some (.val (.lst (rs.map rowD))),kv,rv]) ⟨none,none,rfl⟩ ?_ ?_⟩
 ·rintro i τ hi ⟨kv,rv,rfl⟩ nx hnx
  simp! only [true_and]
  obtain ⟨y,hy,_⟩:=at_nat (xs:=rs) (k:=(i:Int)) (by omega) (by omega)
  have hy2:atI (rs.map rowD) (i:Int)=some (rowD y):=by rw [atI_map,hy]; rfl
  refine ⟨_,hy2,?_⟩
  have e3:decide (((3:Nat):Int)=3)=true:=by decide
  have hy3:atI (rs.map rowD) (i:Int)=some (.tup [.tup (y.1.map D.str),.str y.2.1,.str y.2.2]):=hy2
  simp! only [rowD,wayD]
  rw [e3]
  simp! only [true_and]
  refine ⟨_,hy3,cmpR y y,Nat.le_trans (depR y) (by decide),?_⟩
  simp only [eqD_refl]
  exact hnx _ ⟨_,_,rfl⟩
 ·rintro τ ⟨kv,rv,rfl⟩
  simp! only [true_and]
  exact h
def b_near_mark:TVS:=(vSeq (vIfS (vOrT (vBl (vOp vEq (vOp vIxR (vVar 0) (vC (.int 0))) (vTup vNil))) (vBl (vOp vEq (vVar 1) (vC (.int 5)))))
  (vRet (vOp vIxR (vVar 0) (vC (.int 1))))
  vNext)
 (vSeq (vIfS (vAndT (vBl (vOp vEq (vVar 1) (vC (.int 1)))) (vBl (vOp vEq (vOp vIxR (vVar 0) (vC (.int 1))) (vC (.str ("folder" : Str))))))
  (vRet (vC (.str ("shut" : Str))))
  vNext)
 (vSeq (vIfS (vAndT (vBl (vOp vEq (vVar 1) (vC (.int 1)))) (vBl (vOp vEq (vOp vIxR (vVar 0) (vC (.int 1))) (vC (.str ("shut" : Str))))))
  (vRet (vC (.str ("folder" : Str))))
  vNext)
 (vSeq (vIfS (vBl (vOp vGt (vVar 1) (vC (.int 1))))
  (vRet (vOp vIxR (vTup (vCons (vC (.str ("file" : Str))) (vCons (vC (.str ("gone" : Str))) (vCons (vC (.str ("folder" : Str))) vNil)))) (vOp vMod (vVar 1) (vC (.int 3)))))
  vNext)
 (vRet (vOp vIxR (vVar 0) (vC (.int 1))))))))
abbrev N_near_mark:List Str:=["_law_row","_law_turn"]
theorem w_near_mark:∀ ds Q,g_near_mark ds Q→b_near_mark (En Q) (startD N_near_mark ds):=by
 rintro ds Q ⟨r,t,rfl,t0,h⟩
 have s1000:=line10000
 refine v_ifn (fun _=>True) (fun Y y=>?test1) (fun _=>?yes1) fun _=>?rest1
 case test1 =>
  dsimp! only [rowD,wayD]
  refine ⟨cmpW _ [],depW _,?_⟩
  split
  ·exact y _ trivial
  ·exact y _ trivial
 case yes1 =>
  simp! only [rowD]
  exact h _
 refine v_ifn (fun _=>True) (fun Y y=>?test2) (fun _=>?yes2) fun _=>?rest2
 case test2 =>
  dsimp! only [rowD]
  split
  ·exact y _ trivial
  ·exact y _ trivial
 case yes2 =>
  simp! only [true_and]
  exact h _
 refine v_ifn (fun _=>True) (fun Y y=>?test3) (fun _=>?yes3) fun _=>?rest3
 case test3 =>
  dsimp! only [rowD]
  split
  ·exact y _ trivial
  ·exact y _ trivial
 case yes3 =>
  simp! only [true_and]
  exact h _
 refine v_ifn (fun _=>True) (fun Y y=>?test4) (fun _=>?yes4) fun _=>?rest4
 case test4 =>
  dsimp! only [true_and]
  exact y _ trivial
 case yes4 =>
  have e:[D.str (Str.ofString "file"),D.str (Str.ofString "gone"),D.str (Str.ofString "folder")]=[mFile,mGone,mFolder].map D.str:=rfl
  obtain ⟨z,z1,z2⟩:=at_nat (xs:=[mFile,mGone,mFolder]) (k:=t % 3) (Int.emod_nonneg _ (by decide)) (Int.emod_lt_of_pos _ (by decide))
  simp! only [true_and]
  exact ⟨by decide,.str z,by rw [e,atI_map,z1]; rfl,h _⟩
 simp! only [rowD]
 exact h _
def b_near_pane:TVS:=(vSeq (vSet 2 (vOp vMod (vVar 1) (vOp vAdd (vF1 vLen (vVar 0)) (vC (.int 1)))))
 (vSeq (vSet 1 (vOp vDiv (vVar 1) (vOp vAdd (vF1 vLen (vVar 0)) (vC (.int 1)))))
 (vSeq (vSet 3 (vOp vMod (vVar 1) (vC (.int 6))))
 (vSeq (vSet 4 (vOp vAdd (vC (.int 3)) (vOp vMul (vC (.int 97)) (vOp vMod (vOp vDiv (vVar 1) (vC (.int 6))) (vC (.int 3))))))
 (vSeq (vSetO 5 vDNewT)
 (vSeq (vFor (vRng1 (vF1 vLen (vVar 0))) (vgName 6)
  (vSeq (vSet 7 (vSlice (vOp vIxR (vOp vIxR (vVar 0) (vVar 6)) (vC (.int 0))) vNoPart (vPart (vNeg (vC (.int 1))))))
 (vSeq (vSet 8 (vOp vEq (vOp vMod (vOp vSub (vVar 6) (vVar 2)) (vVar 4)) (vC (.int 0))))
 (vSeq (vSet 9 (vOp vIxR (vOp vIxR (vVar 0) (vVar 6)) (vC (.int 1))))
 (vSeq (vIfS (vBl (vVar 8))
  (vSet 9 (vCallN g_near_mark (vCons (vOp vIxR (vVar 0) (vVar 6)) (vCons (vVar 3) vNil))))
  vNext)
 (vSeq (vIfS (vAndT (vBl (vOp (vIn id) (vVar 9) (vTup (vCons (vC (.str ("gone" : Str))) (vCons (vC (.str ("shut" : Str))) vNil))))) (vBl (vCalB g_under_shut 5 (vCons (vOp vIxR (vOp vIxR (vVar 0) (vVar 6)) (vC (.int 0))) vNil))))
  (vSet 9 (vC (.str ("folder" : Str))))
  vNext)
 (vSeq (vSet 10 (vOp vIxR (vOp vIxR (vVar 0) (vVar 6)) (vC (.int 2))))
 (vSeq (vIfS (vBl (vOp vNeD (vVar 9) (vOp vIxR (vOp vIxR (vVar 0) (vVar 6)) (vC (.int 1)))))
  (vSet 10 (vC (.str ("" : Str))))
  vNext)
 (vSeq (vIfS (vAndT (vBl (vVar 8)) (vBl (vOp vEq (vVar 9) (vC (.str ("file" : Str))))))
  (vSet 10 (vC (.str ("turned" : Str))))
  vNext)
 (vSeq (vSet 11 (vOrE (vOp vGt (vVar 3) (vC (.int 0))) (vNotE (vVar 8))))
 (vIfS (vAndT (vBl (vVar 11)) (vOrT (vBl (vOp vEq (vVar 7) (vTup vNil))) (vAndT (vBl (vDIn id (vVar 7) (vVar 5))) (vBl (vOp (vIn id) (vOp vIxR (vDGet (vVar 5) (vVar 7)) (vC (.int 0))) (vTup (vCons (vC (.str ("folder" : Str))) (vCons (vC (.str ("shut" : Str))) vNil))))))))
  (vDPut 5 (vOp vIxR (vOp vIxR (vVar 0) (vVar 6)) (vC (.int 0))) (vTup (vCons (vVar 9) (vCons (vVar 10) vNil))))
  vNext)))))))))))
 (vRet (vComp (vItems (vF1 vSorted (vF1 vListD (vVar 5)))) (vgName 12) (fun _ Q=>Q true) (vOp vAdd (vTup (vCons (vVar 12) vNil)) (vDGet (vVar 5) (vVar 12))) 1))))))))
abbrev N_near_pane:List Str:=["_law_rows","_law_big_here","_law_spot","_law_turn","_law_every","_law_things","_law_k","_law_over","_law_hit","_law_mark","_law_text","_law_stays"]
theorem w_near_pane:∀ ds Q,g_near_pane ds Q→b_near_pane (En Q) (startD N_near_pane ds):=by
 rintro ds Q ⟨p,b,rfl,P,h⟩
 have s1000:=line10000
 have pl:=P.len
 refine v_cut (fun τ=>∃ sp:Int,τ=[some (.val (rowsL p)),some (.val (.int b)),some (.val (.int sp)),none,none,none,none,none,none,none,none,none]) ?_ fun nx hnx=>?now
 case now =>
  dsimp! only [rowsL]
  exact ⟨by lia,hnx _ ⟨_,rfl⟩⟩
 rintro τ ⟨sp,rfl⟩
 refine v_cut (fun τ=>∃ b:Int,τ=[some (.val (rowsL p)),some (.val (.int b)),some (.val (.int sp)),none,none,none,none,none,none,none,none,none]) ?_ fun nx hnx=>?now
 case now =>
  dsimp! only [rowsL]
  exact ⟨by lia,by lia,hnx _ ⟨_,rfl⟩⟩
 clear b
 rintro τ ⟨b',rfl⟩
 refine v_cut (fun τ=>∃ tn:Int,0≤tn∧τ=[some (.val (rowsL p)),some (.val (.int b')),some (.val (.int sp)),some (.val (.int tn)),none,none,none,none,none,none,none,none]) ?_ fun nx hnx=>?now
 case now =>
  dsimp! only [true_and]
  exact hnx _ ⟨_,Int.emod_nonneg _ (by decide),rfl⟩
 rintro τ ⟨tn,t0,rfl⟩
 refine v_cut (fun τ=>∃ ev:Int,(3≤ev∧ev≤300)∧τ=[some (.val (rowsL p)),some (.val (.int b')),some (.val (.int sp)),some (.val (.int tn)),some (.val (.int ev)),none,none,none,none,none,none,none]) ?_ fun nx hnx=>?now
 case now =>
  have q0:=Int.emod_nonneg (b' / 6) (show (3:Int)≠0 by decide)
  have q1:=Int.emod_lt_of_pos (b' / 6) (show (0:Int) < 3 by decide)
  dsimp! only [true_and]
  exact ⟨.inl ⟨by decide,by decide⟩,hnx _ ⟨_,⟨by lia,by lia⟩,rfl⟩⟩
 rintro τ ⟨ev,⟨e3,e300⟩,rfl⟩
 refine v_cut (fun τ=>τ=[some (.val (rowsL p)),some (.val (.int b')),some (.val (.int sp)),some (.val (.int tn)),some (.val (.int ev)),some (.own (dictD (([]:List Row).map prR))),none,none,none,none,none,none]) ?_ fun nx hnx=>?now
 case now =>
  dsimp! only [true_and]
  exact hnx _ rfl
 rintro τ rfl
 refine v_cut (fun τ=>∃ (ks:List Row) (a b c d e f:Option R),NKept (p.map (·.1)) ks∧τ=[some (.val (rowsL p)),some (.val (.int b')),some (.val (.int sp)),some (.val (.int tn)),some (.val (.int ev)),some (.own (dictD (ks.map prR))),a,b,c,d,e,f]) ?_ fun nx hnx=>?now
 case now =>
  dsimp! only [rowsL]
  refine ⟨by lia,by lia,for_rng (fun i τ=>∃ (ks:List Row) (a b c d e f:Option R),NKept ((p.take i).map (·.1)) ks∧τ=[some (.val (rowsL p)),some (.val (.int b')),some (.val (.int sp)),some (.val (.int tn)),some (.val (.int ev)),some (.own (dictD (ks.map prR))),a,b,c,d,e,f]) ⟨[],none,none,none,none,none,none,⟨by simp,fun r hr=>by cases hr⟩,rfl⟩ ?_ ?_⟩
  ·rintro i τ hi ⟨ks,a,b,c,d,e,f,KI,rfl⟩ nx2 hnx2
   obtain ⟨r,hr1,hr2⟩:=at_nat (xs:=p) (k:=(i:Int)) (by lia) (by lia)
   have hr:p[i]?=some r:=by simpa using hr2
   have hy:atI (p.map rowD) (i:Int)=some (rowD r):=by rw [atI_map,hr1]; rfl
   have mr:=List.mem_of_getElem? hr
   have et:(p.take (i+1)).map (·.1)=(p.take i).map (·.1)++[r.1]:=by rw [List.take_succ,hr,List.map_append]; rfl
   have w14:=P.nm r mr
   have wy:=w14.ok
   have kl:ks.length≤30:=by
    have:=KI.sub.length_le
    rw [List.length_map,List.length_map,List.length_take] at this
    lia
   have lt:∀ w∈(p.take i).map (·.1),ltW w r.1=true:=fun w mw=>by
    obtain ⟨q,mq,e⟩:=List.mem_map.mp mw
    obtain ⟨k,hk⟩:=List.mem_iff_getElem?.mp mq
    have lk:=(List.getElem?_eq_some_iff.mp hk).1
    rw [List.length_take] at lk
    rw [List.getElem?_take_of_lt (by lia)] at hk
    have h1:=List.getElem?_eq_some_iff.mp hk
    have h2:=List.getElem?_eq_some_iff.mp hr
    have:=List.pairwise_iff_getElem.mp P.so k i h1.1 h2.1 (by lia)
    rw [h1.2,h2.2] at this
    rw [← e]
    exact this
   have nk:r.1∉ks.map (·.1):=fun z=>by
    have:=lt r.1 (KI.sub.mem z)
    rw [ltW_ir] at this
    cases this
   have ks0:∀ a b c d e f,nx2 [some (.val (rowsL p)),some (.val (.int b')),some (.val (.int sp)),some (.val (.int tn)),some (.val (.int ev)),some (.own (dictD (ks.map prR))),a,b,c,d,e,f]:=fun a b c d e f=>hnx2 _ ⟨ks,a,b,c,d,e,f,by rw [et]; exact KI.stay _,rfl⟩
   refine v_cut (fun τ=>τ=[some (.val (rowsL p)),some (.val (.int b')),some (.val (.int sp)),some (.val (.int tn)),some (.val (.int ev)),some (.own (dictD (ks.map prR))),some (.val (.int i)),some (.val (wayD r.1.dropLast)),c,d,e,f]) ?_ fun nx3 hnx3=>?now
   case now =>
    dsimp! only [rowsL]
    refine ⟨_,hy,?_⟩
    dsimp! only [rowD,wayD,cutL_last]
    exact hnx3 _ rfl
   rintro τ rfl
   refine v_cut (fun τ=>∃ hit:Bool,τ=[some (.val (rowsL p)),some (.val (.int b')),some (.val (.int sp)),some (.val (.int tn)),some (.val (.int ev)),some (.own (dictD (ks.map prR))),some (.val (.int i)),some (.val (wayD r.1.dropLast)),some (.val (.bl hit)),d,e,f]) ?_ fun nx3 hnx3=>?now
   case now =>
    dsimp! only [true_and]
    exact ⟨by lia,hnx3 _ ⟨_,rfl⟩⟩
   rintro τ ⟨hit,rfl⟩
   refine v_cut (fun τ=>∃ m:Str,τ=[some (.val (rowsL p)),some (.val (.int b')),some (.val (.int sp)),some (.val (.int tn)),some (.val (.int ev)),some (.own (dictD (ks.map prR))),some (.val (.int i)),some (.val (wayD r.1.dropLast)),some (.val (.bl hit)),some (.val (.str m)),e,f]) ?_ fun nx3 hnx3=>?now
   case now =>
    dsimp! only [rowsL]
    refine ⟨_,hy,?_⟩
    dsimp! only [rowD]
    exact hnx3 _ ⟨_,rfl⟩
   rintro τ ⟨m0,rfl⟩
   refine v_cut (fun τ=>∃ m:Str,τ=[some (.val (rowsL p)),some (.val (.int b')),some (.val (.int sp)),some (.val (.int tn)),some (.val (.int ev)),some (.own (dictD (ks.map prR))),some (.val (.int i)),some (.val (wayD r.1.dropLast)),some (.val (.bl hit)),some (.val (.str m)),e,f]) ?_ fun nx3 hnx3=>?now
   case now =>
    have nr:∀ Y:R→Prop,(∀ m:Str,Y (.val (.str m)))→g_near_mark [rowD r,.int tn] Y:=fun Y y=>⟨r,tn,rfl,t0,y⟩
    dsimp! only [rowsL]
    cases hit with
    | true =>
     refine iteT ⟨_,hy,nr _ fun m=>?_⟩
     dsimp! only [true_and]
     exact hnx3 _ ⟨m,rfl⟩
    | false=>exact iteF (hnx3 _ ⟨m0,rfl⟩)
   clear m0
   rintro τ ⟨m0,rfl⟩
   refine v_cut (fun τ=>∃ m:Str,(m=mShut→shutR ks r.1=false)∧τ=[some (.val (rowsL p)),some (.val (.int b')),some (.val (.int sp)),some (.val (.int tn)),some (.val (.int ev)),some (.own (dictD (ks.map prR))),some (.val (.int i)),some (.val (wayD r.1.dropLast)),some (.val (.bl hit)),some (.val (.str m)),e,f]) ?_ fun nx3 hnx3=>?now
   case now =>
    have us:∀ Y:R→Prop,Y (.val (.bl (shutR ks r.1)))→g_under_shut [dictD (ks.map prR),wayD r.1] Y:=fun Y y=>⟨ks,r.1,rfl,wy.ne,by have:=wy.1; lia,y⟩
    dsimp! only [rowsL]
    refine ⟨by decide,?_⟩
    by_cases q:m0∈[mGone,mShut]
    ·simp only [show decide (m0∈[Str.ofString "gone",Str.ofString "shut"])=true from decide_eq_true q]
     refine iteT ⟨_,hy,?_⟩
     dsimp! only [rowD]
     refine us _ ?_
     dsimp! only [true_and]
     cases hs:shutR ks r.1 with
     | false=>exact iteF (hnx3 _ ⟨m0,fun _=>hs,rfl⟩)
     | true=>exact iteT (hnx3 _ ⟨mFolder,fun z=>absurd z.symm mne.1,rfl⟩)
    ·simp only [show decide (m0∈[Str.ofString "gone",Str.ofString "shut"])=false from decide_eq_false q]
     exact iteF (hnx3 _ ⟨m0,fun z=>absurd (by simp [z]) q,rfl⟩)
   clear m0
   rintro τ ⟨m,hm,rfl⟩
   refine v_cut (fun τ=>∃ t:Str,τ=[some (.val (rowsL p)),some (.val (.int b')),some (.val (.int sp)),some (.val (.int tn)),some (.val (.int ev)),some (.own (dictD (ks.map prR))),some (.val (.int i)),some (.val (wayD r.1.dropLast)),some (.val (.bl hit)),some (.val (.str m)),some (.val (.str t)),f]) ?_ fun nx3 hnx3=>?now
   case now =>
    dsimp! only [rowsL]
    refine ⟨_,hy,?_⟩
    dsimp! only [rowD]
    exact hnx3 _ ⟨_,rfl⟩
   rintro τ ⟨t0',rfl⟩
   refine v_cut (fun τ=>∃ t:Str,τ=[some (.val (rowsL p)),some (.val (.int b')),some (.val (.int sp)),some (.val (.int tn)),some (.val (.int ev)),some (.own (dictD (ks.map prR))),some (.val (.int i)),some (.val (wayD r.1.dropLast)),some (.val (.bl hit)),some (.val (.str m)),some (.val (.str t)),f]) ?_ fun nx3 hnx3=>?now
   case now =>
    dsimp! only [rowsL]
    refine ⟨_,hy,?_⟩
    dsimp! only [rowD]
    split
    ·exact hnx3 _ ⟨_,rfl⟩
    ·exact hnx3 _ ⟨_,rfl⟩
   clear t0'
   rintro τ ⟨t0',rfl⟩
   refine v_cut (fun τ=>∃ t:Str,τ=[some (.val (rowsL p)),some (.val (.int b')),some (.val (.int sp)),some (.val (.int tn)),some (.val (.int ev)),some (.own (dictD (ks.map prR))),some (.val (.int i)),some (.val (wayD r.1.dropLast)),some (.val (.bl hit)),some (.val (.str m)),some (.val (.str t)),f]) ?_ fun nx3 hnx3=>?now
   case now =>
    dsimp! only [true_and]
    split
    ·split
     ·exact hnx3 _ ⟨_,rfl⟩
     ·exact hnx3 _ ⟨_,rfl⟩
    ·exact hnx3 _ ⟨_,rfl⟩
   clear t0'
   rintro τ ⟨t,rfl⟩
   refine v_cut (fun τ=>∃ st:Bool,τ=[some (.val (rowsL p)),some (.val (.int b')),some (.val (.int sp)),some (.val (.int tn)),some (.val (.int ev)),some (.own (dictD (ks.map prR))),some (.val (.int i)),some (.val (wayD r.1.dropLast)),some (.val (.bl hit)),some (.val (.str m)),some (.val (.str t)),some (.val (.bl st))]) ?_ fun nx3 hnx3=>?now
   case now =>
    dsimp! only [true_and]
    split
    ·exact hnx3 _ ⟨_,rfl⟩
    ·exact hnx3 _ ⟨_,rfl⟩
   rintro τ ⟨st,rfl⟩
   refine v_if (fun _=>True) (fun Y y=>?test) (fun _=>?yes) fun _=>ks0 _ _ _ _ _ _
   case test =>
    have lk:lkD ((ks.map prR).map (·.1)) ((ks.map prR).map (·.2)) r.1.dropLast=(ks.find? fun q=>decide (q.1=r.1.dropLast)).map fun q=>thD q.2:=by rw [lkD_pairs,lkP_pr]
    dsimp! only [dictD,wayD]
    cases st with
    | false=>exact iteF (y _ trivial)
    | true =>
     refine iteT ⟨cmpW _ [],depW _,?_⟩
     split
     ·exact y _ trivial
     ·refine ⟨wy.drop.ne,?_⟩
      rw [lk]
      cases hk:ks.find? fun q=>decide (q.1=r.1.dropLast) with
      | none=>exact iteF (y _ trivial)
      | some x =>
       refine iteT ⟨wy.drop.ne,thD x.2,rfl,?_⟩
       dsimp! only [thD]
       exact ⟨by decide,y _ trivial⟩
   case yes =>
    dsimp! only [rowsL,dictD]
    refine ⟨by decide,_,hy,?_⟩
    dsimp! only [rowD,wayD]
    refine ⟨wy.ne,by lia,?_⟩
    rw [putD_pairs]
    have e':insP (ks.map prR) r.1 (.tup [.str m,.str t])=(ks++[(r.1,m,t)]).map prR:=by
     unfold insP
     rw [ways_pr,if_neg nk,List.map_append]
     rfl
    rw [e']
    exact hnx2 _ ⟨ks++[(r.1,m,t)],_,_,_,_,_,_,by rw [et]; exact KI.put (r:=(r.1,m,t)) lt hm,rfl⟩
  ·rintro τ ⟨ks,a,b,c,d,e,f,KI,rfl⟩
   rw [Int.toNat_natCast,List.take_length] at KI
   exact hnx _ ⟨ks,a,b,c,d,e,f,KI,rfl⟩
 rintro τ ⟨ks,a,b,c,d,e,f,KI,rfl⟩
 have nd:(ks.map (·.1)).Nodup:=P.nd.sublist KI.sub
 have nm:∀ r∈ks,Wy14 r.1:=fun r hr=>by
  obtain ⟨q,mq,e⟩:=List.mem_map.mp (KI.sub.mem (List.mem_map.mpr ⟨r,hr,rfl⟩))
  rw [← e]; exact P.nm q mq
 have kl:ks.length≤30:=by
  have:=KI.sub.length_le
  rw [List.length_map,List.length_map] at this
  lia
 simp! only [dictD]
 have ek:(((ks.map prR).map (·.1)).map fun w=>D.tup (w.map D.str))=(ks.map (·.1)).map wayD:=by
  rw [List.map_map,List.map_map,List.map_map]
  rfl
 rw [ek]
 refine ⟨sortD_ways nd,by first | omega | (simp only [List.length_map]; omega),fun ds' hp hs=>?_⟩
 obtain ⟨vs,rfl,hv,hso⟩:=ways_back hp hs
 have hvl:vs.length=ks.length:=by rw [hv.length_eq,List.length_map]
 refine L2.comp_map (fun w=>rowD (w,lkR ks w)) vs (by lia) (fun w mw Y N hY=>?_) ?_
 ·have mw':=hv.mem_iff.mp mw
  simp! only [wayD]
  have wk:("" : Str)∉w:=by
   obtain ⟨r,mr,er⟩:=List.mem_map.mp mw'
   rw [← er]; exact (nm r mr).ok.ne
  exact ⟨by decide,wk,thD (lkR ks w),by rw [lkD_pairs]; exact lkP_lkR nd mw',by show 3≤sizeLine; decide,hY⟩
 ·simp! only [true_and]
  have e:vs.map (fun w=>rowD (w,lkR ks w))=(vs.map fun w=>(w,lkR ks w)).map rowD:=by rw [List.map_map]; rfl
  rw [e]
  obtain ⟨p1,p2⟩:=rows_of_ways nd hv hso
  generalize vs.map (fun w=>(w,lkR ks w))=qs at p1 p2
  refine h _ ⟨p2,fun r hr=>nm r (p1.mem_iff.mp hr),fun r hr z=>?_,by rw [p1.length_eq]; lia⟩
  have:=KI.ns r (p1.mem_iff.mp hr) z
  have ms:∀ v,markR qs v=markR ks v:=fun v=>by
   cases q:inR ks v with
   | false =>
    rw [markR_none q]
    refine markR_none ?_
    unfold inR at q ⊢
    rw [decide_eq_false_iff_not] at q ⊢
    rw [(p1.map (·.1)).mem_iff]
    exact q
   | true =>
    obtain ⟨x,mx,ex⟩:=List.mem_map.mp (of_decide_eq_true q)
    rw [← ex,markR_mem nd mx,markR_mem (((p1.map (·.1)).nodup_iff).mpr nd) (p1.mem_iff.mpr mx)]
  unfold shutR at this ⊢
  simp only [ms]
  exact this
def b_upper_of:TVS:=(vSeq (vSet 4 (vOp vMod (vVar 1) (vC (.int 6))))
 (vSeq (vIfS (vBl (vOp vEq (vVar 4) (vC (.int 0))))
  (vRetI (vF1 vList (vVar 0)))
  vNext)
 (vSeq (vIfS (vBl (vOp vLt (vVar 4) (vC (.int 3))))
  (vRetI (vCallN g_near_pane (vCons (vVar 0) (vCons (vOp vDiv (vVar 1) (vC (.int 6))) vNil))))
  vNext)
 (vSeq (vIfS (vBl (vOp vEq (vVar 4) (vC (.int 3))))
  (vRetI (vCallF g_pane_of (vCons (vVar 2) (vCons (vC (.int 21)) vNil))))
  vNext)
 (vRetCI g_pane_of 3 (vCons (vVar 2) (vCons (vC (.int 21)) vNil)))))))
abbrev N_upper_of:List Str:=["_law_lower","_law_drawn","_law_big_here","_law_pool","_law_road"]
theorem w_upper_of:∀ ds ps c Q,g_upper_of ds ps Q→b_upper_of (EnI 3 c Q) (startI N_upper_of 3 c ds ps):=by
 rintro ds ps c Q ⟨l,x,y,zs,rfl,rfl,L,hz,h⟩
 have s1000:=line10000
 have ll:=L.len
 refine v_cut (fun τ=>∃ rd:Int,τ=[some (.val (rowsL l)),some (.val (.int x)),some (.val (.int y)),some (.own (.io c (zs.map D.str))),some (.val (.int rd))]) ?_ fun nx hnx=>?now
 case now =>
  dsimp! only [true_and]
  exact hnx _ ⟨_,rfl⟩
 rintro τ ⟨rd,rfl⟩
 have po:∀ (n:Nat) (qs:List Str) (Y:R→List D→Prop),n≤400→Pool n qs→(∀ (p:List Row) (zs':List Str),MPn p→Y (.own (rowsL p)) (zs'.map D.str))→g_pane_of [.int y,.int 21] (qs.map D.str) Y:=fun n qs Y hn hq z=>⟨y,21,n,qs,rfl,rfl,by decide,by decide,by lia,hq,fun p zs' h1 _ _ _=>z p zs' (pane_mp h1)⟩
 refine v_ifn (fun _=>True) (fun Y y=>?test1) (fun _=>?yes1) fun _=>?rest1
 case test1 =>
  dsimp! only [true_and]
  exact y _ trivial
 case yes1 =>
  simp! only [rowsL]
  exact (h l zs L).1
 refine v_ifn (fun _=>True) (fun Y y=>?test2) (fun _=>?yes2) fun _=>?rest2
 case test2 =>
  dsimp! only [true_and]
  exact y _ trivial
 case yes2 =>
  have np:∀ (b:Int) (Y:R→Prop),(∀ q,MPn q→Y (.own (rowsL q)))→g_near_pane [rowsL l,.int b] Y:=fun b Y z=>⟨l,b,rfl,L,z⟩
  simp! only [true_and]
  refine np _ _ fun q hq=>?_
  simp! only [true_and]
  exact (h q zs hq).1
 refine v_ifn (fun _=>True) (fun Y y=>?test3) (fun _=>?yes3) fun _=>?rest3
 case test3 =>
  dsimp! only [true_and]
  exact y _ trivial
 case yes3 =>
  simp! only [true_and]
  refine po 0 [] _ (by decide) ⟨Nat.le_refl _,fun z hz=>by cases hz⟩ fun p zs' hp=>?_
  simp! only [true_and]
  exact (h p zs hp).2
 simp! only [true_and]
 refine po 360 zs _ (by decide) hz fun p zs' hp=>?_
 simp! only [true_and]
 exact (h p zs' hp).2
def b_law:TVS:=(vSeq (vSetO 1 (vLst vNil))
 (vIo 1 (vSeq (vSetCI 2 g_pane_of 1 (vCons (vCallN g_big (vCons (vVar 0) (vCons (vC (.int 1)) vNil))) (vCons (vC (.int 21)) vNil)))
 (vSeq (vSetCI 3 g_upper_of 1 (vCons (vVar 2) (vCons (vCallN g_big (vCons (vVar 0) (vCons (vC (.int 0)) vNil))) (vCons (vCallN g_big (vCons (vVar 0) (vCons (vC (.int 2)) vNil))) vNil))))
 (vSeq (vSet 4 (vLst (vCons (vF1 vList (vVar 3)) (vCons (vF1 vList (vVar 2)) vNil))))
 (vSeq (vSet 5 (vCallN g_meet (vCons (vOp vIxR (vVar 4) (vC (.int 0))) (vCons (vOp vIxR (vVar 4) (vC (.int 1))) vNil))))
 (vSeq (vSet 6 (vCallN g_meet (vCons (vOp vIxR (vVar 4) (vC (.int 1))) (vCons (vOp vIxR (vVar 4) (vC (.int 0))) vNil))))
 (vSeq (vIfS (vOrT (vBl (vOp vNeD (vOp vIxR (vVar 4) (vC (.int 0))) (vVar 3))) (vBl (vOp vNeD (vOp vIxR (vVar 4) (vC (.int 1))) (vVar 2))))
  (vRet (vC (.bl false)))
  vNext)
 (vRet (vAndE (vCallN g_pair_alike (vCons (vVar 5) (vCons (vCallN g_met (vCons (vVar 3) (vCons (vVar 2) vNil))) vNil))) (vCallN g_pair_alike (vCons (vVar 6) (vCons (vCallN g_met (vCons (vVar 2) (vCons (vVar 3) vNil))) vNil)))))))))))))
abbrev N_law:List Str:=["_law_script","_law_pool","_law_lower","_law_upper","_law_handed","_law_first","_law_turned"]
theorem w_law:∀ ds Q,g_law ds Q→b_law (En Q) (startD N_law ds):=by
 rintro ds Q ⟨ns,rfl,h⟩
 have s1000:=line10000
 refine v_cut (fun τ=>τ=[some (.val (.scr ns)),some (.own (.lst (([]:List Str).map D.str))),none,none,none,none,none]) ?_ fun nx hnx=>?now
 case now =>
  dsimp! only [true_and]
  exact hnx _ rfl
 rintro τ rfl
 show ∀ c:Addr,_
 intro c
 have bg:∀ (k:Int) (Y:R→Prop),0≤k→(∀ i,Y (.val (.int i)))→g_big [.scr ns,.int k] Y:=fun k Y k0 y=>⟨ns,k,rfl,k0,y⟩
 refine v_cut (fun τ=>∃ (l:List Row) (zs:List Str),(MPn l∧Pool 360 zs)∧τ=[some (.val (.scr ns)),some (.own (.io c (zs.map D.str))),some (.val (rowsL l)),none,none,none,none]) ?_ fun nx hnx=>?now
 case now =>
  have po:∀ (b:Int) (Y:R→List D→Prop),(∀ (p:List Row) (zs':List Str),PaneG 21 p→PFS p→TxE p→Pool 360 zs'→Y (.own (rowsL p)) (zs'.map D.str))→g_pane_of [.int b,.int 21] (([]:List Str).map D.str) Y:=fun b Y y=>⟨b,21,0,[],rfl,rfl,by decide,by decide,by decide,⟨Nat.le_refl _,fun z hz=>by cases hz⟩,fun p zs' h1 h2 h3 h4=>y p zs' h1 h2 h3 (h4.more (by decide))⟩
  dsimp! only [true_and]
  refine bg _ _ (by decide) fun i=>?_
  dsimp! only [true_and]
  refine po i _ fun p zs' hp _ _ hz=>?_
  dsimp! only [true_and]
  exact hnx _ ⟨p,zs',⟨pane_mp hp,hz⟩,rfl⟩
 rintro τ ⟨l,zs,⟨L,hz⟩,rfl⟩
 refine v_cut (fun τ=>∃ (u:List Row) (zs:List Str),MPn u∧τ=[some (.val (.scr ns)),some (.own (.io c (zs.map D.str))),some (.val (rowsL l)),some (.val (rowsL u)),none,none,none]) ?_ fun nx hnx=>?now
 case now =>
  have uo:∀ (x y:Int) (Y:R→List D→Prop),(∀ (p:List Row) (zs':List Str),MPn p→Y (.own (rowsL p)) (zs'.map D.str)∧Y (.val (rowsL p)) (zs'.map D.str))→g_upper_of [rowsL l,.int x,.int y] (zs.map D.str) Y:=fun x y Y z=>⟨l,x,y,zs,rfl,rfl,L,hz,z⟩
  dsimp! only [true_and]
  refine bg _ _ (by decide) fun i=>?_
  dsimp! only [true_and]
  refine bg _ _ (by decide) fun j=>?_
  dsimp! only [true_and]
  refine uo i j _ fun p zs' hp=>?_
  dsimp! only [true_and]
  exact hnx _ ⟨p,zs',hp,rfl⟩
 clear hz zs
 rintro τ ⟨u,zs,U,rfl⟩
 refine v_cut (fun τ=>τ=[some (.val (.scr ns)),some (.own (.io c (zs.map D.str))),some (.val (rowsL l)),some (.val (rowsL u)),some (.val (.lst [rowsL u,rowsL l])),none,none]) ?_ fun nx hnx=>?now
 case now =>
  dsimp! only [rowsL]
  exact ⟨by decide,hnx _ rfl⟩
 rintro τ rfl
 have mt:∀ (p q:List Row) (Y:R→Prop),MPn p→MPn q→(∀ o,MeetIs p q o→Y (.val (pairD o)))→g_meet [rowsL p,rowsL q] Y:=fun p q Y h1 h2 y=>⟨p,q,rfl,h1,h2,y⟩
 have me:∀ (p q:List Row) (Y:R→Prop),MPn p→MPn q→(∀ o,MeetIs p q o→Y (.val (pairD o)))→g_met [rowsL p,rowsL q] Y:=fun p q Y h1 h2 y=>⟨p,q,rfl,h1,h2,y⟩
 have pa:∀ (o:Option (Row × Row)) (Y:R→Prop),Y (.val (.bl true))→g_pair_alike [pairD o,pairD o] Y:=fun o Y y=>⟨o,rfl,y⟩
 refine v_cut (fun τ=>∃ o,MeetIs u l o∧τ=[some (.val (.scr ns)),some (.own (.io c (zs.map D.str))),some (.val (rowsL l)),some (.val (rowsL u)),some (.val (.lst [rowsL u,rowsL l])),some (.val (pairD o)),none]) ?_ fun nx hnx=>?now
 case now =>
  dsimp! only [true_and]
  refine mt u l _ U L fun o ho=>?_
  dsimp! only [true_and]
  exact hnx _ ⟨o,ho,rfl⟩
 rintro τ ⟨o1,m1,rfl⟩
 refine v_cut (fun τ=>∃ o,MeetIs l u o∧τ=[some (.val (.scr ns)),some (.own (.io c (zs.map D.str))),some (.val (rowsL l)),some (.val (rowsL u)),some (.val (.lst [rowsL u,rowsL l])),some (.val (pairD o1)),some (.val (pairD o))]) ?_ fun nx hnx=>?now
 case now =>
  dsimp! only [true_and]
  refine mt l u _ L U fun o ho=>?_
  dsimp! only [true_and]
  exact hnx _ ⟨o,ho,rfl⟩
 rintro τ ⟨o2,m2,rfl⟩
 refine v_ifn (fun c=>c=false) (fun Y y=>?test) (fun hc=>by cases hc) fun _=>?rest
 case test =>
  dsimp! only [true_and]
  rw [eqRL,decide_eq_true rfl,eqRL,decide_eq_true rfl]
  exact ⟨cmpRL _ _,Nat.le_trans (depRL _) (by decide),cmpRL _ _,Nat.le_trans (depRL _) (by decide),y _ rfl⟩
 simp! only [true_and]
 refine me u l _ U L fun o ho=>?_
 rw [m1.one ho]
 simp! only [true_and]
 refine pa o _ ?_
 simp! only [true_and]
 refine me l u _ L U fun o' ho'=>?_
 rw [m2.one ho']
 simp! only [true_and]
 refine pa o' _ ?_
 simp! only [true_and]
 exact h
theorem law_sp {K:PySem.W.Frag} {H:Hp} {a:Addr} (ns:List Int) (_:ns.length≤63) (hS:SqL K H a (ns.map V.int)) {E:XK}:spOf K g_law [.ref a] H (fun v _=>v=.bl true) E:=spOf_law ⟨ns,rfl,rfl⟩ hS
def top (i:Nat):Stmt:=PySem.Challenge.pw_glasslayers_k25_what_hangs.main.body.getD i (.Pass ⟨0,0,0,0⟩)
abbrev s_leads:Stmt:=top 1
abbrev s_by_way:Stmt:=top 3
abbrev s_keys_of:Stmt:=top 5
abbrev s_are_folders:Stmt:=top 7
abbrev s_shut_over:Stmt:=top 8
abbrev s_hanging_at:Stmt:=top 9
abbrev s_meet:Stmt:=top 10
abbrev s_cell_at:Stmt:=top 12
abbrev s_big:Stmt:=top 13
abbrev s_name_of:Stmt:=top 14
abbrev s_signs_of:Stmt:=top 15
abbrev s_words_of:Stmt:=top 16
abbrev s_text_of:Stmt:=top 17
abbrev s_under_shut:Stmt:=top 18
abbrev s_pane_of:Stmt:=top 19
abbrev s_near_mark:Stmt:=top 20
abbrev s_near_pane:Stmt:=top 21
abbrev s_upper_of:Stmt:=top 22
abbrev s_same:Stmt:=top 23
abbrev s_pair_alike:Stmt:=top 24
abbrev s_shuts:Stmt:=top 25
abbrev s_hang:Stmt:=top 26
abbrev s_met:Stmt:=top 27
abbrev s_law:Stmt:=top 28
structure Blt (K:PySem.W.Frag) (mg:Str→Option Value):Prop where
 isinstance:mg "isinstance" = none
 len:mg "len" = none
 list:mg "list" = none
 min:mg "min" = none
 range:mg "range" = none
 set:mg "set" = none
 sorted:mg "sorted" = none
 str:mg "str" = none
 tuple:mg "tuple" = none
section
variable {P:Program} {w:World} {K:PySem.W.Frag} {mg:Str→Option Value} {base:Heap} {f:Addr} {fd:FuncData}
theorem sc_name_of:FnScope ["_law_big_here","_law_pool","_law_signs","_law_kind","_law_name","_law_size","_law_k"] ["_law_big_here","_law_pool"] (defScope s_name_of):=⟨rfl,rfl,rfl,by decide +kernel,rfl,by decide +kernel,by decide +kernel⟩
theorem ok_name_of (F:Fun K "_law_name_of" "_law_name_of" s_name_of f fd) (B:Blt K mg):FnOk P w K mg base CX0 1 f fd ["_law_big_here","_law_pool"] (spOfI K g_name_of 1) :=
 F.okI (k:=1) sc_name_of len_name_of fun cdv A outer s H E hr=>⟨b_name_of,(vss_cons (vs_set (i:=2) sc_name_of.nd rfl (Or.inl rfl) ve_str)
  (vss_cons (vs_set (i:=3) sc_name_of.nd rfl (Or.inl rfl) (ve_op vo_mod (vv 0) ve_int))
  (vss_cons (vs_set (i:=0) sc_name_of.nd rfl (Or.inl rfl) (ve_op vo_div (vv 0) ve_int))
  (vss_cons (vs_if (vw_t (vw_and (vt_cmp vo_gt (vv 3) ve_int) (vw_and1 (vt_cmp (vo_neD hr.units) (vvI 1) (ve_lst va_nil)))))
   (vss_one (vs_retI (ve_tup (vac (ve_ix vx_seq (vvI 1) (ve_op vo_mod (vv 0) (ve_fb vf_len rfl B.len PyProof.Rows.Boot.«len» (vvI 1)))) (vac (ve_op vo_div (vv 0) (ve_fb vf_len rfl B.len PyProof.Rows.Boot.«len» (vvI 1))) va_nil)))))
   vss_nil)
  (vss_cons (vs_set (i:=4) sc_name_of.nd rfl (Or.inl rfl) ve_str)
  (vss_cons (vs_if (vw_t (vw_and (vt_cmp (vo_eq hr.units) (vv 3) ve_int) (vw_and1 (vt_cmp (vo_neD hr.units) (vvI 1) (ve_lst va_nil)))))
   (vss_cons (vs_set (i:=4) sc_name_of.nd rfl (Or.inl rfl) (ve_slice (ve_ix vx_seq (vvI 1) (ve_op vo_mod (vv 0) (ve_fb vf_len rfl B.len PyProof.Rows.Boot.«len» (vvI 1)))) vp_none (vp_some ve_int)))
  (vss_one (vs_set (i:=0) sc_name_of.nd rfl (Or.inl rfl) (ve_op vo_div (vv 0) (ve_fb vf_len rfl B.len PyProof.Rows.Boot.«len» (vvI 1))))))
   vss_nil)
  (vss_cons (vs_set (i:=5) sc_name_of.nd rfl (Or.inl rfl) (ve_op vo_add ve_int (ve_op vo_mod (vv 0) (ve_op vo_sub ve_int (ve_fb vf_len rfl B.len PyProof.Rows.Boot.«len» (vv 4))))))
  (vss_cons (vs_set (i:=0) sc_name_of.nd rfl (Or.inl rfl) (ve_op vo_div (vv 0) (ve_op vo_sub ve_int (ve_fb vf_len rfl B.len PyProof.Rows.Boot.«len» (vv 4)))))
  (vss_cons (vs_for PassesOwn.never rfl (vi_rng1 rfl B.range (vv 5)) (vg_name (i:=6) sc_name_of.nd rfl (Or.inl rfl))
   (vss_cons (vs_set (i:=4) sc_name_of.nd rfl (Or.inl rfl) (ve_op vo_add (vv 4) (ve_ix vx_seq (vv 2) (ve_op vo_mod (vv 0) ve_int))))
  (vss_one (vs_set (i:=0) sc_name_of.nd rfl (Or.inl rfl) (ve_op vo_div (vv 0) ve_int)))))
  (vss_cons (vs_appendI 1 (vv 4))
  (vss_one (vs_retI (ve_tup (vac (vv 4) (vac (vv 0) va_nil))))))))))))))),w_name_of⟩
theorem sc_under_shut:FnScope ["_law_things","_law_way","_law_k"] ["_law_things","_law_way"] (defScope s_under_shut):=⟨rfl,rfl,rfl,by decide +kernel,rfl,by decide +kernel,by decide +kernel⟩
theorem ok_under_shut (F:Fun K "_law_under_shut" "_law_under_shut" s_under_shut f fd) (B:Blt K mg):FnOk P w K mg base CX0 1 f fd ["_law_things","_law_way"] (spOf K g_under_shut) :=
 F.okV sc_under_shut len_under_shut fun cdv A outer s H E hr=>⟨b_under_shut,(vss_cons (vs_for PassesOwn.never rfl (vi_rng1 rfl B.range (ve_fb vf_len rfl B.len PyProof.Rows.Boot.«len» (vv 1))) (vg_name (i:=2) sc_under_shut.nd rfl (Or.inl rfl))
   (vss_one (vs_if (vw_t (vw_and (vt_din hr.dict (ve_slice (vv 1) vp_none (vp_some (vv 2))) (vv 0)) (vw_and1 (vt_cmp (vo_eq hr.units) (ve_ix vx_seq (ve_dget hr.dict (vv 0) (ve_slice (vv 1) vp_none (vp_some (vv 2)))) ve_int) ve_str))))
   (vss_one (vs_ret ve_bl))
   vss_nil)))
  (vss_one (vs_ret ve_bl))),w_under_shut⟩
theorem sc_signs_of:FnScope ["_law_big_here","_law_most","_law_some","_law_size","_law_text","_law_k"] ["_law_big_here","_law_most"] (defScope s_signs_of):=⟨rfl,rfl,rfl,by decide +kernel,rfl,by decide +kernel,by decide +kernel⟩
theorem ok_signs_of (F:Fun K "_law_signs_of" "_law_signs_of" s_signs_of f fd) (B:Blt K mg):FnOk P w K mg base CX0 1 f fd ["_law_big_here","_law_most"] (spOf K g_signs_of) :=
 F.okV sc_signs_of len_signs_of fun cdv A outer s H E hr=>⟨b_signs_of,(vss_cons (vs_set (i:=2) sc_signs_of.nd rfl (Or.inl rfl) ve_str)
  (vss_cons (vs_set (i:=2) sc_signs_of.nd rfl (Or.inl rfl) (ve_op vo_add (vv 2) ve_str))
  (vss_cons (vs_set (i:=3) sc_signs_of.nd rfl (Or.inl rfl) (ve_op vo_mod (vv 0) (ve_op vo_add (vv 1) ve_int)))
  (vss_cons (vs_set (i:=0) sc_signs_of.nd rfl (Or.inl rfl) (ve_op vo_div (vv 0) (ve_op vo_add (vv 1) ve_int)))
  (vss_cons (vs_set (i:=4) sc_signs_of.nd rfl (Or.inl rfl) ve_str)
  (vss_cons (vs_for PassesOwn.never rfl (vi_rng1 rfl B.range (vv 3)) (vg_name (i:=5) sc_signs_of.nd rfl (Or.inl rfl))
   (vss_cons (vs_set (i:=4) sc_signs_of.nd rfl (Or.inl rfl) (ve_op vo_add (vv 4) (ve_ix vx_seq (vv 2) (ve_op vo_mod (vv 0) ve_int))))
  (vss_one (vs_set (i:=0) sc_signs_of.nd rfl (Or.inl rfl) (ve_op vo_div (vv 0) ve_int)))))
  (vss_one (vs_ret (ve_tup (vac (vv 4) (vac (vv 0) va_nil))))))))))),w_signs_of⟩
theorem sc_words_of:FnScope ["_law_big_here","_law_many","_law_pool","_law_words","_law_k","_law_word","_law_kind"] ["_law_big_here","_law_many","_law_pool"] (defScope s_words_of):=⟨rfl,rfl,rfl,by decide +kernel,rfl,by decide +kernel,by decide +kernel⟩
theorem ok_words_of (F:Fun K "_law_words_of" "_law_words_of" s_words_of f fd) (B:Blt K mg) (Cname_of:Cal P w K mg base 1 "_law_name_of" ["_law_big_here","_law_pool"] (spOfI K g_name_of 1)):FnOk P w K mg base CX0 2 f fd ["_law_big_here","_law_many","_law_pool"] (spOfI K g_words_of 2) :=
 F.okI (k:=2) sc_words_of len_words_of fun cdv A outer s H E hr=>⟨b_words_of,(vss_cons (vs_setO (i:=3) sc_words_of.nd rfl (Or.inl rfl) (ve_lst va_nil))
  (vss_cons (vs_for PassesOwn.never rfl (vi_rng1 rfl B.range (vv 1)) (vg_name (i:=4) sc_words_of.nd rfl (Or.inl rfl))
   (vss_cons (vs_set (i:=5) sc_words_of.nd rfl (Or.inl rfl) (ve_ix vx_seq (ve_tup (vac ve_str (vac ve_str va_nil))) (ve_op vo_mod (vv 0) ve_int)))
  (vss_cons (vs_set (i:=6) sc_words_of.nd rfl (Or.inl rfl) (ve_op vo_mod (ve_op vo_div (vv 0) ve_int) ve_int))
  (vss_cons (vs_set (i:=0) sc_words_of.nd rfl (Or.inl rfl) (ve_op vo_div (vv 0) ve_int))
  (vss_cons (vs_if (vt_cmp (vo_eq hr.units) (vv 6) ve_int)
   (vss_one (vs_asgI Cname_of (hr.mono (by decide)) rfl (vai_c (vv 0) (vai_here 2 va_nil)) (vg_tup rfl (vgs_cons (vg_name (i:=5) sc_words_of.nd rfl (Or.inl rfl)) (vgs_cons (vg_name (i:=0) sc_words_of.nd rfl (Or.inl rfl)) vgs_nil)))))
   vss_nil)
  (vss_one (vs_append 3 (vv 5))))))))
  (vss_frz 3 (vss_one (vs_retI (ve_tup (vac (vv 3) (vac (vv 0) va_nil)))))))),w_words_of⟩
theorem sc_text_of:FnScope ["_law_mark","_law_big_here","_law_pool","_law_rooted","_law_words"] ["_law_mark","_law_big_here","_law_pool"] (defScope s_text_of):=⟨rfl,rfl,rfl,by decide +kernel,rfl,by decide +kernel,by decide +kernel⟩
theorem ok_text_of (F:Fun K "_law_text_of" "_law_text_of" s_text_of f fd) (B:Blt K mg) (Csigns_of:Cal P w K mg base 1 "_law_signs_of" ["_law_big_here","_law_most"] (spOf K g_signs_of)) (Cwords_of:Cal P w K mg base 2 "_law_words_of" ["_law_big_here","_law_many","_law_pool"] (spOfI K g_words_of 2)):FnOk P w K mg base CX0 3 f fd ["_law_mark","_law_big_here","_law_pool"] (spOfI K g_text_of 2) :=
 F.okI (k:=2) sc_text_of len_text_of fun cdv A outer s H E hr=>⟨b_text_of,(vss_cons (vs_if (vt_cmp (vo_eq hr.units) (vv 0) ve_str)
   (vss_one (vs_retI (ve_cal Csigns_of (hr.mono (by decide)) rfl (vac (vv 1) (vac ve_int va_nil)))))
   vss_nil)
  (vss_cons (vs_if (vt_cmp (vo_neD hr.units) (vv 0) ve_str)
   (vss_one (vs_retI (ve_tup (vac ve_str (vac (vv 1) va_nil)))))
   vss_nil)
  (vss_cons (vs_set (i:=3) sc_text_of.nd rfl (Or.inl rfl) (ve_op vo_mod (vv 1) ve_int))
  (vss_cons (vs_asgI Cwords_of (hr.mono (by decide)) rfl (vai_c (ve_op vo_div (vv 1) ve_int) (vai_c (ve_op vo_sub (ve_op vo_add (ve_op vo_mod (ve_op vo_div (vv 1) ve_int) ve_int) ve_int) (vv 3)) (vai_here 2 va_nil))) (vg_tup rfl (vgs_cons (vg_name (i:=4) sc_text_of.nd rfl (Or.inl rfl)) (vgs_cons (vg_name (i:=1) sc_text_of.nd rfl (Or.inl rfl)) vgs_nil))))
  (vss_one (vs_retI (ve_tup (vac (ve_op vo_add (ve_op vo_mulS ve_str (vv 3)) (ve_join ve_str (vv 4))) (vac (vv 1) va_nil))))))))),w_text_of⟩
theorem sc_pane_of:FnScope ["_law_big_here","_law_most","_law_pool","_law_things","_law_folders","_law_many","_law_k","_law_over","_law_mark","_law_name","_law_way","_law_text"] ["_law_big_here","_law_most","_law_pool"] (defScope s_pane_of):=⟨rfl,rfl,rfl,by decide +kernel,rfl,by decide +kernel,by decide +kernel⟩
theorem cs_pane_of0:CompScope (defScope s_pane_of) ["_law_big_here","_law_most","_law_pool","_law_things","_law_folders","_law_many","_law_k","_law_over","_law_mark","_law_name","_law_way","_law_text"] ["_law_big_here","_law_most","_law_pool","_law_things","_law_folders","_law_many","_law_k","_law_over","_law_mark","_law_name","_law_way'","_law_text","_law_way"] ["_law_way"] ({ kind:=PySem.ScopeKind.function,names:=[ (PySem.Str.ofString ".0",PySem.NameKind.local),(PySem.Str.ofString "_law_way",PySem.NameKind.local),(PySem.Str.ofString "_law_things",PySem.NameKind.free)],isGenerator:=false,isCoroutine:=false,more:=[]:PySem.Scope }):=⟨rfl,by decide +kernel,by decide +kernel,by decide +kernel,by decide +kernel,rfl,by decide +kernel⟩
theorem ok_pane_of (F:Fun K "_law_pane_of" "_law_pane_of" s_pane_of f fd) (B:Blt K mg) (Cname_of:Cal P w K mg base 1 "_law_name_of" ["_law_big_here","_law_pool"] (spOfI K g_name_of 1)) (Cunder_shut:Cal P w K mg base 1 "_law_under_shut" ["_law_things","_law_way"] (spOf K g_under_shut)) (Ctext_of:Cal P w K mg base 3 "_law_text_of" ["_law_mark","_law_big_here","_law_pool"] (spOfI K g_text_of 2)):FnOk P w K mg base CX0 4 f fd ["_law_big_here","_law_most","_law_pool"] (spOfI K g_pane_of 2) :=
 F.okI (k:=2) sc_pane_of len_pane_of fun cdv A outer s H E hr=>⟨b_pane_of,(vss_cons (vs_setO (i:=3) sc_pane_of.nd rfl (Or.inr rfl) ve_dnewT)
  (vss_cons (vs_setO (i:=4) sc_pane_of.nd rfl (Or.inl rfl) (ve_lst (vac (ve_tup va_nil) va_nil)))
  (vss_cons (vs_if (vt_cmp (vo_eq hr.units) (ve_op vo_mod (vv 0) ve_int) ve_int)
   (vss_one (vs_dput 3 hr.dict (ve_tup va_nil) (ve_tup (vac ve_str (vac ve_str va_nil)))))
   vss_nil)
  (vss_cons (vs_set (i:=5) sc_pane_of.nd rfl (Or.inl rfl) (ve_op vo_mod (ve_op vo_div (vv 0) ve_int) (ve_op vo_add (vv 1) ve_int)))
  (vss_cons (vs_set (i:=0) sc_pane_of.nd rfl (Or.inl rfl) (ve_op vo_div (ve_op vo_div (vv 0) ve_int) (ve_op vo_add (vv 1) ve_int)))
  (vss_cons (vs_for PassesOwn.never rfl (vi_rng1 rfl B.range (vv 5)) (vg_name (i:=6) sc_pane_of.nd rfl (Or.inl rfl))
   (vss_cons (vs_set (i:=7) sc_pane_of.nd rfl (Or.inl rfl) (ve_ix vx_seq (vv 4) (ve_op vo_mod (vv 0) (ve_fb vf_len rfl B.len PyProof.Rows.Boot.«len» (vv 4)))))
  (vss_cons (vs_set (i:=0) sc_pane_of.nd rfl (Or.inl rfl) (ve_op vo_div (vv 0) (ve_fb vf_len rfl B.len PyProof.Rows.Boot.«len» (vv 4))))
  (vss_cons (vs_set (i:=8) sc_pane_of.nd rfl (Or.inl rfl) (ve_ix vx_seq (ve_tup (vac ve_str (vac ve_str (vac ve_str (vac ve_str (vac ve_str va_nil)))))) (ve_op vo_mod (vv 0) ve_int)))
  (vss_cons (vs_asgI Cname_of (hr.mono (by decide)) rfl (vai_c (ve_op vo_div (vv 0) ve_int) (vai_here 2 va_nil)) (vg_tup rfl (vgs_cons (vg_name (i:=9) sc_pane_of.nd rfl (Or.inl rfl)) (vgs_cons (vg_name (i:=0) sc_pane_of.nd rfl (Or.inl rfl)) vgs_nil))))
  (vss_cons (vs_set (i:=10) sc_pane_of.nd rfl (Or.inl rfl) (ve_op vo_add (vv 7) (ve_tup (vac (vv 9) va_nil))))
  (vss_cons (vs_if (vw_t (vw_and (vt_cmp vo_in (vv 8) (ve_tup (vac ve_str (vac ve_str va_nil)))) (vw_and1 (vt_val (ve_calB (i:=3) Cunder_shut (hr.mono (by decide)) rfl (vac (vv 10) va_nil))))))
   (vss_one (vs_set (i:=8) sc_pane_of.nd rfl (Or.inl rfl) ve_str))
   vss_nil)
  (vss_cons (vs_asgI Ctext_of (hr.mono (by decide)) rfl (vai_c (vv 8) (vai_c (vv 0) (vai_here 2 va_nil))) (vg_tup rfl (vgs_cons (vg_name (i:=11) sc_pane_of.nd rfl (Or.inl rfl)) (vgs_cons (vg_name (i:=0) sc_pane_of.nd rfl (Or.inl rfl)) vgs_nil))))
  (vss_one (vs_if (vw_t (vw_and (vt_dnotin hr.dict (vv 10) (vv 3)) (vw_and1 (vt_cmp vo_lt (ve_fb vf_len rfl B.len PyProof.Rows.Boot.«len» (vv 10)) ve_int))))
   (vss_cons (vs_dput 3 hr.dict (vv 10) (ve_tup (vac (vv 8) (vac (vv 11) va_nil))))
  (vss_one (vs_if (vt_cmp vo_in (vv 8) (ve_tup (vac ve_str (vac ve_str va_nil))))
   (vss_one (vs_append 4 (vv 10)))
   vss_nil)))
   vss_nil))))))))))
  (vss_one (vs_retI (vc_e (vc_comp (M:=["_law_way"]) (vi_any (ve_fb (vf_sorted hr.units) rfl B.sorted PyProof.Rows.Boot.«sorted» (ve_ft (vf_listD hr.hd) rfl B.list PyProof.Rows.Boot.«list» (vv 3)))) rfl cs_pane_of0 (fun cl C s2 H2 fp pn=>(vg_name (i:=12) (cs_pane_of0).nd rfl (Or.inl rfl))) (fun cl C s2 H2 fp pn=>vfs_nil) (fun cl C s2 H2 fp pn=>(ve_op vo_add (ve_tup (vac (vv 12) va_nil)) (ve_dget hr.dict (vv 3) (vv 12)))))))))))))),w_pane_of⟩
theorem sc_cell_at:FnScope ["_law_script","_law_k"] ["_law_script","_law_k"] (defScope s_cell_at):=⟨rfl,rfl,rfl,by decide +kernel,rfl,by decide +kernel,by decide +kernel⟩
theorem ok_cell_at (F:Fun K "_law_cell_at" "_law_cell_at" s_cell_at f fd) (B:Blt K mg):FnOk P w K mg base CX0 1 f fd ["_law_script","_law_k"] (spOf K g_cell_at) :=
 F.okV sc_cell_at len_cell_at fun cdv A outer s H E hr=>⟨b_cell_at,(vss_cons (vs_if (vt_cmp vo_lt (vv 1) (ve_fb vf_len rfl B.len PyProof.Rows.Boot.«len» (vv 0)))
   (vss_one (vs_ret (ve_ix vx_seq (vv 0) (vv 1))))
   vss_nil)
  (vss_one (vs_ret ve_int))),w_cell_at⟩
theorem sc_big:FnScope ["_law_script","_law_at","_law_by","_law_prime","_law_cell","_law_big_here","_law_k","_law_one"] ["_law_script","_law_at"] (defScope s_big):=⟨rfl,rfl,rfl,by decide +kernel,rfl,by decide +kernel,by decide +kernel⟩
theorem ok_big (F:Fun K "_law_big" "_law_big" s_big f fd) (B:Blt K mg) (Ccell_at:Cal P w K mg base 1 "_law_cell_at" ["_law_script","_law_k"] (spOf K g_cell_at)):FnOk P w K mg base CX0 2 f fd ["_law_script","_law_at"] (spOf K g_big) :=
 F.okV sc_big len_big fun cdv A outer s H E hr=>⟨b_big,(vss_cons (vs_set (i:=2) sc_big.nd rfl (Or.inl rfl) (ve_tup (vac ve_int (vac ve_int (vac ve_int (vac ve_int (vac ve_int (vac ve_int (vac ve_int (vac ve_int va_nil))))))))))
  (vss_cons (vs_set (i:=3) sc_big.nd rfl (Or.inl rfl) (ve_tup (vac ve_int (vac ve_int (vac ve_int (vac ve_int (vac ve_int (vac ve_int (vac ve_int (vac ve_int va_nil))))))))))
  (vss_cons (vs_set (i:=4) sc_big.nd rfl (Or.inl rfl) (ve_cal Ccell_at (hr.mono (by decide)) rfl (vac (vv 0) (vac (vv 1) va_nil))))
  (vss_cons (vs_if (vt_cmp (vo_eq hr.units) (ve_op vo_mod (vv 4) ve_int) ve_int)
   (vss_one (vs_ret (ve_op vo_div (vv 4) ve_int)))
   vss_nil)
  (vss_cons (vs_set (i:=5) sc_big.nd rfl (Or.inl rfl) ve_int)
  (vss_cons (vs_for PassesOwn.never rfl (vi_rng1 rfl B.range ve_int) (vg_name (i:=6) sc_big.nd rfl (Or.inl rfl))
   (vss_cons (vs_set (i:=7) sc_big.nd rfl (Or.inl rfl) (ve_op vo_add (ve_op vo_add (ve_op vo_mod (ve_cal Ccell_at (hr.mono (by decide)) rfl (vac (vv 0) (vac (ve_op vo_add (vv 1) (ve_op vo_mod (vv 6) ve_int)) va_nil))) (ve_op vo_pow ve_int ve_int)) ve_int) (ve_op vo_mul (vv 6) (vv 6))))
  (vss_one (vs_set (i:=5) sc_big.nd rfl (Or.inl rfl) (ve_op vo_add (ve_op vo_mul (vv 5) ve_int) (ve_op vo_mod (ve_op vo_mod (ve_op vo_mul (vv 7) (ve_ix vx_seq (vv 2) (ve_op vo_mod (vv 6) ve_int))) (ve_ix vx_seq (vv 3) (ve_op vo_mod (vv 6) ve_int))) ve_int))))))
  (vss_one (vs_ret (vv 5))))))))),w_big⟩
theorem sc_near_mark:FnScope ["_law_row","_law_turn"] ["_law_row","_law_turn"] (defScope s_near_mark):=⟨rfl,rfl,rfl,by decide +kernel,rfl,by decide +kernel,by decide +kernel⟩
theorem ok_near_mark (F:Fun K "_law_near_mark" "_law_near_mark" s_near_mark f fd) (B:Blt K mg):FnOk P w K mg base CX0 1 f fd ["_law_row","_law_turn"] (spOf K g_near_mark) :=
 F.okV sc_near_mark len_near_mark fun cdv A outer s H E hr=>⟨b_near_mark,(vss_cons (vs_if (vw_t (vw_or (vt_cmp (vo_eq hr.units) (ve_ix vx_seq (vv 0) ve_int) (ve_tup va_nil)) (vw_or1 (vt_cmp (vo_eq hr.units) (vv 1) ve_int))))
   (vss_one (vs_ret (ve_ix vx_seq (vv 0) ve_int)))
   vss_nil)
  (vss_cons (vs_if (vw_t (vw_and (vt_cmp (vo_eq hr.units) (vv 1) ve_int) (vw_and1 (vt_cmp (vo_eq hr.units) (ve_ix vx_seq (vv 0) ve_int) ve_str))))
   (vss_one (vs_ret ve_str))
   vss_nil)
  (vss_cons (vs_if (vw_t (vw_and (vt_cmp (vo_eq hr.units) (vv 1) ve_int) (vw_and1 (vt_cmp (vo_eq hr.units) (ve_ix vx_seq (vv 0) ve_int) ve_str))))
   (vss_one (vs_ret ve_str))
   vss_nil)
  (vss_cons (vs_if (vt_cmp vo_gt (vv 1) ve_int)
   (vss_one (vs_ret (ve_ix vx_seq (ve_tup (vac ve_str (vac ve_str (vac ve_str va_nil)))) (ve_op vo_mod (vv 1) ve_int))))
   vss_nil)
  (vss_one (vs_ret (ve_ix vx_seq (vv 0) ve_int))))))),w_near_mark⟩
theorem sc_near_pane:FnScope ["_law_rows","_law_big_here","_law_spot","_law_turn","_law_every","_law_things","_law_k","_law_over","_law_hit","_law_mark","_law_text","_law_stays"] ["_law_rows","_law_big_here"] (defScope s_near_pane):=⟨rfl,rfl,rfl,by decide +kernel,rfl,by decide +kernel,by decide +kernel⟩
theorem cs_near_pane0:CompScope (defScope s_near_pane) ["_law_rows","_law_big_here","_law_spot","_law_turn","_law_every","_law_things","_law_k","_law_over","_law_hit","_law_mark","_law_text","_law_stays"] ["_law_rows","_law_big_here","_law_spot","_law_turn","_law_every","_law_things","_law_k","_law_over","_law_hit","_law_mark","_law_text","_law_stays","_law_way"] ["_law_way"] ({ kind:=PySem.ScopeKind.function,names:=[ (PySem.Str.ofString ".0",PySem.NameKind.local),(PySem.Str.ofString "_law_way",PySem.NameKind.local),(PySem.Str.ofString "_law_things",PySem.NameKind.free)],isGenerator:=false,isCoroutine:=false,more:=[]:PySem.Scope }):=⟨rfl,by decide +kernel,by decide +kernel,by decide +kernel,by decide +kernel,rfl,by decide +kernel⟩
theorem ok_near_pane (F:Fun K "_law_near_pane" "_law_near_pane" s_near_pane f fd) (B:Blt K mg) (Cnear_mark:Cal P w K mg base 1 "_law_near_mark" ["_law_row","_law_turn"] (spOf K g_near_mark)) (Cunder_shut:Cal P w K mg base 1 "_law_under_shut" ["_law_things","_law_way"] (spOf K g_under_shut)):FnOk P w K mg base CX0 2 f fd ["_law_rows","_law_big_here"] (spOf K g_near_pane) :=
 F.okV sc_near_pane len_near_pane fun cdv A outer s H E hr=>⟨b_near_pane,(vss_cons (vs_set (i:=2) sc_near_pane.nd rfl (Or.inl rfl) (ve_op vo_mod (vv 1) (ve_op vo_add (ve_fb vf_len rfl B.len PyProof.Rows.Boot.«len» (vv 0)) ve_int)))
  (vss_cons (vs_set (i:=1) sc_near_pane.nd rfl (Or.inl rfl) (ve_op vo_div (vv 1) (ve_op vo_add (ve_fb vf_len rfl B.len PyProof.Rows.Boot.«len» (vv 0)) ve_int)))
  (vss_cons (vs_set (i:=3) sc_near_pane.nd rfl (Or.inl rfl) (ve_op vo_mod (vv 1) ve_int))
  (vss_cons (vs_set (i:=4) sc_near_pane.nd rfl (Or.inl rfl) (ve_op vo_add ve_int (ve_op vo_mul ve_int (ve_op vo_mod (ve_op vo_div (vv 1) ve_int) ve_int))))
  (vss_cons (vs_setO (i:=5) sc_near_pane.nd rfl (Or.inr rfl) ve_dnewT)
  (vss_cons (vs_for PassesOwn.never rfl (vi_rng1 rfl B.range (ve_fb vf_len rfl B.len PyProof.Rows.Boot.«len» (vv 0))) (vg_name (i:=6) sc_near_pane.nd rfl (Or.inl rfl))
   (vss_cons (vs_set (i:=7) sc_near_pane.nd rfl (Or.inl rfl) (ve_slice (ve_ix vx_seq (ve_ix vx_seq (vv 0) (vv 6)) ve_int) vp_none (vp_some (ve_neg ve_int))))
  (vss_cons (vs_set (i:=8) sc_near_pane.nd rfl (Or.inl rfl) (ve_cmp (vo_eq hr.units) (ve_op vo_mod (ve_op vo_sub (vv 6) (vv 2)) (vv 4)) ve_int))
  (vss_cons (vs_set (i:=9) sc_near_pane.nd rfl (Or.inl rfl) (ve_ix vx_seq (ve_ix vx_seq (vv 0) (vv 6)) ve_int))
  (vss_cons (vs_if (vt_val (vv 8))
   (vss_one (vs_set (i:=9) sc_near_pane.nd rfl (Or.inl rfl) (ve_cal Cnear_mark (hr.mono (by decide)) rfl (vac (ve_ix vx_seq (vv 0) (vv 6)) (vac (vv 3) va_nil)))))
   vss_nil)
  (vss_cons (vs_if (vw_t (vw_and (vt_cmp vo_in (vv 9) (ve_tup (vac ve_str (vac ve_str va_nil)))) (vw_and1 (vt_val (ve_calB (i:=5) Cunder_shut (hr.mono (by decide)) rfl (vac (ve_ix vx_seq (ve_ix vx_seq (vv 0) (vv 6)) ve_int) va_nil))))))
   (vss_one (vs_set (i:=9) sc_near_pane.nd rfl (Or.inl rfl) ve_str))
   vss_nil)
  (vss_cons (vs_set (i:=10) sc_near_pane.nd rfl (Or.inl rfl) (ve_ix vx_seq (ve_ix vx_seq (vv 0) (vv 6)) ve_int))
  (vss_cons (vs_if (vt_cmp (vo_neD hr.units) (vv 9) (ve_ix vx_seq (ve_ix vx_seq (vv 0) (vv 6)) ve_int))
   (vss_one (vs_set (i:=10) sc_near_pane.nd rfl (Or.inl rfl) ve_str))
   vss_nil)
  (vss_cons (vs_if (vw_t (vw_and (vt_val (vv 8)) (vw_and1 (vt_cmp (vo_eq hr.units) (vv 9) ve_str))))
   (vss_one (vs_set (i:=10) sc_near_pane.nd rfl (Or.inl rfl) ve_str))
   vss_nil)
  (vss_cons (vs_set (i:=11) sc_near_pane.nd rfl (Or.inl rfl) (ve_or (ve_cmp vo_gt (vv 3) ve_int) (ve_one (ve_not (vv 8)))))
  (vss_one (vs_if (vw_t (vw_and (vt_val (vv 11)) (vw_and1 (vw_t (vw_or (vt_cmp (vo_eq hr.units) (vv 7) (ve_tup va_nil)) (vw_or1 (vw_t (vw_and (vt_din hr.dict (vv 7) (vv 5)) (vw_and1 (vt_cmp vo_in (ve_ix vx_seq (ve_dget hr.dict (vv 5) (vv 7)) ve_int) (ve_tup (vac ve_str (vac ve_str va_nil)))))))))))))
   (vss_one (vs_dput 5 hr.dict (ve_ix vx_seq (ve_ix vx_seq (vv 0) (vv 6)) ve_int) (ve_tup (vac (vv 9) (vac (vv 10) va_nil)))))
   vss_nil))))))))))))
  (vss_one (vs_ret (vc_e (vc_comp (M:=["_law_way"]) (vi_any (ve_fb (vf_sorted hr.units) rfl B.sorted PyProof.Rows.Boot.«sorted» (ve_ft (vf_listD hr.hd) rfl B.list PyProof.Rows.Boot.«list» (vv 5)))) rfl cs_near_pane0 (fun cl C s2 H2 fp pn=>(vg_name (i:=12) (cs_near_pane0).nd rfl (Or.inl rfl))) (fun cl C s2 H2 fp pn=>vfs_nil) (fun cl C s2 H2 fp pn=>(ve_op vo_add (ve_tup (vac (vv 12) va_nil)) (ve_dget hr.dict (vv 5) (vv 12)))))))))))))),w_near_pane⟩
theorem sc_upper_of:FnScope ["_law_lower","_law_drawn","_law_big_here","_law_pool","_law_road"] ["_law_lower","_law_drawn","_law_big_here","_law_pool"] (defScope s_upper_of):=⟨rfl,rfl,rfl,by decide +kernel,rfl,by decide +kernel,by decide +kernel⟩
theorem ok_upper_of (F:Fun K "_law_upper_of" "_law_upper_of" s_upper_of f fd) (B:Blt K mg) (Cnear_pane:Cal P w K mg base 2 "_law_near_pane" ["_law_rows","_law_big_here"] (spOf K g_near_pane)) (Cpane_of:Cal P w K mg base 4 "_law_pane_of" ["_law_big_here","_law_most","_law_pool"] (spOfI K g_pane_of 2)):FnOk P w K mg base CX0 5 f fd ["_law_lower","_law_drawn","_law_big_here","_law_pool"] (spOfI K g_upper_of 3) :=
 F.okI (k:=3) sc_upper_of len_upper_of fun cdv A outer s H E hr=>⟨b_upper_of,(vss_cons (vs_set (i:=4) sc_upper_of.nd rfl (Or.inl rfl) (ve_op vo_mod (vv 1) ve_int))
  (vss_cons (vs_if (vt_cmp (vo_eq hr.units) (vv 4) ve_int)
   (vss_one (vs_retI (ve_ft vf_list rfl B.list PyProof.Rows.Boot.«list» (vv 0))))
   vss_nil)
  (vss_cons (vs_if (vt_cmp vo_lt (vv 4) ve_int)
   (vss_one (vs_retI (ve_cal Cnear_pane (hr.mono (by decide)) rfl (vac (vv 0) (vac (ve_op vo_div (vv 1) ve_int) va_nil)))))
   vss_nil)
  (vss_cons (vs_if (vt_cmp (vo_eq hr.units) (vv 4) ve_int)
   (vss_one (vs_retI (ve_callF Cpane_of (hr.mono (by decide)) rfl (van_c (vv 2) (van_c ve_int van_last)))))
   vss_nil)
  (vss_one (vs_retCI Cpane_of (hr.mono (by decide)) rfl (vai_c (vv 2) (vai_c ve_int (vai_here 3 va_nil))))))))),w_upper_of⟩
theorem sc_by_way:FnScope ["entries","found","entry"] ["entries"] (defScope s_by_way):=⟨rfl,rfl,rfl,by decide +kernel,rfl,by decide +kernel,by decide +kernel⟩
theorem ok_by_way (F:Fun K "by_way" "by_way" s_by_way f fd) (B:Blt K mg):FnOk P w K mg base CX0 1 f fd ["entries"] (spOf K g_by_way) :=
 F.okV sc_by_way len_by_way fun cdv A outer s H E hr=>⟨b_by_way,(vss_cons (vs_setO (i:=1) sc_by_way.nd rfl (Or.inl rfl) ve_dnewT)
  (vss_cons (vs_for PassesOwn.never rfl (vi_any (vv 0)) (vg_name (i:=2) sc_by_way.nd rfl (Or.inl rfl))
   (vss_one (vs_dput 1 hr.dict (ve_ix vx_seq (vv 2) ve_int) (vv 2))))
  (vss_one (vs_retO 1)))),w_by_way⟩
theorem sc_keys_of:FnScope ["one","other"] ["one","other"] (defScope s_keys_of):=⟨rfl,rfl,rfl,by decide +kernel,rfl,by decide +kernel,by decide +kernel⟩
theorem ok_keys_of (F:Fun K "keys_of" "keys_of" s_keys_of f fd) (B:Blt K mg):FnOk P w K mg base CX0 1 f fd ["one","other"] (spOf K g_keys_of) :=
 F.okV sc_keys_of len_keys_of fun cdv A outer s H E hr=>⟨b_keys_of,(vss_one (vs_ret (ve_keys (i:=0) (j:=1) hr.units hr.hd rfl B.sorted rfl B.set))),w_keys_of⟩
theorem sc_leads:FnScope ["way"] ["way"] (defScope s_leads):=⟨rfl,rfl,rfl,by decide +kernel,rfl,by decide +kernel,by decide +kernel⟩
theorem cs_leads0:CompScope (defScope s_leads) ["way"] ["way","count"] ["count"] ({ kind:=PySem.ScopeKind.function,names:=[ (PySem.Str.ofString ".0",PySem.NameKind.local),(PySem.Str.ofString "count",PySem.NameKind.local),(PySem.Str.ofString "way",PySem.NameKind.free)],isGenerator:=false,isCoroutine:=false,more:=[]:PySem.Scope }):=⟨rfl,by decide +kernel,by decide +kernel,by decide +kernel,by decide +kernel,rfl,by decide +kernel⟩
theorem ok_leads (F:Fun K "leads" "leads" s_leads f fd) (B:Blt K mg):FnOk P w K mg base CX0 1 f fd ["way"] (spOf K g_leads) :=
 F.okV sc_leads len_leads fun cdv A outer s H E hr=>⟨b_leads,(vss_one (vs_ret (vc_e (vc_comp (M:=["count"]) (vi_rng2 rfl B.range ve_int (ve_fb vf_len rfl B.len PyProof.Rows.Boot.«len» (vv 0))) rfl cs_leads0 (fun cl C s2 H2 fp pn=>(vg_name (i:=1) (cs_leads0).nd rfl (Or.inl rfl))) (fun cl C s2 H2 fp pn=>vfs_nil) (fun cl C s2 H2 fp pn=>(ve_slice (vv 0) vp_none (vp_some (vv 1)))))))),w_leads⟩
theorem sc_shut_over:FnScope ["entry","pane","way"] ["entry","pane"] (defScope s_shut_over):=⟨rfl,rfl,rfl,by decide +kernel,rfl,by decide +kernel,by decide +kernel⟩
theorem ok_shut_over (F:Fun K "shut_over" "shut_over" s_shut_over f fd) (B:Blt K mg) (Cleads:Cal P w K mg base 1 "leads" ["way"] (spOf K g_leads)):FnOk P w K mg base CX0 2 f fd ["entry","pane"] (spOf K g_shut_over) :=
 F.okV sc_shut_over len_shut_over fun cdv A outer s H E hr=>⟨b_shut_over,(vss_cons (vs_if (vt_cmp (vo_eq hr.units) (ve_ix vx_seq (vv 0) ve_int) ve_str)
   (vss_one (vs_ret ve_non))
   vss_nil)
  (vss_cons (vs_for PassesOwn.never rfl (vi_any (ve_op vo_add (ve_lst (vac (ve_tup va_nil) va_nil)) (ve_cal Cleads (hr.mono (by decide)) rfl (vac (ve_ix vx_seq (vv 0) ve_int) va_nil)))) (vg_name (i:=2) sc_shut_over.nd rfl (Or.inl rfl))
   (vss_one (vs_if (vw_t (vw_and (vt_din hr.dict (vv 2) (vv 1)) (vw_and1 (vt_cmp (vo_eq hr.units) (ve_ix vx_seq (ve_dget hr.dict (vv 1) (vv 2)) ve_int) ve_str))))
   (vss_one (vs_ret (ve_dget hr.dict (vv 1) (vv 2))))
   vss_nil)))
  (vss_one (vs_ret ve_non)))),w_shut_over⟩
theorem sc_are_folders:FnScope ["one","other"] ["one","other"] (defScope s_are_folders):=⟨rfl,rfl,rfl,by decide +kernel,rfl,by decide +kernel,by decide +kernel⟩
theorem ok_are_folders (F:Fun K "are_folders" "are_folders" s_are_folders f fd) (B:Blt K mg):FnOk P w K mg base CX0 1 f fd ["one","other"] (spOf K g_are_folders) :=
 F.okV sc_are_folders len_are_folders fun cdv A outer s H E hr=>⟨b_are_folders,(vss_one (vs_ret (ve_and (ve_cmp vo_in (ve_ix vx_seq (vv 0) ve_int) (ve_tup (vac ve_str (vac ve_str va_nil)))) (ve_one (ve_cmp vo_in (ve_ix vx_seq (vv 1) ve_int) (ve_tup (vac ve_str (vac ve_str va_nil)))))))),w_are_folders⟩
theorem sc_hanging_at:FnScope ["upper","lower","way","one","other"] ["upper","lower","way"] (defScope s_hanging_at):=⟨rfl,rfl,rfl,by decide +kernel,rfl,by decide +kernel,by decide +kernel⟩
theorem ok_hanging_at (F:Fun K "hanging_at" "hanging_at" s_hanging_at f fd) (B:Blt K mg) (Cshut_over:Cal P w K mg base 2 "shut_over" ["entry","pane"] (spOf K g_shut_over)) (Care_folders:Cal P w K mg base 1 "are_folders" ["one","other"] (spOf K g_are_folders)):FnOk P w K mg base CX0 3 f fd ["upper","lower","way"] (spOf K g_hanging_at) :=
 F.okV sc_hanging_at len_hanging_at fun cdv A outer s H E hr=>⟨b_hanging_at,(vss_cons (vs_set (i:=3) sc_hanging_at.nd rfl (Or.inl rfl) (ve_dget1 hr.dict (vv 0) (vv 2)))
  (vss_cons (vs_set (i:=4) sc_hanging_at.nd rfl (Or.inl rfl) (ve_dget1 hr.dict (vv 1) (vv 2)))
  (vss_cons (vs_if (vt_cmp vo_is (vv 3) ve_non)
   (vss_one (vs_set (i:=3) sc_hanging_at.nd rfl (Or.inl rfl) (ve_cal Cshut_over (hr.mono (by decide)) rfl (vac (vv 4) (vac (vv 0) va_nil)))))
   (vss_one (vs_if (vt_cmp vo_is (vv 4) ve_non)
   (vss_one (vs_set (i:=4) sc_hanging_at.nd rfl (Or.inl rfl) (ve_cal Cshut_over (hr.mono (by decide)) rfl (vac (vv 3) (vac (vv 1) va_nil)))))
   (vss_one (vs_if (vw_t (vw_or (vt_cmp (vo_eq hr.units) (vv 3) (vv 4)) (vw_or1 (vt_val (ve_cal Care_folders (hr.mono (by decide)) rfl (vac (vv 3) (vac (vv 4) va_nil)))))))
   (vss_one (vs_ret ve_non))
   vss_nil)))))
  (vss_one (vs_ret (ve_ifExp (vw_t (vw_or (vt_cmp vo_is (vv 3) ve_non) (vw_or1 (vt_cmp vo_is (vv 4) ve_non)))) ve_non (ve_tup (vac (vv 3) (vac (vv 4) va_nil))))))))),w_hanging_at⟩
theorem sc_meet:FnScope ["upper","lower","uppers","lowers","way","pair"] ["upper","lower"] (defScope s_meet):=⟨rfl,rfl,rfl,by decide +kernel,rfl,by decide +kernel,by decide +kernel⟩
theorem ok_meet (F:Fun K "meet" "meet" s_meet f fd) (B:Blt K mg) (Cby_way:Cal P w K mg base 1 "by_way" ["entries"] (spOf K g_by_way)) (Ckeys_of:Cal P w K mg base 1 "keys_of" ["one","other"] (spOf K g_keys_of)) (Changing_at:Cal P w K mg base 3 "hanging_at" ["upper","lower","way"] (spOf K g_hanging_at)):FnOk P w K mg base CX0 4 f fd ["upper","lower"] (spOf K g_meet) :=
 F.okV sc_meet len_meet fun cdv A outer s H E hr=>⟨b_meet,(vss_cons (vs_setO (i:=2) sc_meet.nd rfl (Or.inl rfl) (ve_cal Cby_way (hr.mono (by decide)) rfl (vac (vv 0) va_nil)))
  (vss_cons (vs_setO (i:=3) sc_meet.nd rfl (Or.inl rfl) (ve_cal Cby_way (hr.mono (by decide)) rfl (vac (vv 1) va_nil)))
  (vss_frzD 3 (vss_frzD 2 (vss_cons (vs_for PassesOwn.never rfl (vi_any (ve_cal Ckeys_of (hr.mono (by decide)) rfl (vac (vv 2) (vac (vv 3) va_nil)))) (vg_name (i:=4) sc_meet.nd rfl (Or.inl rfl))
   (vss_cons (vs_set (i:=5) sc_meet.nd rfl (Or.inl rfl) (ve_cal Changing_at (hr.mono (by decide)) rfl (vac (vv 2) (vac (vv 3) (vac (vv 4) va_nil)))))
  (vss_one (vs_if (vt_cmp vo_isnot (vv 5) ve_non)
   (vss_one (vs_ret (vv 5)))
   vss_nil))))
  (vss_one (vs_ret ve_non))))))),w_meet⟩
theorem sc_same:FnScope ["_law_found","_law_due","_law_k","_law_row"] ["_law_found","_law_due"] (defScope s_same):=⟨rfl,rfl,rfl,by decide +kernel,rfl,by decide +kernel,by decide +kernel⟩
theorem ok_same (F:Fun K "_law_same" "_law_same" s_same f fd) (B:Blt K mg):FnOk P w K mg base CX0 1 f fd ["_law_found","_law_due"] (spOf K g_same) :=
 F.okV sc_same len_same fun cdv A outer s H E hr=>⟨b_same,(vss_cons (vs_if (vw_t (vw_or (vt_not (vt_val (ve_isin .list rfl B.isinstance rfl B.list PyProof.Rows.Boot.«list» (vv 0)))) (vw_or1 (vt_cmp (vo_neD hr.units) (ve_fb vf_len rfl B.len PyProof.Rows.Boot.«len» (vv 0)) (ve_fb vf_len rfl B.len PyProof.Rows.Boot.«len» (vv 1))))))
   (vss_one (vs_ret ve_bl))
   vss_nil)
  (vss_cons (vs_for PassesOwn.never rfl (vi_rng1 rfl B.range (ve_fb vf_len rfl B.len PyProof.Rows.Boot.«len» (vv 1))) (vg_name (i:=2) sc_same.nd rfl (Or.inl rfl))
   (vss_cons (vs_set (i:=3) sc_same.nd rfl (Or.inl rfl) (ve_ix vx_seq (vv 0) (vv 2)))
  (vss_cons (vs_if (vw_t (vw_or (vt_not (vt_val (ve_isin .tuple rfl B.isinstance rfl B.tuple PyProof.Rows.Boot.«tuple» (vv 3)))) (vw_or (vt_cmp (vo_neD hr.units) (ve_fb vf_len rfl B.len PyProof.Rows.Boot.«len» (vv 3)) ve_int) (vw_or1 (vt_not (vt_val (ve_isin .tuple rfl B.isinstance rfl B.tuple PyProof.Rows.Boot.«tuple» (ve_ix vx_seq (vv 3) ve_int))))))))
   (vss_one (vs_ret ve_bl))
   vss_nil)
  (vss_one (vs_if (vw_t (vw_or (vt_not (vt_val (ve_isin .str rfl B.isinstance rfl B.str PyProof.Rows.Boot.«str» (ve_ix vx_seq (vv 3) ve_int)))) (vw_or (vt_not (vt_val (ve_isin .str rfl B.isinstance rfl B.str PyProof.Rows.Boot.«str» (ve_ix vx_seq (vv 3) ve_int)))) (vw_or1 (vt_cmp (vo_neD hr.units) (vv 3) (ve_ix vx_seq (vv 1) (vv 2)))))))
   (vss_one (vs_ret ve_bl))
   vss_nil)))))
  (vss_one (vs_ret ve_bl)))),w_same⟩
theorem sc_pair_alike:FnScope ["_law_given","_law_due"] ["_law_given","_law_due"] (defScope s_pair_alike):=⟨rfl,rfl,rfl,by decide +kernel,rfl,by decide +kernel,by decide +kernel⟩
theorem ok_pair_alike (F:Fun K "_law_pair_alike" "_law_pair_alike" s_pair_alike f fd) (B:Blt K mg) (Csame:Cal P w K mg base 1 "_law_same" ["_law_found","_law_due"] (spOf K g_same)):FnOk P w K mg base CX0 2 f fd ["_law_given","_law_due"] (spOf K g_pair_alike) :=
 F.okV sc_pair_alike len_pair_alike fun cdv A outer s H E hr=>⟨b_pair_alike,(vss_cons (vs_if (vt_cmp vo_is (vv 1) ve_non)
   (vss_one (vs_ret (ve_cmp vo_is (vv 0) ve_non)))
   vss_nil)
  (vss_cons (vs_if (vw_t (vw_or (vt_not (vt_val (ve_isin .tuple rfl B.isinstance rfl B.tuple PyProof.Rows.Boot.«tuple» (vv 0)))) (vw_or1 (vt_cmp (vo_neD hr.units) (ve_fb vf_len rfl B.len PyProof.Rows.Boot.«len» (vv 0)) ve_int))))
   (vss_one (vs_ret ve_bl))
   vss_nil)
  (vss_one (vs_ret (ve_cal Csame (hr.mono (by decide)) rfl (vac (ve_ft vf_list rfl B.list PyProof.Rows.Boot.«list» (vv 0)) (vac (ve_ft vf_list rfl B.list PyProof.Rows.Boot.«list» (vv 1)) va_nil))))))),w_pair_alike⟩
theorem sc_shuts:FnScope ["_law_one","_law_two","_law_ones"] ["_law_one","_law_two","_law_ones"] (defScope s_shuts):=⟨rfl,rfl,rfl,by decide +kernel,rfl,by decide +kernel,by decide +kernel⟩
theorem ok_shuts (F:Fun K "_law_shuts" "_law_shuts" s_shuts f fd) (B:Blt K mg):FnOk P w K mg base CX0 1 f fd ["_law_one","_law_two","_law_ones"] (spOf K g_shuts) :=
 F.okV sc_shuts len_shuts fun cdv A outer s H E hr=>⟨b_shuts,(vss_cons (vs_if (vw_t (vw_or (vt_cmp (vo_neD hr.units) (ve_ix vx_seq (vv 0) ve_int) ve_str) (vw_or (vt_cmp (vo_eq hr.units) (ve_ix vx_seq (vv 1) ve_int) ve_str) (vw_or1 (vt_cmp vo_le (ve_fb vf_len rfl B.len PyProof.Rows.Boot.«len» (ve_ix vx_seq (vv 1) ve_int)) (ve_fb vf_len rfl B.len PyProof.Rows.Boot.«len» (ve_ix vx_seq (vv 0) ve_int)))))))
   (vss_one (vs_ret ve_bl))
   vss_nil)
  (vss_one (vs_ret (ve_and (ve_cmp (vo_eq hr.units) (ve_slice (ve_ix vx_seq (vv 1) ve_int) vp_none (vp_some (ve_fb vf_len rfl B.len PyProof.Rows.Boot.«len» (ve_ix vx_seq (vv 0) ve_int)))) (ve_ix vx_seq (vv 0) ve_int)) (ve_one (ve_cmp (vo_notinD hr.units) (ve_ix vx_seq (vv 1) ve_int) (vv 2))))))),w_shuts⟩
theorem sc_hang:FnScope ["_law_one","_law_two","_law_ones","_law_twos"] ["_law_one","_law_two","_law_ones","_law_twos"] (defScope s_hang):=⟨rfl,rfl,rfl,by decide +kernel,rfl,by decide +kernel,by decide +kernel⟩
theorem ok_hang (F:Fun K "_law_hang" "_law_hang" s_hang f fd) (B:Blt K mg) (Cshuts:Cal P w K mg base 1 "_law_shuts" ["_law_one","_law_two","_law_ones"] (spOf K g_shuts)):FnOk P w K mg base CX0 2 f fd ["_law_one","_law_two","_law_ones","_law_twos"] (spOf K g_hang) :=
 F.okV sc_hang len_hang fun cdv A outer s H E hr=>⟨b_hang,(vss_cons (vs_if (vt_cmp (vo_eq hr.units) (ve_ix vx_seq (vv 0) ve_int) (ve_ix vx_seq (vv 1) ve_int))
   (vss_one (vs_ret (ve_and (ve_cmp (vo_neD hr.units) (vv 0) (vv 1)) (ve_one (ve_not (ve_and (ve_cmp vo_in (ve_ix vx_seq (vv 0) ve_int) (ve_tup (vac ve_str (vac ve_str va_nil)))) (ve_one (ve_cmp vo_in (ve_ix vx_seq (vv 1) ve_int) (ve_tup (vac ve_str (vac ve_str va_nil)))))))))))
   vss_nil)
  (vss_one (vs_ret (ve_or (ve_cal Cshuts (hr.mono (by decide)) rfl (vac (vv 0) (vac (vv 1) (vac (vv 2) va_nil)))) (ve_one (ve_cal Cshuts (hr.mono (by decide)) rfl (vac (vv 1) (vac (vv 0) (vac (vv 3) va_nil))))))))),w_hang⟩
theorem sc_met:FnScope ["_law_upper","_law_lower","_law_ones","_law_twos","_law_pairs","_law_one","_law_two","_law_spot"] ["_law_upper","_law_lower"] (defScope s_met):=⟨rfl,rfl,rfl,by decide +kernel,rfl,by decide +kernel,by decide +kernel⟩
theorem cs_met0:CompScope (defScope s_met) ["_law_upper","_law_lower","_law_ones","_law_twos","_law_pairs","_law_one","_law_two","_law_spot"] ["_law_upper","_law_lower","_law_ones","_law_twos","_law_pairs","_law_one","_law_two","_law_spot","_law_row"] ["_law_row"] ({ kind:=PySem.ScopeKind.function,names:=[(PySem.Str.ofString ".0",PySem.NameKind.local),(PySem.Str.ofString "_law_row",PySem.NameKind.local)],isGenerator:=false,isCoroutine:=false,more:=[]:PySem.Scope }):=⟨rfl,by decide +kernel,by decide +kernel,by decide +kernel,by decide +kernel,rfl,by decide +kernel⟩
theorem cs_met1:CompScope (defScope s_met) ["_law_upper","_law_lower","_law_ones","_law_twos","_law_pairs","_law_one","_law_two","_law_spot"] ["_law_upper","_law_lower","_law_ones","_law_twos","_law_pairs","_law_one","_law_two","_law_spot","_law_row"] ["_law_row"] ({ kind:=PySem.ScopeKind.function,names:=[(PySem.Str.ofString ".0",PySem.NameKind.local),(PySem.Str.ofString "_law_row",PySem.NameKind.local)],isGenerator:=false,isCoroutine:=false,more:=[]:PySem.Scope }):=⟨rfl,by decide +kernel,by decide +kernel,by decide +kernel,by decide +kernel,rfl,by decide +kernel⟩
theorem ok_met (F:Fun K "_law_met" "_law_met" s_met f fd) (B:Blt K mg) (Chang:Cal P w K mg base 2 "_law_hang" ["_law_one","_law_two","_law_ones","_law_twos"] (spOf K g_hang)):FnOk P w K mg base CX0 3 f fd ["_law_upper","_law_lower"] (spOf K g_met) :=
 F.okV sc_met len_met fun cdv A outer s H E hr=>⟨b_met,(vss_cons (vs_setC (i:=2) sc_met.nd rfl (Or.inl rfl) (vc_comp (M:=["_law_row"]) (vi_any (vv 0)) rfl cs_met0 (fun cl C s2 H2 fp pn=>(vg_name (i:=8) (cs_met0).nd rfl (Or.inl rfl))) (fun cl C s2 H2 fp pn=>vfs_nil) (fun cl C s2 H2 fp pn=>(ve_ix vx_seq (vv 8) ve_int))))
  (vss_cons (vs_setC (i:=3) sc_met.nd rfl (Or.inl rfl) (vc_comp (M:=["_law_row"]) (vi_any (vv 1)) rfl cs_met1 (fun cl C s2 H2 fp pn=>(vg_name (i:=8) (cs_met1).nd rfl (Or.inl rfl))) (fun cl C s2 H2 fp pn=>vfs_nil) (fun cl C s2 H2 fp pn=>(ve_ix vx_seq (vv 8) ve_int))))
  (vss_cons (vs_setO (i:=4) sc_met.nd rfl (Or.inl rfl) ve_dnewT)
  (vss_cons (vs_for PassesOwn.never rfl (vi_any (vv 0)) (vg_name (i:=5) sc_met.nd rfl (Or.inl rfl))
   (vss_one (vs_for PassesOwn.never rfl (vi_any (vv 1)) (vg_name (i:=6) sc_met.nd rfl (Or.inl rfl))
   (vss_one (vs_if (vt_val (ve_cal Chang (hr.mono (by decide)) rfl (vac (vv 5) (vac (vv 6) (vac (vv 2) (vac (vv 3) va_nil))))))
   (vss_cons (vs_set (i:=7) sc_met.nd rfl (Or.inl rfl) (ve_ix vx_seq (vv 5) ve_int))
  (vss_cons (vs_if (vt_cmp vo_gt (ve_fb vf_len rfl B.len PyProof.Rows.Boot.«len» (ve_ix vx_seq (vv 6) ve_int)) (ve_fb vf_len rfl B.len PyProof.Rows.Boot.«len» (ve_ix vx_seq (vv 5) ve_int)))
   (vss_one (vs_set (i:=7) sc_met.nd rfl (Or.inl rfl) (ve_ix vx_seq (vv 6) ve_int)))
   vss_nil)
  (vss_one (vs_dput 4 hr.dict (vv 7) (ve_tup (vac (vv 5) (vac (vv 6) va_nil)))))))
   vss_nil)))))
  (vss_cons (vs_if (vt_cmp (vo_eq0 hr.units) (vv 4) ve_dnewT)
   (vss_one (vs_ret ve_non))
   vss_nil)
  (vss_one (vs_ret (ve_dget hr.dict (vv 4) (ve_fb (vf_minD hr.units hr.hd) rfl B.min PyProof.Rows.Boot.«min» (vv 4)))))))))),w_met⟩
theorem sc_law:FnScope ["_law_script","_law_pool","_law_lower","_law_upper","_law_handed","_law_first","_law_turned"] ["_law_script"] (defScope s_law):=⟨rfl,rfl,rfl,by decide +kernel,rfl,by decide +kernel,by decide +kernel⟩
theorem ok_law (F:Fun K "law" "law" s_law f fd) (B:Blt K mg) (Cpane_of:Cal P w K mg base 4 "_law_pane_of" ["_law_big_here","_law_most","_law_pool"] (spOfI K g_pane_of 2)) (Cbig:Cal P w K mg base 2 "_law_big" ["_law_script","_law_at"] (spOf K g_big)) (Cupper_of:Cal P w K mg base 5 "_law_upper_of" ["_law_lower","_law_drawn","_law_big_here","_law_pool"] (spOfI K g_upper_of 3)) (Cmeet:Cal P w K mg base 4 "meet" ["upper","lower"] (spOf K g_meet)) (Cpair_alike:Cal P w K mg base 2 "_law_pair_alike" ["_law_given","_law_due"] (spOf K g_pair_alike)) (Cmet:Cal P w K mg base 3 "_law_met" ["_law_upper","_law_lower"] (spOf K g_met)):FnOk P w K mg base CX0 6 f fd ["_law_script"] (spOf K g_law) :=
 F.okV sc_law len_law fun cdv A outer s H E hr=>⟨b_law,(vss_cons (vs_setO (i:=1) sc_law.nd rfl (Or.inl rfl) (ve_lst va_nil))
  (vss_io 1 (vss_cons (vs_setCI (i:=2) sc_law.nd rfl (Or.inl rfl) Cpane_of (hr.mono (by decide)) rfl (vai_c (ve_cal Cbig (hr.mono (by decide)) rfl (vac (vv 0) (vac ve_int va_nil))) (vai_c ve_int (vai_here 1 va_nil))))
  (vss_cons (vs_setCI (i:=3) sc_law.nd rfl (Or.inl rfl) Cupper_of (hr.mono (by decide)) rfl (vai_c (vv 2) (vai_c (ve_cal Cbig (hr.mono (by decide)) rfl (vac (vv 0) (vac ve_int va_nil))) (vai_c (ve_cal Cbig (hr.mono (by decide)) rfl (vac (vv 0) (vac ve_int va_nil))) (vai_here 1 va_nil)))))
  (vss_cons (vs_set (i:=4) sc_law.nd rfl (Or.inl rfl) (ve_lst (vac (ve_ft vf_list rfl B.list PyProof.Rows.Boot.«list» (vv 3)) (vac (ve_ft vf_list rfl B.list PyProof.Rows.Boot.«list» (vv 2)) va_nil))))
  (vss_cons (vs_set (i:=5) sc_law.nd rfl (Or.inl rfl) (ve_cal Cmeet (hr.mono (by decide)) rfl (vac (ve_ix vx_seq (vv 4) ve_int) (vac (ve_ix vx_seq (vv 4) ve_int) va_nil))))
  (vss_cons (vs_set (i:=6) sc_law.nd rfl (Or.inl rfl) (ve_cal Cmeet (hr.mono (by decide)) rfl (vac (ve_ix vx_seq (vv 4) ve_int) (vac (ve_ix vx_seq (vv 4) ve_int) va_nil))))
  (vss_cons (vs_if (vw_t (vw_or (vt_cmp (vo_neD hr.units) (ve_ix vx_seq (vv 4) ve_int) (vv 3)) (vw_or1 (vt_cmp (vo_neD hr.units) (ve_ix vx_seq (vv 4) ve_int) (vv 2)))))
   (vss_one (vs_ret ve_bl))
   vss_nil)
  (vss_one (vs_ret (ve_and (ve_cal Cpair_alike (hr.mono (by decide)) rfl (vac (vv 5) (vac (ve_cal Cmet (hr.mono (by decide)) rfl (vac (vv 3) (vac (vv 2) va_nil))) va_nil))) (ve_one (ve_cal Cpair_alike (hr.mono (by decide)) rfl (vac (vv 6) (vac (ve_cal Cmet (hr.mono (by decide)) rfl (vac (vv 2) (vac (vv 3) va_nil))) va_nil))))))))))))))),w_law⟩
end
theorem all_mk {l:PySem.W.OpenLaw} {w:World} {K:PySem.W.Frag} {h:Heap} {mg:Str→Option Value} {fa:Addr} (X:K.In h) (G:h.Ns mainGlobals mg) (hfa:mg "law" = some (.ref fa))
  {f1:Addr} {od1 an1:Option Addr} {sl1:Array (Option Value)} {oc1 kV1 dc1 pm1 cd1 ct1:Value}
  {f2:Addr} {od2 an2:Option Addr} {sl2:Array (Option Value)} {oc2 kV2 dc2 pm2 cd2 ct2:Value}
  {f3:Addr} {od3 an3:Option Addr} {sl3:Array (Option Value)} {oc3 kV3 dc3 pm3 cd3 ct3:Value}
  {f4:Addr} {od4 an4:Option Addr} {sl4:Array (Option Value)} {oc4 kV4 dc4 pm4 cd4 ct4:Value}
  {f5:Addr} {od5 an5:Option Addr} {sl5:Array (Option Value)} {oc5 kV5 dc5 pm5 cd5 ct5:Value}
  {f6:Addr} {od6 an6:Option Addr} {sl6:Array (Option Value)} {oc6 kV6 dc6 pm6 cd6 ct6:Value}
  {f7:Addr} {od7 an7:Option Addr} {sl7:Array (Option Value)} {oc7 kV7 dc7 pm7 cd7 ct7:Value}
  {f8:Addr} {od8 an8:Option Addr} {sl8:Array (Option Value)} {oc8 kV8 dc8 pm8 cd8 ct8:Value}
  {f9:Addr} {od9 an9:Option Addr} {sl9:Array (Option Value)} {oc9 kV9 dc9 pm9 cd9 ct9:Value}
  {f10:Addr} {od10 an10:Option Addr} {sl10:Array (Option Value)} {oc10 kV10 dc10 pm10 cd10 ct10:Value}
  {f11:Addr} {od11 an11:Option Addr} {sl11:Array (Option Value)} {oc11 kV11 dc11 pm11 cd11 ct11:Value}
  {f12:Addr} {od12 an12:Option Addr} {sl12:Array (Option Value)} {oc12 kV12 dc12 pm12 cd12 ct12:Value}
  {f13:Addr} {od13 an13:Option Addr} {sl13:Array (Option Value)} {oc13 kV13 dc13 pm13 cd13 ct13:Value}
  {f14:Addr} {od14 an14:Option Addr} {sl14:Array (Option Value)} {oc14 kV14 dc14 pm14 cd14 ct14:Value}
  {f15:Addr} {od15 an15:Option Addr} {sl15:Array (Option Value)} {oc15 kV15 dc15 pm15 cd15 ct15:Value}
  {f16:Addr} {od16 an16:Option Addr} {sl16:Array (Option Value)} {oc16 kV16 dc16 pm16 cd16 ct16:Value}
  {f17:Addr} {od17 an17:Option Addr} {sl17:Array (Option Value)} {oc17 kV17 dc17 pm17 cd17 ct17:Value}
  {f18:Addr} {od18 an18:Option Addr} {sl18:Array (Option Value)} {oc18 kV18 dc18 pm18 cd18 ct18:Value}
  {f19:Addr} {od19 an19:Option Addr} {sl19:Array (Option Value)} {oc19 kV19 dc19 pm19 cd19 ct19:Value}
  {f20:Addr} {od20 an20:Option Addr} {sl20:Array (Option Value)} {oc20 kV20 dc20 pm20 cd20 ct20:Value}
  {f21:Addr} {od21 an21:Option Addr} {sl21:Array (Option Value)} {oc21 kV21 dc21 pm21 cd21 ct21:Value}
  {f22:Addr} {od22 an22:Option Addr} {sl22:Array (Option Value)} {oc22 kV22 dc22 pm22 cd22 ct22:Value}
  {f23:Addr} {od23 an23:Option Addr} {sl23:Array (Option Value)} {oc23 kV23 dc23 pm23 cd23 ct23:Value}
  {f24:Addr} {od24 an24:Option Addr} {sl24:Array (Option Value)} {oc24 kV24 dc24 pm24 cd24 ct24:Value}
  (a1:PySem.W.nsIn K mainGlobals "leads" = some (some (.ref f1))) (l1:K.lookup f1=some ⟨oc1,od1,.func (PySem.W.fnOf "leads" "leads" (defArgs s_leads) (defBody s_leads) (defScope s_leads) .none kV1 dc1 pm1 an1 cd1 ct1),sl1⟩) (c1:PySem.W.codeIn K cd1 "leads" = true) (k1:PySem.W.keepIn K (.ref f1)=true)
  (a2:PySem.W.nsIn K mainGlobals "by_way" = some (some (.ref f2))) (l2:K.lookup f2=some ⟨oc2,od2,.func (PySem.W.fnOf "by_way" "by_way" (defArgs s_by_way) (defBody s_by_way) (defScope s_by_way) .none kV2 dc2 pm2 an2 cd2 ct2),sl2⟩) (c2:PySem.W.codeIn K cd2 "by_way" = true) (k2:PySem.W.keepIn K (.ref f2)=true)
  (a3:PySem.W.nsIn K mainGlobals "keys_of" = some (some (.ref f3))) (l3:K.lookup f3=some ⟨oc3,od3,.func (PySem.W.fnOf "keys_of" "keys_of" (defArgs s_keys_of) (defBody s_keys_of) (defScope s_keys_of) .none kV3 dc3 pm3 an3 cd3 ct3),sl3⟩) (c3:PySem.W.codeIn K cd3 "keys_of" = true) (k3:PySem.W.keepIn K (.ref f3)=true)
  (a4:PySem.W.nsIn K mainGlobals "are_folders" = some (some (.ref f4))) (l4:K.lookup f4=some ⟨oc4,od4,.func (PySem.W.fnOf "are_folders" "are_folders" (defArgs s_are_folders) (defBody s_are_folders) (defScope s_are_folders) .none kV4 dc4 pm4 an4 cd4 ct4),sl4⟩) (c4:PySem.W.codeIn K cd4 "are_folders" = true) (k4:PySem.W.keepIn K (.ref f4)=true)
  (a5:PySem.W.nsIn K mainGlobals "shut_over" = some (some (.ref f5))) (l5:K.lookup f5=some ⟨oc5,od5,.func (PySem.W.fnOf "shut_over" "shut_over" (defArgs s_shut_over) (defBody s_shut_over) (defScope s_shut_over) .none kV5 dc5 pm5 an5 cd5 ct5),sl5⟩) (c5:PySem.W.codeIn K cd5 "shut_over" = true) (k5:PySem.W.keepIn K (.ref f5)=true)
  (a6:PySem.W.nsIn K mainGlobals "hanging_at" = some (some (.ref f6))) (l6:K.lookup f6=some ⟨oc6,od6,.func (PySem.W.fnOf "hanging_at" "hanging_at" (defArgs s_hanging_at) (defBody s_hanging_at) (defScope s_hanging_at) .none kV6 dc6 pm6 an6 cd6 ct6),sl6⟩) (c6:PySem.W.codeIn K cd6 "hanging_at" = true) (k6:PySem.W.keepIn K (.ref f6)=true)
  (a7:PySem.W.nsIn K mainGlobals "meet" = some (some (.ref f7))) (l7:K.lookup f7=some ⟨oc7,od7,.func (PySem.W.fnOf "meet" "meet" (defArgs s_meet) (defBody s_meet) (defScope s_meet) .none kV7 dc7 pm7 an7 cd7 ct7),sl7⟩) (c7:PySem.W.codeIn K cd7 "meet" = true) (k7:PySem.W.keepIn K (.ref f7)=true)
  (a8:PySem.W.nsIn K mainGlobals "_law_cell_at" = some (some (.ref f8))) (l8:K.lookup f8=some ⟨oc8,od8,.func (PySem.W.fnOf "_law_cell_at" "_law_cell_at" (defArgs s_cell_at) (defBody s_cell_at) (defScope s_cell_at) .none kV8 dc8 pm8 an8 cd8 ct8),sl8⟩) (c8:PySem.W.codeIn K cd8 "_law_cell_at" = true) (k8:PySem.W.keepIn K (.ref f8)=true)
  (a9:PySem.W.nsIn K mainGlobals "_law_big" = some (some (.ref f9))) (l9:K.lookup f9=some ⟨oc9,od9,.func (PySem.W.fnOf "_law_big" "_law_big" (defArgs s_big) (defBody s_big) (defScope s_big) .none kV9 dc9 pm9 an9 cd9 ct9),sl9⟩) (c9:PySem.W.codeIn K cd9 "_law_big" = true) (k9:PySem.W.keepIn K (.ref f9)=true)
  (a10:PySem.W.nsIn K mainGlobals "_law_name_of" = some (some (.ref f10))) (l10:K.lookup f10=some ⟨oc10,od10,.func (PySem.W.fnOf "_law_name_of" "_law_name_of" (defArgs s_name_of) (defBody s_name_of) (defScope s_name_of) .none kV10 dc10 pm10 an10 cd10 ct10),sl10⟩) (c10:PySem.W.codeIn K cd10 "_law_name_of" = true) (k10:PySem.W.keepIn K (.ref f10)=true)
  (a11:PySem.W.nsIn K mainGlobals "_law_signs_of" = some (some (.ref f11))) (l11:K.lookup f11=some ⟨oc11,od11,.func (PySem.W.fnOf "_law_signs_of" "_law_signs_of" (defArgs s_signs_of) (defBody s_signs_of) (defScope s_signs_of) .none kV11 dc11 pm11 an11 cd11 ct11),sl11⟩) (c11:PySem.W.codeIn K cd11 "_law_signs_of" = true) (k11:PySem.W.keepIn K (.ref f11)=true)
  (a12:PySem.W.nsIn K mainGlobals "_law_words_of" = some (some (.ref f12))) (l12:K.lookup f12=some ⟨oc12,od12,.func (PySem.W.fnOf "_law_words_of" "_law_words_of" (defArgs s_words_of) (defBody s_words_of) (defScope s_words_of) .none kV12 dc12 pm12 an12 cd12 ct12),sl12⟩) (c12:PySem.W.codeIn K cd12 "_law_words_of" = true) (k12:PySem.W.keepIn K (.ref f12)=true)
  (a13:PySem.W.nsIn K mainGlobals "_law_text_of" = some (some (.ref f13))) (l13:K.lookup f13=some ⟨oc13,od13,.func (PySem.W.fnOf "_law_text_of" "_law_text_of" (defArgs s_text_of) (defBody s_text_of) (defScope s_text_of) .none kV13 dc13 pm13 an13 cd13 ct13),sl13⟩) (c13:PySem.W.codeIn K cd13 "_law_text_of" = true) (k13:PySem.W.keepIn K (.ref f13)=true)
  (a14:PySem.W.nsIn K mainGlobals "_law_under_shut" = some (some (.ref f14))) (l14:K.lookup f14=some ⟨oc14,od14,.func (PySem.W.fnOf "_law_under_shut" "_law_under_shut" (defArgs s_under_shut) (defBody s_under_shut) (defScope s_under_shut) .none kV14 dc14 pm14 an14 cd14 ct14),sl14⟩) (c14:PySem.W.codeIn K cd14 "_law_under_shut" = true) (k14:PySem.W.keepIn K (.ref f14)=true)
  (a15:PySem.W.nsIn K mainGlobals "_law_pane_of" = some (some (.ref f15))) (l15:K.lookup f15=some ⟨oc15,od15,.func (PySem.W.fnOf "_law_pane_of" "_law_pane_of" (defArgs s_pane_of) (defBody s_pane_of) (defScope s_pane_of) .none kV15 dc15 pm15 an15 cd15 ct15),sl15⟩) (c15:PySem.W.codeIn K cd15 "_law_pane_of" = true) (k15:PySem.W.keepIn K (.ref f15)=true)
  (a16:PySem.W.nsIn K mainGlobals "_law_near_mark" = some (some (.ref f16))) (l16:K.lookup f16=some ⟨oc16,od16,.func (PySem.W.fnOf "_law_near_mark" "_law_near_mark" (defArgs s_near_mark) (defBody s_near_mark) (defScope s_near_mark) .none kV16 dc16 pm16 an16 cd16 ct16),sl16⟩) (c16:PySem.W.codeIn K cd16 "_law_near_mark" = true) (k16:PySem.W.keepIn K (.ref f16)=true)
  (a17:PySem.W.nsIn K mainGlobals "_law_near_pane" = some (some (.ref f17))) (l17:K.lookup f17=some ⟨oc17,od17,.func (PySem.W.fnOf "_law_near_pane" "_law_near_pane" (defArgs s_near_pane) (defBody s_near_pane) (defScope s_near_pane) .none kV17 dc17 pm17 an17 cd17 ct17),sl17⟩) (c17:PySem.W.codeIn K cd17 "_law_near_pane" = true) (k17:PySem.W.keepIn K (.ref f17)=true)
  (a18:PySem.W.nsIn K mainGlobals "_law_upper_of" = some (some (.ref f18))) (l18:K.lookup f18=some ⟨oc18,od18,.func (PySem.W.fnOf "_law_upper_of" "_law_upper_of" (defArgs s_upper_of) (defBody s_upper_of) (defScope s_upper_of) .none kV18 dc18 pm18 an18 cd18 ct18),sl18⟩) (c18:PySem.W.codeIn K cd18 "_law_upper_of" = true) (k18:PySem.W.keepIn K (.ref f18)=true)
  (a19:PySem.W.nsIn K mainGlobals "_law_same" = some (some (.ref f19))) (l19:K.lookup f19=some ⟨oc19,od19,.func (PySem.W.fnOf "_law_same" "_law_same" (defArgs s_same) (defBody s_same) (defScope s_same) .none kV19 dc19 pm19 an19 cd19 ct19),sl19⟩) (c19:PySem.W.codeIn K cd19 "_law_same" = true) (k19:PySem.W.keepIn K (.ref f19)=true)
  (a20:PySem.W.nsIn K mainGlobals "_law_pair_alike" = some (some (.ref f20))) (l20:K.lookup f20=some ⟨oc20,od20,.func (PySem.W.fnOf "_law_pair_alike" "_law_pair_alike" (defArgs s_pair_alike) (defBody s_pair_alike) (defScope s_pair_alike) .none kV20 dc20 pm20 an20 cd20 ct20),sl20⟩) (c20:PySem.W.codeIn K cd20 "_law_pair_alike" = true) (k20:PySem.W.keepIn K (.ref f20)=true)
  (a21:PySem.W.nsIn K mainGlobals "_law_shuts" = some (some (.ref f21))) (l21:K.lookup f21=some ⟨oc21,od21,.func (PySem.W.fnOf "_law_shuts" "_law_shuts" (defArgs s_shuts) (defBody s_shuts) (defScope s_shuts) .none kV21 dc21 pm21 an21 cd21 ct21),sl21⟩) (c21:PySem.W.codeIn K cd21 "_law_shuts" = true) (k21:PySem.W.keepIn K (.ref f21)=true)
  (a22:PySem.W.nsIn K mainGlobals "_law_hang" = some (some (.ref f22))) (l22:K.lookup f22=some ⟨oc22,od22,.func (PySem.W.fnOf "_law_hang" "_law_hang" (defArgs s_hang) (defBody s_hang) (defScope s_hang) .none kV22 dc22 pm22 an22 cd22 ct22),sl22⟩) (c22:PySem.W.codeIn K cd22 "_law_hang" = true) (k22:PySem.W.keepIn K (.ref f22)=true)
  (a23:PySem.W.nsIn K mainGlobals "_law_met" = some (some (.ref f23))) (l23:K.lookup f23=some ⟨oc23,od23,.func (PySem.W.fnOf "_law_met" "_law_met" (defArgs s_met) (defBody s_met) (defScope s_met) .none kV23 dc23 pm23 an23 cd23 ct23),sl23⟩) (c23:PySem.W.codeIn K cd23 "_law_met" = true) (k23:PySem.W.keepIn K (.ref f23)=true)
  (a24:PySem.W.nsIn K mainGlobals "law" = some (some (.ref f24))) (l24:K.lookup f24=some ⟨oc24,od24,.func (PySem.W.fnOf "law" "law" (defArgs s_law) (defBody s_law) (defScope s_law) .none kV24 dc24 pm24 an24 cd24 ct24),sl24⟩) (c24:PySem.W.codeIn K cd24 "law" = true) (k24:PySem.W.keepIn K (.ref f24)=true)
  (z_isinstance:PySem.W.nsIn K mainGlobals "isinstance" = some none)
  (z_len:PySem.W.nsIn K mainGlobals "len" = some none)
  (z_list:PySem.W.nsIn K mainGlobals "list" = some none)
  (z_min:PySem.W.nsIn K mainGlobals "min" = some none)
  (z_range:PySem.W.nsIn K mainGlobals "range" = some none)
  (z_set:PySem.W.nsIn K mainGlobals "set" = some none)
  (z_sorted:PySem.W.nsIn K mainGlobals "sorted" = some none)
  (z_str:PySem.W.nsIn K mainGlobals "str" = some none)
  (z_tuple:PySem.W.nsIn K mainGlobals "tuple" = some none) :
  ∃ fd:FuncData,(∀ (s:Shared) (v:Value),BindsTo s fd ⟨[v],[]⟩ [("_law_script",v)])∧∀ base:Heap,K.In base→base.Ns mainGlobals mg→FnOk l.prog w K mg base CX0 6 fa fd ["_law_script"] (spOf K g_law):=by
 have e:=hfa.symm.trans (PySem.W.mg_of X G a24)
 cases e
 have B:Blt K mg:=⟨PySem.W.mg_none_of X G z_isinstance,PySem.W.mg_none_of X G z_len,PySem.W.mg_none_of X G z_list,PySem.W.mg_none_of X G z_min,PySem.W.mg_none_of X G z_range,PySem.W.mg_none_of X G z_set,PySem.W.mg_none_of X G z_sorted,PySem.W.mg_none_of X G z_str,PySem.W.mg_none_of X G z_tuple⟩
 have F1:=fun_mk (st:=s_leads) l1 c1 k1
 have b1:=F1.binds1 (ps:=["way"]) rfl fun _ _ _ _ _ _ _=>rfl
 have F2:=fun_mk (st:=s_by_way) l2 c2 k2
 have b2:=F2.binds1 (ps:=["entries"]) rfl fun _ _ _ _ _ _ _=>rfl
 have F3:=fun_mk (st:=s_keys_of) l3 c3 k3
 have b3:=F3.binds2 (ps:=["one","other"]) rfl fun _ _ _ _ _ _ _ _=>rfl
 have F4:=fun_mk (st:=s_are_folders) l4 c4 k4
 have b4:=F4.binds2 (ps:=["one","other"]) rfl fun _ _ _ _ _ _ _ _=>rfl
 have F5:=fun_mk (st:=s_shut_over) l5 c5 k5
 have b5:=F5.binds2 (ps:=["entry","pane"]) rfl fun _ _ _ _ _ _ _ _=>rfl
 have F6:=fun_mk (st:=s_hanging_at) l6 c6 k6
 have b6:=F6.binds3 (ps:=["upper","lower","way"]) rfl fun _ _ _ _ _ _ _ _ _=>rfl
 have F7:=fun_mk (st:=s_meet) l7 c7 k7
 have b7:=F7.binds2 (ps:=["upper","lower"]) rfl fun _ _ _ _ _ _ _ _=>rfl
 have F8:=fun_mk (st:=s_cell_at) l8 c8 k8
 have b8:=F8.binds2 (ps:=["_law_script","_law_k"]) rfl fun _ _ _ _ _ _ _ _=>rfl
 have F9:=fun_mk (st:=s_big) l9 c9 k9
 have b9:=F9.binds2 (ps:=["_law_script","_law_at"]) rfl fun _ _ _ _ _ _ _ _=>rfl
 have F10:=fun_mk (st:=s_name_of) l10 c10 k10
 have b10:=F10.binds2 (ps:=["_law_big_here","_law_pool"]) rfl fun _ _ _ _ _ _ _ _=>rfl
 have F11:=fun_mk (st:=s_signs_of) l11 c11 k11
 have b11:=F11.binds2 (ps:=["_law_big_here","_law_most"]) rfl fun _ _ _ _ _ _ _ _=>rfl
 have F12:=fun_mk (st:=s_words_of) l12 c12 k12
 have b12:=F12.binds3 (ps:=["_law_big_here","_law_many","_law_pool"]) rfl fun _ _ _ _ _ _ _ _ _=>rfl
 have F13:=fun_mk (st:=s_text_of) l13 c13 k13
 have b13:=F13.binds3 (ps:=["_law_mark","_law_big_here","_law_pool"]) rfl fun _ _ _ _ _ _ _ _ _=>rfl
 have F14:=fun_mk (st:=s_under_shut) l14 c14 k14
 have b14:=F14.binds2 (ps:=["_law_things","_law_way"]) rfl fun _ _ _ _ _ _ _ _=>rfl
 have F15:=fun_mk (st:=s_pane_of) l15 c15 k15
 have b15:=F15.binds3 (ps:=["_law_big_here","_law_most","_law_pool"]) rfl fun _ _ _ _ _ _ _ _ _=>rfl
 have F16:=fun_mk (st:=s_near_mark) l16 c16 k16
 have b16:=F16.binds2 (ps:=["_law_row","_law_turn"]) rfl fun _ _ _ _ _ _ _ _=>rfl
 have F17:=fun_mk (st:=s_near_pane) l17 c17 k17
 have b17:=F17.binds2 (ps:=["_law_rows","_law_big_here"]) rfl fun _ _ _ _ _ _ _ _=>rfl
 have F18:=fun_mk (st:=s_upper_of) l18 c18 k18
 have b18:=F18.binds4 (ps:=["_law_lower","_law_drawn","_law_big_here","_law_pool"]) rfl fun _ _ _ _ _ _ _ _ _ _=>rfl
 have F19:=fun_mk (st:=s_same) l19 c19 k19
 have b19:=F19.binds2 (ps:=["_law_found","_law_due"]) rfl fun _ _ _ _ _ _ _ _=>rfl
 have F20:=fun_mk (st:=s_pair_alike) l20 c20 k20
 have b20:=F20.binds2 (ps:=["_law_given","_law_due"]) rfl fun _ _ _ _ _ _ _ _=>rfl
 have F21:=fun_mk (st:=s_shuts) l21 c21 k21
 have b21:=F21.binds3 (ps:=["_law_one","_law_two","_law_ones"]) rfl fun _ _ _ _ _ _ _ _ _=>rfl
 have F22:=fun_mk (st:=s_hang) l22 c22 k22
 have b22:=F22.binds4 (ps:=["_law_one","_law_two","_law_ones","_law_twos"]) rfl fun _ _ _ _ _ _ _ _ _ _=>rfl
 have F23:=fun_mk (st:=s_met) l23 c23 k23
 have b23:=F23.binds2 (ps:=["_law_upper","_law_lower"]) rfl fun _ _ _ _ _ _ _ _=>rfl
 have F24:=fun_mk (st:=s_law) l24 c24 k24
 have b24:=F24.binds1 (ps:=["_law_script"]) rfl fun _ _ _ _ _ _ _=>rfl
 refine ⟨PySem.W.fnOf "law" "law" (defArgs s_law) (defBody s_law) (defScope s_law) .none kV24 dc24 pm24 an24 cd24 ct24,fun s v=>.of_eq rfl,fun base _ _=>?_⟩
 have Cname_of:=Cal.mk (ok_name_of (P:=l.prog) (w:=w) (mg:=mg) (base:=base) F10 B) (PySem.W.mg_of X G a10) k10 b10
 have Cunder_shut:=Cal.mk (ok_under_shut (P:=l.prog) (w:=w) (mg:=mg) (base:=base) F14 B) (PySem.W.mg_of X G a14) k14 b14
 have Csigns_of:=Cal.mk (ok_signs_of (P:=l.prog) (w:=w) (mg:=mg) (base:=base) F11 B) (PySem.W.mg_of X G a11) k11 b11
 have Cwords_of:=Cal.mk (ok_words_of (P:=l.prog) (w:=w) (mg:=mg) (base:=base) F12 B Cname_of) (PySem.W.mg_of X G a12) k12 b12
 have Ctext_of:=Cal.mk (ok_text_of (P:=l.prog) (w:=w) (mg:=mg) (base:=base) F13 B Csigns_of Cwords_of) (PySem.W.mg_of X G a13) k13 b13
 have Cpane_of:=Cal.mk (ok_pane_of (P:=l.prog) (w:=w) (mg:=mg) (base:=base) F15 B Cname_of Cunder_shut Ctext_of) (PySem.W.mg_of X G a15) k15 b15
 have Ccell_at:=Cal.mk (ok_cell_at (P:=l.prog) (w:=w) (mg:=mg) (base:=base) F8 B) (PySem.W.mg_of X G a8) k8 b8
 have Cbig:=Cal.mk (ok_big (P:=l.prog) (w:=w) (mg:=mg) (base:=base) F9 B Ccell_at) (PySem.W.mg_of X G a9) k9 b9
 have Cnear_mark:=Cal.mk (ok_near_mark (P:=l.prog) (w:=w) (mg:=mg) (base:=base) F16 B) (PySem.W.mg_of X G a16) k16 b16
 have Cnear_pane:=Cal.mk (ok_near_pane (P:=l.prog) (w:=w) (mg:=mg) (base:=base) F17 B Cnear_mark Cunder_shut) (PySem.W.mg_of X G a17) k17 b17
 have Cupper_of:=Cal.mk (ok_upper_of (P:=l.prog) (w:=w) (mg:=mg) (base:=base) F18 B Cnear_pane Cpane_of) (PySem.W.mg_of X G a18) k18 b18
 have Cby_way:=Cal.mk (ok_by_way (P:=l.prog) (w:=w) (mg:=mg) (base:=base) F2 B) (PySem.W.mg_of X G a2) k2 b2
 have Ckeys_of:=Cal.mk (ok_keys_of (P:=l.prog) (w:=w) (mg:=mg) (base:=base) F3 B) (PySem.W.mg_of X G a3) k3 b3
 have Cleads:=Cal.mk (ok_leads (P:=l.prog) (w:=w) (mg:=mg) (base:=base) F1 B) (PySem.W.mg_of X G a1) k1 b1
 have Cshut_over:=Cal.mk (ok_shut_over (P:=l.prog) (w:=w) (mg:=mg) (base:=base) F5 B Cleads) (PySem.W.mg_of X G a5) k5 b5
 have Care_folders:=Cal.mk (ok_are_folders (P:=l.prog) (w:=w) (mg:=mg) (base:=base) F4 B) (PySem.W.mg_of X G a4) k4 b4
 have Changing_at:=Cal.mk (ok_hanging_at (P:=l.prog) (w:=w) (mg:=mg) (base:=base) F6 B Cshut_over Care_folders) (PySem.W.mg_of X G a6) k6 b6
 have Cmeet:=Cal.mk (ok_meet (P:=l.prog) (w:=w) (mg:=mg) (base:=base) F7 B Cby_way Ckeys_of Changing_at) (PySem.W.mg_of X G a7) k7 b7
 have Csame:=Cal.mk (ok_same (P:=l.prog) (w:=w) (mg:=mg) (base:=base) F19 B) (PySem.W.mg_of X G a19) k19 b19
 have Cpair_alike:=Cal.mk (ok_pair_alike (P:=l.prog) (w:=w) (mg:=mg) (base:=base) F20 B Csame) (PySem.W.mg_of X G a20) k20 b20
 have Cshuts:=Cal.mk (ok_shuts (P:=l.prog) (w:=w) (mg:=mg) (base:=base) F21 B) (PySem.W.mg_of X G a21) k21 b21
 have Chang:=Cal.mk (ok_hang (P:=l.prog) (w:=w) (mg:=mg) (base:=base) F22 B Cshuts) (PySem.W.mg_of X G a22) k22 b22
 have Cmet:=Cal.mk (ok_met (P:=l.prog) (w:=w) (mg:=mg) (base:=base) F23 B Chang) (PySem.W.mg_of X G a23) k23 b23
 exact ok_law F24 B Cpane_of Cbig Cupper_of Cmeet Cpair_alike Cmet
theorem walk {l:PySem.W.OpenLaw} {q:Program} {loose:List Str} {XP:(Str→Option Value)→Heap→Prop} {YP:World→Heap→Prop} {d:DefRec} {K:Params→PySem.W.Frag} (hn:l.most=some 63) (hdf:d.params.defaults=[])
  (hY:∀ (w:World) (h:Heap),YP w h→(K w.params).In h)
  (F:∀ (w:World) (mg:Str→Option Value) (fa:Addr) (h:Heap),(K w.params).In h→h.Ns mainGlobals mg→mg d.name=some (.ref fa) →
   ∃ fd:FuncData,(∀ (s:Shared) (u:Value),BindsTo s fd ⟨[u],[]⟩ [("_law_script",u)])∧∀ base:Heap,(K w.params).In base→base.Ns mainGlobals mg→FnOk l.prog w (K w.params) mg base CX0 6 fa fd ["_law_script"] (spOf (K w.params) g_law)) :
  PySem.W.WalkO q loose XP YP l.row.toRowW d [] (fun f vs=>PySem.call f vs) :=
 L2.walk_of (n:=63) (k:=6) (x:="_law_script") (CX:=fun _=>CX0) (sp:=fun w=>spOf (K w.params) g_law) hn (by decide) hdf ⟨rfl,by decide,by decide⟩ hY F (fun w H a ns hl _ hS=>law_sp ns hl hS) fun _ _ _ _ _ z=>z
end K25
open PySem PySem.W PyProof.Rows
set_option maxRecDepth 100000 in
set_option maxHeartbeats 0 in
def PySem.W.Fast.tw5926248803924451550 := ()
def PySem.W.Fast.tw9449490356261797442 := ()
def PySem.W.Fast.tw14861674329442589720 := ()
def PySem.W.Fast.tw15671217146729920597 := ()
def PySem.W.Fast.tw8543819660130303501 := ()
def PySem.W.Fast.tw12381560994327697922 := ()
def PySem.W.Fast.tw618241439638453631 := ()
def PySem.W.Fast.tw16836063659444049701 := ()
def PySem.W.Fast.tw12533095923973531872 := ()
def PySem.W.Fast.tw1851244147186848985 := ()
def PySem.W.Fast.tw11623568218263454696 := ()
def PySem.W.Fast.tw10724127631263578148 := ()
def PySem.W.Fast.tw14421528204386521342 := ()
def PySem.W.Fast.tw18044234080617470705 := ()
def PySem.W.Fast.tw16484279928504909737 := ()
def PySem.W.Fast.tw12627503429135647006 := ()
def PySem.W.Fast.tw14392445280027858095 := ()
def PySem.W.Fast.tw956106275800604451 := ()
def PySem.W.Fast.tw3294009869336220804 := ()
def PySem.W.Fast.tw13509345932875876473 := ()
def PySem.W.Fast.tw6136618993747115689 := ()
def PySem.W.Fast.tw9614419838706306051 := ()
def PySem.W.Fast.tw2000840717151410926 := ()
def PySem.W.Fast.tw6542920211690935262 := ()
def PySem.W.Fast.tw2966330851277929453 := ()
def PySem.W.Fast.tw6552894536123067091 := ()
def PySem.W.Fast.tw12114579295505413449 := ()
def PySem.W.Fast.tw6069628310639883088 := ()
def PySem.W.Fast.tw11605317500813130800 := ()
def PySem.W.Fast.tw18375418640331211730 := ()
def PySem.W.Fast.tw6182044462540197263 := ()
def PySem.W.Fast.tw12541161810058096036 := ()
def PySem.W.Fast.tw54812481741823572 := ()
def PySem.W.Fast.tw14580076124887948749 := ()
def PySem.W.Fast.tw13293469788456668578 := ()
def PySem.W.Fast.tw1723598077293548889 := ()
def PySem.W.Fast.tw16009038383574233866 := ()
def PySem.W.Fast.tw11643618892848307613 := ()
def PySem.W.Fast.tw15169311833838017372 := ()
def PySem.W.Fast.tw14145131696901600826 := ()
def PySem.W.Fast.tw7195861757385996567 := ()
def PySem.W.Fast.tw8843024889523523858 := ()
def PySem.W.Fast.tw6995347049392882877 := ()
def PySem.W.Fast.tw11334243143948849646 := ()
def PySem.W.Fast.tw8386614751278881518 := ()
def PySem.W.Fast.tw3717690312860226847 := ()
def PySem.W.Fast.tw3749369268101024617 := ()
def PySem.W.Fast.tw10110548869268902364 := ()
def PySem.W.Fast.tw13283754329765144725 := ()
def PySem.W.Fast.tw2256766172602763131 := ()
def PySem.W.Fast.tw15023576098045353548 := ()
def PySem.W.Fast.tw2046043622391104520 := ()
def PySem.W.Fast.tw14193119755136209300 := ()
def PySem.W.Fast.tw5477271858466687283 := ()
def PySem.W.Fast.tw3458706077354428172 := ()
def PySem.W.Fast.tw4736415475015174117 := ()
def PySem.W.Fast.tw8975055449323580612 := ()
def PySem.W.Fast.tw6635956912074884945 := ()
def PySem.W.Fast.tw3789603049721606739 := ()
def PySem.W.Fast.tw8275982478298898072 := ()
def PySem.W.Fast.tw8569395689455565921 := ()
def PySem.W.Fast.tw13154273574190726015 := ()
def PySem.W.Fast.tw2139324041197546384 := ()
def PySem.W.Fast.tw2330231739447077688 := ()
def PySem.W.Fast.tw6556341802361655556 := ()
def PySem.W.Fast.tw13121316250380734145 := ()
def PySem.W.Fast.tw11185251108238608378 := ()
def PySem.W.Fast.tw12432896530095125878 := ()
def PySem.W.Fast.tw17363111392017214973 := ()
def PySem.W.Fast.tw17829166962692610575 := ()
def PySem.W.Fast.tw998534678066621387 := ()
def PySem.W.Fast.tw16174917781764639512 := ()
def PySem.W.Fast.tw14916592420611851228 := ()
def PySem.W.Fast.tw4211025078158365415 := ()
def PySem.W.Fast.tw16201109835207392096 := ()
def PySem.W.Fast.tw15595293810072529218 := ()
def PySem.W.Fast.tw2289643185391027322 := ()
def PySem.W.Fast.tw14958124876507788409 := ()
def PySem.W.Fast.tw5342424520597850872 := ()
def PySem.W.Fast.tw14104103177254650215 := ()
def PySem.W.Fast.tw5888371057971477210 := ()
def PySem.W.Fast.tw8459847549863549343 := ()
def PySem.W.Fast.tw14146906965305109037 := ()
def PySem.W.Fast.tw4160526636093762842 := ()
def PySem.W.Fast.tw5970845610960249308 := ()
def PySem.W.Fast.tw1689228332806107179 := ()
def PySem.W.Fast.tw16170639308506811214 := ()
def PySem.W.Fast.tw17595982443310540324 := ()
def PySem.W.Fast.tw14182842220836040896 := ()
def PySem.W.Fast.tw6819231699823802044 := ()
def PySem.W.Fast.tw1168759375488176042 := ()
def PySem.W.Fast.tw2750859055510541780 := ()
def PySem.W.Fast.tw17159004602949052729 := ()
def PySem.W.Fast.tw11963833216675086604 := ()
def PySem.W.Fast.tw6618668797058258673 := ()
def PySem.W.Fast.tw2899034316055559558 := ()
def PySem.W.Fast.tw14589512167751656782 := ()
def PySem.W.Fast.tw7425207986227373543 := ()
def PySem.W.Fast.tw10633931889287009703 := ()
def PySem.W.Fast.tw18051952593451027327 := ()
def PySem.W.Fast.tw13342402329384350772 := ()
def PySem.W.Fast.tw5350047786281206321 := ()
def PySem.W.Fast.tw11063904712686547109 := ()
def PySem.W.Fast.tw14393242556183592663 := ()
def PySem.W.Fast.tw8807188208782489921 := ()
def PySem.W.Fast.tw8991300883261260582 := ()
def PySem.W.Fast.tw7941976751621116496 := ()
def PySem.W.Fast.tw14842538199869787367 := ()
def PySem.W.Fast.tw3225473691454134145 := ()
def PySem.W.Fast.tw15995356329032054099 := ()
def PySem.W.Fast.tw12579370450804476673 := ()
def PySem.W.Fast.tw336701842616495491 := ()
def PySem.W.Fast.tw4073529873839746727 := ()
def PySem.W.Fast.tw15735246916679325100 := ()
def PySem.W.Fast.tw1834727779721089664 := ()
def PySem.W.Fast.tw12027280508810469446 := ()
def PySem.W.Fast.tw1570489757037263680 := ()
def PySem.W.Fast.tw15718972755633599236 := ()
def PySem.W.Fast.tw3771688142312792109 := ()
def PySem.W.Fast.tw13022818524109136780 := ()
def PySem.W.Fast.tw8176201155787627989 := ()
def PySem.W.Fast.tw16501608336707681124 := ()
def PySem.W.Fast.tw9869497122120429364 := ()
def PySem.W.Fast.tw2640332158178561161 := ()
def PySem.W.Fast.tw1033215078082183189 := ()
def PySem.W.Fast.tw12650742242227971481 := ()
def PySem.W.Fast.tw16461987977199537698 := ()
def PySem.W.Fast.tw5260121901807685818 := ()
def PySem.W.Fast.tw361141318752343799 := ()
def PySem.W.Fast.tw13987590727307633522 := ()
def PySem.W.Fast.tw8498736160613326807 := ()
def PySem.W.Fast.tw8851020892180008073 := ()
def PySem.W.Fast.tw9079098162370177993 := ()
def PySem.W.Fast.tw16630474783322539507 := ()
def PySem.W.Fast.tw15654879937240843699 := ()
def PySem.W.Fast.tw6953668676113881401 := ()
def PySem.W.Fast.tw9773895252520761677 := ()
def PySem.W.Fast.tw16825614048883489545 := ()
def PySem.W.Fast.tw12911171390980574292 := ()
def PySem.W.Fast.tw2029217238539367463 := ()
def PySem.W.Fast.tw8003617962859665686 := ()
def PySem.W.Fast.tw4466740000003772018 := ()
def PySem.W.Fast.tw2069402965603865260 := ()
def PySem.W.Fast.tw11303464683224268807 := ()
def PySem.W.Fast.tw11112794853657942423 := ()
def PySem.W.Fast.tw1919715292034466536 := ()
def PySem.W.Fast.tw14526131802968606046 := ()
def PySem.W.Fast.tw16728461166938438167 := ()
def PySem.W.Fast.tw8416154490104159290 := ()
def PySem.W.Fast.tw5651032228271852019 := ()
def PySem.W.Fast.tw9403511053089072464 := ()
def PySem.W.Fast.tw2560787013469480247 := ()
def PySem.W.Fast.tw4559999560865047202 := ()
theorem PySem.Challenge.cw_glasslayers_k25_what_hangs_holds : PySem.Challenge.rw_glasslayers_k25_what_hangs.Holds := by
 w_on; o_law; k_head; (case hw=>w_witness2)
 k_fill
 refine K25.walk (l:=PySem.Challenge.rw_glasslayers_k25_what_hangs) rfl rfl (fun w h Y=>PySem.W.kIn_of Y) ?F
 case F =>
  intro w mg fa h KX G hmg
  refine' K25.all_mk KX G hmg ?a1 ?l1 ?c1 ?k1 ?a2 ?l2 ?c2 ?k2 ?a3 ?l3 ?c3 ?k3 ?a4 ?l4 ?c4 ?k4 ?a5 ?l5 ?c5 ?k5 ?a6 ?l6 ?c6 ?k6 ?a7 ?l7 ?c7 ?k7 ?a8 ?l8 ?c8 ?k8 ?a9 ?l9 ?c9 ?k9 ?a10 ?l10 ?c10 ?k10 ?a11 ?l11 ?c11 ?k11 ?a12 ?l12 ?c12 ?k12 ?a13 ?l13 ?c13 ?k13 ?a14 ?l14 ?c14 ?k14 ?a15 ?l15 ?c15 ?k15 ?a16 ?l16 ?c16 ?k16 ?a17 ?l17 ?c17 ?k17 ?a18 ?l18 ?c18 ?k18 ?a19 ?l19 ?c19 ?k19 ?a20 ?l20 ?c20 ?k20 ?a21 ?l21 ?c21 ?k21 ?a22 ?l22 ?c22 ?k22 ?a23 ?l23 ?c23 ?k23 ?a24 ?l24 ?c24 ?k24 ?z_isinstance ?z_len ?z_list ?z_min ?z_range ?z_set ?z_sorted ?z_str ?z_tuple
  (case a1=>k_is)
  (case l1=>k_is)
  (case c1=>k_is)
  (case k1=>k_is)
  (case a2=>k_is)
  (case l2=>k_is)
  (case c2=>k_is)
  (case k2=>k_is)
  (case a3=>k_is)
  (case l3=>k_is)
  (case c3=>k_is)
  (case k3=>k_is)
  (case a4=>k_is)
  (case l4=>k_is)
  (case c4=>k_is)
  (case k4=>k_is)
  (case a5=>k_is)
  (case l5=>k_is)
  (case c5=>k_is)
  (case k5=>k_is)
  (case a6=>k_is)
  (case l6=>k_is)
  (case c6=>k_is)
  (case k6=>k_is)
  (case a7=>k_is)
  (case l7=>k_is)
  (case c7=>k_is)
  (case k7=>k_is)
  (case a8=>k_is)
  (case l8=>k_is)
  (case c8=>k_is)
  (case k8=>k_is)
  (case a9=>k_is)
  (case l9=>k_is)
  (case c9=>k_is)
  (case k9=>k_is)
  (case a10=>k_is)
  (case l10=>k_is)
  (case c10=>k_is)
  (case k10=>k_is)
  (case a11=>k_is)
  (case l11=>k_is)
  (case c11=>k_is)
  (case k11=>k_is)
  (case a12=>k_is)
  (case l12=>k_is)
  (case c12=>k_is)
  (case k12=>k_is)
  (case a13=>k_is)
  (case l13=>k_is)
  (case c13=>k_is)
  (case k13=>k_is)
  (case a14=>k_is)
  (case l14=>k_is)
  (case c14=>k_is)
  (case k14=>k_is)
  (case a15=>k_is)
  (case l15=>k_is)
  (case c15=>k_is)
  (case k15=>k_is)
  (case a16=>k_is)
  (case l16=>k_is)
  (case c16=>k_is)
  (case k16=>k_is)
  (case a17=>k_is)
  (case l17=>k_is)
  (case c17=>k_is)
  (case k17=>k_is)
  (case a18=>k_is)
  (case l18=>k_is)
  (case c18=>k_is)
  (case k18=>k_is)
  (case a19=>k_is)
  (case l19=>k_is)
  (case c19=>k_is)
  (case k19=>k_is)
  (case a20=>k_is)
  (case l20=>k_is)
  (case c20=>k_is)
  (case k20=>k_is)
  (case a21=>k_is)
  (case l21=>k_is)
  (case c21=>k_is)
  (case k21=>k_is)
  (case a22=>k_is)
  (case l22=>k_is)
  (case c22=>k_is)
  (case k22=>k_is)
  (case a23=>k_is)
  (case l23=>k_is)
  (case c23=>k_is)
  (case k23=>k_is)
  (case a24=>k_is)
  (case l24=>k_is)
  (case c24=>k_is)
  (case k24=>k_is)
  (case z_isinstance=>k_is)
  (case z_len=>k_is)
  (case z_list=>k_is)
  (case z_min=>k_is)
  (case z_range=>k_is)
  (case z_set=>k_is)
  (case z_sorted=>k_is)
  (case z_str=>k_is)
  (case z_tuple=>k_is)
