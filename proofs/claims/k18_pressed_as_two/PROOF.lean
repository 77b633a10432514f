import PyProof.Rows.All
import Wide.All
import OpenK.AllK
import Wide.FinOn
import Lean
import PyProof.EqAt
import PyProof.EqKinds
import PyProof.TupleCall
import PySem.Challenge.RW_glasslayers_k18_pressed_as_two
set_option compiler.extract_closed false
set_option Elab.async false
set_option linter.all false
set_option maxRecDepth 100000
namespace L2
open PySem PySem.Spec PyProof.Rows
noncomputable abbrev Key:=Sum Int Str
noncomputable def keyIs:Key→Value→Bool
 | .inl k,v=>Value.isInt k v
 | .inr x,v=>Value.isStrOf x v
noncomputable def keyH (w:World):Key→Int
 | .inl k=>hashInt k
 | .inr x=>hashStr w x
theorem keyIs_shape:∀ {k:Key} {v:Value},keyIs k v=true→(∃ i t,k=Sum.inl i∧v=Value.int i t)∨(∃ x t,k=Sum.inr x∧v=Value.str x t)
 | .inl i,v,h=>by
  obtain ⟨t,e⟩:=Value.isInt_shape (k:=i) (v:=v) h
  exact .inl ⟨i,t,rfl,e⟩
 | .inr x,v,h=>by
  obtain ⟨t,e⟩:=Value.isStrOf_shape (x:=x) (v:=v) h
  exact .inr ⟨x,t,rfl,e⟩
theorem keyIs_int (i:Int) (t:Tok):keyIs (.inl i) (.int i t)=true:=by simp [keyIs,Value.isInt]
theorem keyIs_str (x:Str) (t:Tok):keyIs (.inr x) (.str x t)=true:=by simp [keyIs,Value.isStrOf]
theorem key_ll (a b:Int):decide ((Sum.inl a:Key)=Sum.inl b)=(a == b):=by
 by_cases e:a=b
 ·subst e; simp
 ·have h:¬ (Sum.inl a:Key)=Sum.inl b:=fun q=>e (Sum.inl.inj q)
  rw [decide_eq_false h]
  exact (beq_eq_false_iff_ne.mpr e).symm
theorem key_rr (a b:Str):decide ((Sum.inr a:Key)=Sum.inr b)=decide (a=b):=by
 by_cases e:a=b
 ·subst e; simp
 ·have h:¬ (Sum.inr a:Key)=Sum.inr b:=fun q=>e (Sum.inr.inj q)
  rw [decide_eq_false h,decide_eq_false e]
theorem key_lr (a:Int) (b:Str):decide ((Sum.inl a:Key)=Sum.inr b)=false:=decide_eq_false (fun q=>nomatch q)
theorem key_rl (a:Str) (b:Int):decide ((Sum.inr a:Key)=Sum.inl b)=false:=decide_eq_false (fun q=>nomatch q)
noncomputable def mixKind (prog:Program) (w:World):PySem.KeyKind prog w Key where
 is:=keyIs
 hash:=keyH w
 inj:=fun v a b ha hb=>by
  rcases keyIs_shape ha with ⟨i,t,rfl,rfl⟩ | ⟨x,t,rfl,rfl⟩
  ·rcases keyIs_shape hb with ⟨j,u,rfl,e⟩ | ⟨y,u,rfl,e⟩
   ·injection e with e1 _; rw [e1]
   ·exact nomatch e
  ·rcases keyIs_shape hb with ⟨j,u,rfl,e⟩ | ⟨y,u,rfl,e⟩
   ·exact nomatch e
   ·injection e with e1 _; rw [e1]
 byValue:=fun k v h=>by
  rcases keyIs_shape h with ⟨i,t,rfl,rfl⟩ | ⟨x,t,rfl,rfl⟩ <;> rfl
 pyHash:=fun hv h=>by
  rcases keyIs_shape hv with ⟨i,t,rfl,rfl⟩ | ⟨x,t,rfl,rfl⟩
  ·exact wpAny_pyHash_int h
  ·exact wpAny_pyHash_str h
 eqBool:=fun hu hv h=>by
  rcases keyIs_shape hu with ⟨i,t,rfl,rfl⟩ | ⟨x,t,rfl,rfl⟩
  ·rcases keyIs_shape hv with ⟨j,u,rfl,rfl⟩ | ⟨y,u,rfl,rfl⟩
   ·rw [key_ll] at h; exact wpAny_eqBool_int h
   ·rw [key_lr] at h; exact SeqAt.EqAt.int_str i t y u _ _ _ _ h
  ·rcases keyIs_shape hv with ⟨j,u,rfl,rfl⟩ | ⟨y,u,rfl,rfl⟩
   ·rw [key_rl] at h; exact SeqAt.EqAt.str_int x t j u _ _ _ _ h
   ·rw [key_rr] at h; exact wpAny_eqBool_str h
 «strs»:=fun k x t v h=>by
  rcases keyIs_shape h with ⟨i,u,rfl,e⟩ | ⟨y,u,rfl,e⟩
  ·exact nomatch e
  ·injection e with e1 _
   subst e1
   cases v <;> rfl
theorem mixKind_int (prog:Program) (w:World) (i:Int) (t:Tok):(mixKind prog w).is (.inl i) (.int i t)=true:=keyIs_int i t
theorem mixKind_str (prog:Program) (w:World) (x:Str) (t:Tok):(mixKind prog w).is (.inr x) (.str x t)=true:=keyIs_str x t
end L2
namespace L2
open PySem PySem.Spec PyProof.Rows
inductive V where
 | non | bl (b:Bool) | int (i:Int) | str (x:Str) | byt (b:Array UInt8) | flt (b:UInt64) | ref (a:Addr) | ty (n:String)
 deriving DecidableEq
noncomputable def RelV:V→Value→Prop
 | .non,u=>u=Value.none
 | .bl b,u=>u=Value.bool b
 | .int i,u=>∃ t,u=Value.int i t
 | .str x,u=>∃ t,u=Value.str x t
 | .byt b,u=>∃ t,u=Value.bytes b t
 | .flt b,u=>∃ t,u=Value.float b t
 | .ref a,u=>u=Value.ref a
 | .ty n,u=>u=Value.type n
noncomputable abbrev Vals:List V→List Value→Prop:=Paired RelV
theorem Vals.length {xs:List V} {us:List Value} (r:Vals xs us):xs.length=us.length:=Paired.length r
theorem Vals.get:∀ {xs:List V} {us:List Value} {i:Nat} {x:V},Vals xs us→xs[i]?=some x→∃ u,us[i]?=some u∧RelV x u
 | _,_,_,_,.nil,e=>by simp at e
 | _,_,0,_,.cons r _,e=>by simp at e; subst e; exact ⟨_,rfl,r⟩
 | _,_,i+1,x,.cons _ t,e=>by
  obtain ⟨u,h1,h2⟩:=Vals.get (i:=i) (x:=x) t (by simpa using e)
  exact ⟨u,by simpa using h1,h2⟩
theorem Vals.append:∀ {xs ys:List V} {us ws:List Value},Vals xs us→Vals ys ws→Vals (xs++ys) (us++ws)
 | _,_,_,_,.nil,s=>s
 | _,_,_,_,.cons r t,s=>.cons r (Vals.append t s)
theorem Vals.take:∀ {xs:List V} {us:List Value} (n:Nat),Vals xs us→Vals (xs.take n) (us.take n)
 | _,_,0,_=>.nil
 | _,_,_+1,.nil=>.nil
 | _,_,n+1,.cons r t=>.cons r (Vals.take n t)
theorem Vals.drop:∀ {xs:List V} {us:List Value} (n:Nat),Vals xs us→Vals (xs.drop n) (us.drop n)
 | _,_,0,r=>r
 | _,_,_+1,.nil=>.nil
 | _,_,n+1,.cons _ t=>Vals.drop n t
noncomputable def RelO:Option V→Option Value→Prop
 | some v,some u=>RelV v u
 | none,none=>True
 | _,_=>False
noncomputable def KV {κ:Type}:List (κ × V)→List (κ × Value)→Prop:=Paired fun (p:κ × V) (q:κ × Value)=>p.1=q.1∧RelV p.2 q.2
noncomputable def kV:Key→V
 | .inl i=>.int i
 | .inr x=>.str x
inductive HO where
 | lst (xs:List V)
 | tup (xs:List V)
 | dK (kvs:List (Key × V)) | dT (kvs:List (List Key × V))
 | set (S:Int→Bool) (n:Nat)
 | ins (C dx:Addr) (fs:List (Str × V))
 | own (x:Addr)
 | xd (fs:List (Str × V))
 | met (f x:Addr)
 | rng (lo hi:Int)
 | frz (o:Obj) (u:HO)
 | tbl (ps:Array Value)
 | ext (φ:Heap→Prop)
noncomputable abbrev Hp:=Addr→Option HO
noncomputable def upd (H:Hp) (a:Addr) (o:HO):Hp:=fun b=>if b=a then some o else H b
theorem upd_same {H:Hp} {a:Addr} {o:HO}:upd H a o a=some o:=by unfold upd; rw [if_pos rfl]
theorem upd_ne {H:Hp} {a b:Addr} {o:HO} (h:b≠a):upd H a o b=H b:=by unfold upd; rw [if_neg h]
theorem ne_of {H:Hp} {a b:Addr} {o u:HO} (h:H a=some o) (h':H b=some u) (d:o≠u):a≠b:=by
 intro e; subst e; rw [h] at h'; exact d (Option.some.inj h')
theorem ne_of_none {H:Hp} {a b:Addr} {o:HO} (h:H a=some o) (h':H b=none):a≠b:=by
 intro e; subst e; rw [h] at h'; cases h'
section
variable (P:Program) (w:World)
noncomputable def ObjOk (H:Hp) (h:Heap) (a:Addr):HO→Prop
 | .lst xs=>xs.length≤sizeLine∧∃ (its:List Value) (n:Nat),Vals xs its∧h.get? a=some { cls:=.type "list",data:=.seq its.toArray n }
 | .tup xs=>xs.length≤sizeLine∧∃ its:List Value,Vals xs its∧IsTup h a its.toArray
 | .dK kvs=>kvs.length≤sizeLine∧(a == sysModules)=false∧∃ vs,KV kvs vs∧h.DictOf (mixKind P w) a vs
 | .dT kvs=>kvs.length≤sizeLine∧(a == sysModules)=false∧∃ xs:List (List Key × Addr × Value),
   Paired (fun (p:List Key × V) (q:List Key × Addr × Value)=>p.1=q.1∧H q.2.1=some (.tup (p.1.map kV))∧RelV p.2 q.2.2) kvs xs ∧
   ∃ o es ep,h.get? a=some o∧o.ExactDict∧o.data=.dict es ep∧es.toList=xs.map (entryOfKey (tupleKind (mixKind P w)))∧(xs.map (·.1)).Nodup
 | .set S n=>h.SetOf (intKind P w) a S n
 | .ins C dx fs=>H dx=some (.own a)∧fs.length≤1000∧dx≠a∧h.get? a=some (PySem.W.instObj C dx) ∧
   ∃ mA,h.Ns1 dx mA∧(∀ f,RelO (fs.lookup f) (mA f))∧PySem.Within mA (fs.map (·.1))
 | .own _=>∃ o,h.get? a=some o
 | .xd fs=>∃ mA,h.Ns1 a mA∧∀ f,RelO (fs.lookup f) (mA f)
 | .rng lo hi=>∃ t u v,h.get? a=some { cls:=.type "range",data:=.fields #[.int lo t,.int hi u,.int 1 v] }
 | .frz o u=>h.get? a=some o∧ObjOk H h a u
 | .tbl ps=>h.get? a=some { cls:=.none,data:=.fields ps }
 | .met f x=>h.get? a=some (PySem.W.methodObj (.ref f) (.ref x))
 | .ext φ=>φ h∧(∃ o,h.get? a=some o)∧∀ h1 h2:Heap,φ h1→(∀ o,h1.get? a=some o→h2.get? a=some o)→φ h2
noncomputable def HOk (H:Hp) (h:Heap):Prop:=∀ a o,H a=some o→ObjOk P w H h a o
end
section
variable {P:Program} {w:World} {H H':Hp} {h h':Heap} {a:Addr} {o:HO}
theorem ObjOk.lt (x:ObjOk P w H h a o):a < h.objs.size:=by
 cases o with
 | lst xs=>obtain ⟨_,_,_,_,e⟩:=x; exact Heap.lt_size e
 | tup xs=>obtain ⟨_,_,_,p⟩:=x; exact p.lt
 | dK kvs=>obtain ⟨_,_,_,_,o,_,_,e,_⟩:=x; exact Heap.lt_size e
 | dT kvs=>obtain ⟨_,_,_,_,o,_,_,e,_⟩:=x; exact Heap.lt_size e
 | set S n=>obtain ⟨o,_,_,_,e,_⟩:=x; exact Heap.lt_size e
 | ins C dx fs=>obtain ⟨_,_,_,e,_⟩:=x; exact Heap.lt_size e
 | own y=>obtain ⟨_,e⟩:=x; exact Heap.lt_size e
 | xd fs=>obtain ⟨_,⟨_,_,_,e,_⟩,_⟩:=x; exact Heap.lt_size e
 | rng lo hi=>obtain ⟨_,_,_,e⟩:=x; exact Heap.lt_size e
 | frz ob u=>obtain ⟨e,_⟩:=x; exact Heap.lt_size e
 | tbl ps=>exact Heap.lt_size (show h.get? a=some _ from x)
 | met f y=>exact Heap.lt_size (show h.get? a=some _ from x)
 | ext φ=>obtain ⟨_,⟨_,e⟩,_⟩:=x; exact Heap.lt_size e
theorem Paired.mapP {α β:Type} {F G:α→β→Prop}:∀ {l₁:List α} {l₂:List β},Paired F l₁ l₂→(∀ a b,F a b→G a b)→Paired G l₁ l₂
 | _,_,.nil,_=>.nil
 | _,_,.cons r t,f=>.cons (f _ _ r) (Paired.mapP t f)
theorem ObjOk.stay (x:ObjOk P w H h a o) (k:∀ b u,(b=a∨H b=some (.own a))→h.get? b=some u→h'.get? b=some u)
  (ho:∀ b,H b=some (.own a)→H' b=some (.own a)) (ht:∀ b xs,H b=some (.tup xs)→H' b=some (.tup xs)):ObjOk P w H' h' a o:=by
 induction o with
 | lst xs=>obtain ⟨z,its,n,r,e⟩:=x; exact ⟨z,its,n,r,k _ _ (.inl rfl) e⟩
 | tup xs=>obtain ⟨z,its,r,ob,e,c⟩:=x; exact ⟨z,its,r,ob,k _ _ (.inl rfl) e,c⟩
 | dK kvs=>obtain ⟨z,y,vs,r,ob,es,ep,e,c⟩:=x; exact ⟨z,y,vs,r,ob,es,ep,k _ _ (.inl rfl) e,c⟩
 | dT kvs =>
  obtain ⟨z,y,xs,r,ob,es,ep,e,c⟩:=x
  exact ⟨z,y,xs,Paired.mapP r fun p q z=>⟨z.1,ht _ _ z.2.1,z.2.2⟩,ob,es,ep,k _ _ (.inl rfl) e,c⟩
 | set S n=>obtain ⟨ob,es,ep,t,e,c⟩:=x; exact ⟨ob,es,ep,t,k _ _ (.inl rfl) e,c⟩
 | ins C dx fs =>
  obtain ⟨d,z,ne,e,mA,⟨od,es,ep,e2,c⟩,r⟩:=x
  exact ⟨ho _ d,z,ne,k _ _ (.inl rfl) e,mA,⟨od,es,ep,k _ _ (.inr d) e2,c⟩,r⟩
 | own y=>obtain ⟨ob,e⟩:=x; exact ⟨ob,k _ _ (.inl rfl) e⟩
 | xd fs=>obtain ⟨mA,⟨od,es,ep,e,c⟩,r⟩:=x; exact ⟨mA,⟨od,es,ep,k _ _ (.inl rfl) e,c⟩,r⟩
 | rng lo hi=>obtain ⟨t,u,v,e⟩:=x; exact ⟨t,u,v,k _ _ (.inl rfl) e⟩
 | frz ob u ih=>obtain ⟨e,q⟩:=x; exact ⟨k _ _ (.inl rfl) e,ih q⟩
 | tbl ps =>
  have e:h.get? a=some { cls:=.none,data:=.fields ps }:=x
  show h'.get? a=some { cls:=.none,data:=.fields ps }
  exact k a _ (.inl rfl) e
 | met f y =>
  have e:h.get? a=some (PySem.W.methodObj (.ref f) (.ref y)):=x
  show h'.get? a=some (PySem.W.methodObj (.ref f) (.ref y))
  exact k a _ (.inl rfl) e
 | ext φ=>obtain ⟨p,⟨o,e⟩,st⟩:=x; exact ⟨st _ _ p fun o q=>k _ _ (.inl rfl) q,⟨o,k _ _ (.inl rfl) e⟩,st⟩
theorem HOk.lt (x:HOk P w H h) (e:H a=some o):a < h.objs.size:=(x a o e).lt
theorem HOk.fresh (x:HOk P w H h) (e:h.objs.size≤a):H a=none:=by
 cases q:H a with
 | none=>rfl
 | some u=>exact absurd (Nat.lt_of_lt_of_le (x.lt q) e) (Nat.lt_irrefl _)
theorem HOk.kept (x:HOk P w H h) (k:∀ b u,h.get? b=some u→h'.get? b=some u):HOk P w H h':=fun a o e =>
 (x a o e).stay (fun b u _ q=>k b u q) (fun _ q=>q) fun _ _ q=>q
theorem HOk.laid (x:HOk P w H h) (k:∀ b u,h.get? b=some u→h'.get? b=some u) (hp:h.objs.size≤a) (new:ObjOk P w (upd H a o) h' a o):HOk P w (upd H a o) h':=fun b u e=>by
 have hn:=x.fresh hp
 by_cases hb:b=a
 ·subst hb; rw [upd_same] at e; cases e; exact new
 ·rw [upd_ne hb] at e
  exact (x b u e).stay (fun c v _ q=>k c v q) (fun c q=>by rw [upd_ne (ne_of_none q hn)]; exact q) fun c xs q=>by rw [upd_ne (ne_of_none q hn)]; exact q
end
noncomputable def Rd (H:Hp) (a:Addr) (u:HO):Prop:=H a=some u∨∃ o,H a=some (.frz o u)
theorem Rd.ok {P:Program} {w:World} {H:Hp} {h:Heap} {a:Addr} {u:HO} (r:Rd H a u) (x:HOk P w H h):ObjOk P w H h a u:=by
 rcases r with r | ⟨o,r⟩
 ·exact x a u r
 ·obtain ⟨_,q⟩:=x a _ r
  exact q
noncomputable def Mut:Option HO→Prop
 | some (.lst _)=>True
 | some (.dK _)=>True
 | some (.dT _)=>True
 | some (.set _ _)=>True
 | some (.ins _ _ _)=>True
 | some (.ext _)=>True
 | _=>False
section
variable {P:Program} {w:World} {H:Hp} {h h':Heap} {x e:Addr} {o':HO}
theorem HOk.write (ok:HOk P w H h) (mu:Mut (H x)) (he:e=x∨H e=some (.own x)) (k:∀ b u,b≠e→h.get? b=some u→h'.get? b=some u) (heo:∃ u,h'.get? e=some u)
  (new:ObjOk P w (upd H x o') h' x o'):HOk P w (upd H x o') h':=fun b u q=>by
 have nown:∀ c y,H c=some (.own y)→c≠x:=fun c y r z=>by subst z; rw [r] at mu; exact mu
 have ntup:∀ c xs,H c=some (.tup xs)→c≠x:=fun c xs r z=>by subst z; rw [r] at mu; exact mu
 by_cases hb:b=x
 ·subst hb; rw [upd_same] at q; cases q; exact new
 ·rw [upd_ne hb] at q
  by_cases hbe:b=e
  ·have q':H b=some (.own x):=by
    rcases he with z | z
    ·exact absurd (hbe.trans z) hb
    ·rw [hbe]; exact z
   rw [q] at q'; cases q'
   obtain ⟨v,hv⟩:=heo
   exact ⟨v,by rw [hbe]; exact hv⟩
  ·refine (ok b u q).stay (fun c v hc r=>k c v ?_ r) (fun c r=>by rw [upd_ne (nown c b r)]; exact r) fun c xs r=>by rw [upd_ne (ntup c xs r)]; exact r
   rcases hc with rfl | hc
   ·exact hbe
   ·rintro rfl
    rcases he with z | z
    ·exact nown c b hc z
    ·rw [hc] at z; cases z; exact hb rfl
end
structure Un (fs ex:List Addr) (H H':Hp) (h h':Heap):Prop where
 keep:∀ b o,h.get? b=some o→H b=none→b∉fs→b∉ex→h'.get? b=some o
 slot:∀ b o,h.get? b=some o→H b=none→b∈fs→b∉ex→∃ sl,h'.get? b=some { o with slots:=sl }
 free:∀ b o,h.get? b=some o→H b=none→b∉ex→H' b=none
 there:∀ b o,h.get? b=some o→b∉ex→∃ o',h'.get? b=some o'
 tups:∀ b xs,H b=some (.tup xs)→H' b=some (.tup xs)
 frzs:∀ b o u,H b=some (.frz o u)→H' b=some (.frz o u)
 tbls:∀ b ps,H b=some (.tbl ps)→∃ more,H' b=some (.tbl (ps++more))
section
variable {fs fs' ex ex':List Addr} {H H1 H2:Hp} {h h1 h2 h':Heap} {a x e:Addr} {o:HO}
theorem Un.any (u:Un fs ex H H1 h h1) {b:Addr} {ob:Obj} (q:h.get? b=some ob) (n:H b=none) (hx:b∉ex):∃ sl,h1.get? b=some { ob with slots:=sl }:=by
 by_cases hb:b∈fs
 ·exact u.slot b ob q n hb hx
 ·exact ⟨ob.slots,u.keep b ob q n hb hx⟩
theorem Un.kept (k:∀ b u,h.get? b=some u→h'.get? b=some u):Un fs ex H H h h' :=
 ⟨fun b ob q _ _ _=>k b ob q,fun b ob q _ _ _=>⟨ob.slots,k b ob q⟩,fun _ _ _ n _=>n,fun b ob q _=>⟨ob,k b ob q⟩,fun _ _ q=>q,fun _ _ _ q=>q,fun _ ps q=>⟨#[],by rw [q]; simp⟩⟩
theorem Un.refl:Un fs ex H H h h:=Un.kept fun _ _ q=>q
theorem Un.laid (k:∀ b u,h.get? b=some u→h'.get? b=some u) (hp:h.objs.size≤a) (hn:H a=none):Un fs ex H (upd H a o) h h' where
 keep:=fun b u q _ _ _=>k b u q
 slot:=fun b u q _ _ _=>⟨u.slots,k b u q⟩
 free:=fun b u q n _=>by rw [upd_ne (Nat.ne_of_lt (Nat.lt_of_lt_of_le (Heap.lt_size q) hp))]; exact n
 there:=fun b u q _=>⟨u,k b u q⟩
 tups:=fun b xs q=>by rw [upd_ne (ne_of_none q hn)]; exact q
 frzs:=fun b u xs q=>by rw [upd_ne (ne_of_none q hn)]; exact q
 tbls:=fun b ps q=>⟨#[],by rw [upd_ne (ne_of_none q hn),q]; simp⟩
theorem Un.write (mu:Mut (H x)) (he:e=x∨H e=some (.own x)) (k:∀ b u,b≠e→h.get? b=some u→h'.get? b=some u) (heo:∃ u,h'.get? e=some u):Un fs ex H (upd H x o) h h':=by
 have hx:∀ b,H b=none→b≠x:=fun b n z=>by subst z; rw [n] at mu; exact mu
 have hb:∀ b,H b=none→b≠e:=fun b n z=>by
  subst z
  rcases he with r | r
  ·exact hx b n r
  ·rw [n] at r; cases r
 have hm:∀ b u,H b=some u→¬ Mut (some u)→b≠x:=fun b u q nm z=>by subst z; rw [q] at mu; exact nm mu
 refine ⟨fun b u q n _ _=>k b u (hb b n) q,fun b u q n _ _=>⟨u.slots,k b u (hb b n) q⟩,fun b u q n _=>by rw [upd_ne (hx b n)]; exact n,fun b u q _=>?_,
  fun b xs q=>by rw [upd_ne (hm b _ q fun z=>z)]; exact q,fun b u xs q=>by rw [upd_ne (hm b _ q fun z=>z)]; exact q,fun b ps q=>⟨#[],by rw [upd_ne (hm b _ q fun z=>z),q]; simp⟩⟩
 by_cases hbe:b=e
 ·subst hbe; exact heo
 ·exact ⟨u,k b u hbe q⟩
end
noncomputable def trk (h:Heap) (H:Hp):List Addr:=(List.range h.objs.size).filter fun a=>(H a).isSome
noncomputable def hidT (h:Heap) (H:Hp):Heap:=PySem.W.hideAll h (trk h H)
theorem hidT_size (h:Heap) (H:Hp):(hidT h H).objs.size=h.objs.size:=PySem.W.hideAll_size _ _
theorem hidT_get {h:Heap} {H:Hp} {b:Addr} {o:Obj} (e:h.get? b=some o) (n:H b=none):(hidT h H).get? b=some o :=
 PySem.W.hideAll_get _ e fun hm=>by
  have q:(H b).isSome=true:=(List.mem_filter.mp hm).2
  rw [n] at q; simp at q
theorem of_hidT {h:Heap} {H:Hp} {b:Addr} {o:Obj} (e:(hidT h H).get? b=some o):h.get? b=some o∧H b=none:=by
 have e':h.get? b=some o:=PySem.W.of_hideAll (trk h H) e
 refine ⟨e',?_⟩
 cases q:H b with
 | none=>rfl
 | some x =>
  have hm:b∈trk h H:=List.mem_filter.mpr ⟨List.mem_range.mpr (Heap.lt_size e'),by simp [q]⟩
  have z:(hidT h H).get? b=none:=PySem.W.hideAll_none (trk h H) hm
  rw [z] at e; cases e
noncomputable def allNews (g h:Heap) (L:Addr):List (Addr × Obj):=(List.range h.objs.size).filterMap fun a=>if a=L∨(g.get? a).isSome=true then none else (h.get? a).map fun o=>(a,o)
noncomputable def rest (g h:Heap) (L d:Addr):List (Addr × Obj):=(allNews g h L).filter fun p=>decide (p.1≠d)
end L2
namespace L2
open PySem PySem.Spec PyProof.Rows
structure Mod (K:PySem.W.Frag) (mg:Str→Option Value) (base:Heap):Prop where
 kin:K.In base
 glob:base.Ns mainGlobals mg
 blt:∃ mb,base.Ns builtinsNs mb∧∀ x:Str,x≠"__name__" → mb x=bootBuiltins x
 nolimit:base.NoLimit
structure Cx where
 prog:Program
 w:World
 K:PySem.W.Frag
 mg:Str→Option Value
 base:Heap
 A:Around
 N:List Str
 s₀:Shared
 H₀:Hp
 env:Env
 outer:List Env
 stack:List Env
 ex:List Addr
 fn:Str→Bool
 calm:Bool
 pn:List (Addr × Obj)
 xe:Value→Shared→Prop
noncomputable def frs (l:List Env):List Addr:=l.filterMap (·.frame)
noncomputable abbrev Cx.fs (X:Cx):List Addr:=frs X.outer
noncomputable def Vis (sc:Scope) (x:Str):Prop:=sc.names.lookup x=some .local∨sc.names.lookup x=some .cell∨sc.names.lookup x=some .free
noncomputable def Loc (sc:Scope) (x:Str):Prop:=sc.names.lookup x=some .local∨sc.names.lookup x=some .cell
noncomputable def Look (env:Env) (h:Heap) (m:Str→Option Value) (x:Str) (u:Value):Prop :=
 (env.kindOf x=some .local∧m x=some u)∨((env.kindOf x=some .cell∨env.kindOf x=some .free)∧∃ c,env.cells.lookup x=some c∧h.IsCell c (some u))
structure Cx.Ok (X:Cx):Prop where
 mod:Mod X.K X.mg X.base
 kind:X.env.scope.kind=.function
 glob:X.env.globals=mainGlobals
 blt:X.env.builtins=builtinsNs
 above:X.s₀.heap.objs.size≤X.env.locals
 inj:∀ x y c,X.env.cells.lookup x=some c→X.env.cells.lookup y=some c→x=y
 has:∀ x,(X.env.kindOf x=some .cell∨X.env.kindOf x=some .free)→∃ c,X.env.cells.lookup x=some c
 cab:∀ x c,X.fn x=true→X.env.cells.lookup x=some c→X.s₀.heap.objs.size≤c
 hd:X.calm=true→X.A.handled=none
 frames:X.A.frames=some X.stack
 stk:X.stack=X.outer∨(X.stack=X.env :: X.outer∧X.env.frame=some X.env.locals)
 exf:∀ b∈X.ex,b≠X.env.locals∧∀ x c,X.env.cells.lookup x=some c→c≠b
 bs:∀ b o,X.base.get? b=some o→X.s₀.heap.get? b=some o∧X.H₀ b=none
 bsz:X.base.objs.size≤X.s₀.heap.objs.size
 noex:∀ b o,X.base.get? b=some o→b∉X.ex
 exfs:∀ b∈X.ex,b∉X.fs
 funs:X.s₀.heap.FunFrames X.base X.outer
 frf:∀ b∈X.fs,X.H₀ b=none
structure Inv (X:Cx) (pins:List (Addr × Obj)) (σ:List (Option V)) (H:Hp) (s:Shared):Prop where
 ok:X.Ok
 os:s.os=X.s₀.os
 bare:AllBare s.gens
 base:Un X.fs X.ex X.H₀ H X.s₀.heap s.heap
 loc:∃ m,s.heap.Ns X.env.locals m∧∀ (i:Nat) (x:Str) (v:V),X.N[i]?=some x→σ[i]?=some (some v)→Vis X.env.scope x→∃ u,RelV v u∧Look X.env s.heap m x u
 cell:∀ x c,X.env.cells.lookup x=some c→∃ v,s.heap.IsCell c v
 free:H X.env.locals=none
 freeC:∀ x c,X.env.cells.lookup x=some c→H c=none
 pin:∀ p∈X.pn++pins,s.heap.get? p.1=some p.2∧H p.1=none∧p.1≠X.env.locals∧p.1∉X.fs∧∀ v,p.2.data≠.cell v
 hok:HOk X.prog X.w H s.heap
 len:σ.length=X.N.length
section
variable {X:Cx} {pins:List (Addr × Obj)} {σ:List (Option V)} {H H':Hp} {s:Shared} {h':Heap}
theorem Cx.Ok.nofr (ok:X.Ok) {b:Addr} {o:Obj} (e:X.base.get? b=some o):b∉X.fs:=fun hb=>by
 have:=(ok.funs.mem hb).1
 rw [e] at this; cases this
theorem Inv.bs (I:Inv X pins σ H s):∀ b o,X.base.get? b=some o→s.heap.get? b=some o∧H b=none:=fun b o e =>
 ⟨I.base.keep b o (I.ok.bs b o e).1 (I.ok.bs b o e).2 (I.ok.nofr e) (I.ok.noex b o e),I.base.free b o (I.ok.bs b o e).1 (I.ok.bs b o e).2 (I.ok.noex b o e)⟩
theorem Inv.bk (I:Inv X pins σ H s):∀ b o,X.base.get? b=some o→s.heap.get? b=some o:=fun b o e=>(I.bs b o e).1
theorem Inv.mod (I:Inv X pins σ H s):Mod X.K X.mg X.base:=I.ok.mod
theorem Inv.kIn (I:Inv X pins σ H s):X.K.In s.heap:=I.ok.mod.kin.keeps I.bk
theorem Inv.lt (I:Inv X pins σ H s):X.env.locals < s.heap.objs.size:=let ⟨_,hn,_⟩:=I.loc; hn.lt
theorem Inv.sz (I:Inv X pins σ H s):X.s₀.heap.objs.size≤s.heap.objs.size:=Nat.le_trans I.ok.above (Nat.le_of_lt I.lt)
theorem Inv.nofs (I:Inv X pins σ H s) {a:Addr} (h:s.heap.objs.size≤a):a∉X.fs:=fun hb=>by
 obtain ⟨_,o,ho,_⟩:=I.ok.funs.mem hb
 exact absurd (Nat.lt_of_lt_of_le (Heap.lt_size ho) (Nat.le_trans I.sz h)) (Nat.lt_irrefl _)
theorem Inv.cne (I:Inv X pins σ H s):∀ x c,X.env.cells.lookup x=some c→c≠X.env.locals:=fun x c e z=>by
 obtain ⟨v,o,ho,hd⟩:=I.cell x c e
 obtain ⟨m,⟨o',es,ep,ho',hd',_⟩,_⟩:=I.loc
 rw [z,ho'] at ho; cases ho; rw [hd'] at hd; cases hd
theorem Inv.funs (I:Inv X pins σ H s):s.heap.FunFrames X.base X.outer:=by
 have all:∀ (l:List Env),(∀ b∈frs l,b∈X.fs)→X.s₀.heap.FunFrames X.base l→s.heap.FunFrames X.base l:=by
  intro l
  induction l with
  | nil=>intro _ _; trivial
  | cons env r ih =>
   intro hs hl
   obtain ⟨hk,⟨L,o,hf,hn,ho,hd⟩,hr⟩:=hl
   have hL:L∈X.fs:=hs L (by unfold frs; rw [List.filterMap_cons,hf]; exact List.mem_cons_self)
   obtain ⟨sl,e⟩:=I.base.slot L o ho (I.ok.frf L hL) hL fun z=>I.ok.exfs L z hL
   exact ⟨hk,⟨L,_,hf,hn,e,hd⟩,ih (fun b hb=>hs b (by unfold frs; rw [List.filterMap_cons,hf]; exact List.mem_cons_of_mem _ hb)) hr⟩
 exact all X.outer (fun _ hb=>hb) I.ok.funs
theorem Inv.stack (I:Inv X pins σ H s):s.heap.FunFrames X.base X.stack:=by
 rcases I.ok.stk with e | ⟨e,hf⟩
 ·rw [e]; exact I.funs
 ·rw [e]
  obtain ⟨m,hn,_⟩:=I.loc
  refine .cons (by rw [I.ok.kind]; decide) hf hn ?_ I.funs
  exact Heap.get?_none_of_le (Nat.le_trans I.ok.bsz I.ok.above)
theorem Inv.stkSub (I:Inv X pins σ H s):∀ b∈frs X.stack,b∈X.env.locals :: X.fs:=fun b hb=>by
 rcases I.ok.stk with e | ⟨e,hf⟩
 ·rw [e] at hb; exact List.mem_cons_of_mem _ hb
 ·rw [e] at hb
  unfold frs at hb
  rw [List.filterMap_cons,hf] at hb
  exact hb
theorem Inv.stkFree (I:Inv X pins σ H s):∀ b∈frs X.stack,H b=none:=fun b hb=>by
 rcases List.mem_cons.mp (I.stkSub b hb) with e | hb
 ·rw [e]; exact I.free
 ·obtain ⟨_,o,ho,_⟩:=I.ok.funs.mem hb
  exact I.base.free b o ho (I.ok.frf b hb) fun z=>I.ok.exfs b z hb
theorem Inv.step {g':Array GenState} {t':Nat} {d':Drawn} {ch:List Addr} (I:Inv X pins σ H s)
  (hch:∀ b∈ch,(b∈X.ex∨X.s₀.heap.objs.size≤b)∧b≠X.env.locals∧(∀ x c,X.env.cells.lookup x=some c→c≠b)∧∀ p∈X.pn++pins,p.1≠b)
  (keep:∀ b o,b≠X.env.locals→b∉X.fs→b∉ch→s.heap.get? b=some o→H b=none→h'.get? b=some o)
  (slot:∀ b o,b≠X.env.locals→b∈X.fs→b∉ch→s.heap.get? b=some o→H b=none→∃ sl,h'.get? b=some { o with slots:=sl }) (free:∀ b o,b∉ch→s.heap.get? b=some o→H b=none→H' b=none)
  (there:∀ b o,b∉ch→s.heap.get? b=some o→∃ o',h'.get? b=some o')
  (tups:∀ b xs,H b=some (.tup xs)→H' b=some (.tup xs)) (frzs:∀ b o u,H b=some (.frz o u)→H' b=some (.frz o u)) (tbls:∀ b ps,H b=some (.tbl ps)→∃ more,H' b=some (.tbl (ps++more)))
  (ns:∀ m,s.heap.Ns X.env.locals m→h'.Ns X.env.locals m) (hok:HOk X.prog X.w H' h') (hg:AllBare g') :
  Inv X pins σ H' { s with heap:=h',gens:=g',drawn:=d',toks:=t' }:=by
 have neL:∀ b o,X.s₀.heap.get? b=some o→b≠X.env.locals:=fun b o e=>Nat.ne_of_lt (Nat.lt_of_lt_of_le (Heap.lt_size e) I.ok.above)
 have neC:∀ b o,X.s₀.heap.get? b=some o→b∉X.ex→b∉ch:=fun b o e hx hb=>by
  rcases (hch b hb).1 with z | z
  ·exact hx z
  ·exact absurd (Nat.lt_of_lt_of_le (Heap.lt_size e) z) (Nat.lt_irrefl _)
 have cellK:∀ x c,X.env.cells.lookup x=some c→∀ v,s.heap.IsCell c v→h'.IsCell c v:=fun x c e v ⟨o,ho,hd⟩=>by
  have nch:c∉ch:=fun z=>(hch c z).2.2.1 x c e rfl
  by_cases hc:c∈X.fs
  ·obtain ⟨sl,q⟩:=slot c o (I.cne x c e) hc nch ho (I.freeC x c e)
   exact ⟨_,q,hd⟩
  ·exact ⟨o,keep c o (I.cne x c e) hc nch ho (I.freeC x c e),hd⟩
 refine ⟨I.ok,I.os,hg,⟨fun b o e n hb hx=>?_,fun b o e n hb hx=>?_,fun b o e n hx=>?_,fun b o e hx=>?_,fun b xs e=>tups b xs (I.base.tups b xs e),fun b o xs e=>frzs b o xs (I.base.frzs b o xs e),fun b ps e=>?_⟩,?_,fun x c e=>?_,?_,fun x c e=>?_,fun p hp=>?_,hok,I.len⟩
 ·exact keep b o (neL b o e) hb (neC b o e hx) (I.base.keep b o e n hb hx) (I.base.free b o e n hx)
 ·obtain ⟨sl,e1⟩:=I.base.slot b o e n hb hx
  obtain ⟨sl',e2⟩:=slot b _ (neL b o e) hb (neC b o e hx) e1 (I.base.free b o e n hx)
  exact ⟨sl',e2⟩
 ·obtain ⟨o',e1⟩:=I.base.there b o e hx
  exact free b o' (neC b o e hx) e1 (I.base.free b o e n hx)
 ·obtain ⟨o',e1⟩:=I.base.there b o e hx
  exact there b o' (neC b o e hx) e1
 ·obtain ⟨m1,e1⟩:=I.base.tbls b ps e
  obtain ⟨m2,e2⟩:=tbls b _ e1
  exact ⟨m1++m2,by rw [e2,Array.append_assoc]⟩
 ·obtain ⟨m,hn,hl⟩:=I.loc
  refine ⟨m,ns m hn,fun i x v e1 e2 e3=>?_⟩
  obtain ⟨u,r,l⟩:=hl i x v e1 e2 e3
  refine ⟨u,r,?_⟩
  rcases l with l | ⟨k,c,e,z⟩
  ·exact .inl l
  ·exact .inr ⟨k,c,e,cellK x c e _ z⟩
 ·obtain ⟨v,z⟩:=I.cell x c e
  exact ⟨v,cellK x c e v z⟩
 ·obtain ⟨m,⟨o,_,_,ho,_⟩,_⟩:=I.loc
  exact free _ o (fun z=>(hch _ z).2.1 rfl) ho I.free
 ·obtain ⟨v,o,ho,hd⟩:=I.cell x c e
  exact free c o (fun z=>(hch c z).2.2.1 x c e rfl) ho (I.freeC x c e)
 ·obtain ⟨e,n,ne,nf,d⟩:=I.pin p hp
  have nch:p.1∉ch:=fun z=>(hch p.1 z).2.2.2 p hp rfl
  exact ⟨keep p.1 p.2 ne nf nch e n,free p.1 p.2 nch e n,ne,nf,d⟩
theorem Inv.un {t':Nat} (I:Inv X pins σ H s) (u:Un X.fs [] H H' s.heap h') (hok:HOk X.prog X.w H' h'):Inv X pins σ H' { s with heap:=h',toks:=t' }:=by
 obtain ⟨m,⟨o,es,ep,ho,r⟩,_⟩:=id I.loc
 obtain ⟨sl,hL⟩:=u.any ho I.free (by simp)
 exact I.step (g':=s.gens) (d':=s.drawn) (ch:=[]) (fun _ z=>nomatch z) (fun b o _ hb _ e n=>u.keep b o e n hb (by simp)) (fun b o _ hb _ e n=>u.slot b o e n hb (by simp)) (fun b o _ e n=>u.free b o e n (by simp)) (fun b o _ e=>u.there b o e (by simp)) u.tups u.frzs u.tbls (fun m' hm=>by
  obtain ⟨o',es',ep',ho',r'⟩:=hm
  rw [ho] at ho'; cases ho'
  exact ⟨_,es',ep',hL,r'⟩) hok I.bare
theorem Inv.call {g':Array GenState} {t':Nat} {d':Drawn} {ch:List Addr} (I:Inv X pins σ H s) (u:Un (frs X.stack) ch H H' s.heap h') (hok:HOk X.prog X.w H' h') (hg:AllBare g')
  (hch:∀ b∈ch,(b∈X.ex∨X.s₀.heap.objs.size≤b)∧b≠X.env.locals∧(∀ x c,X.env.cells.lookup x=some c→c≠b)∧∀ p∈X.pn++pins,p.1≠b) :
  Inv X pins σ H' { s with heap:=h',gens:=g',drawn:=d',toks:=t' }:=by
 obtain ⟨m,⟨o,es,ep,ho,r⟩,_⟩:=id I.loc
 obtain ⟨sl,hL⟩:=u.any ho I.free fun z=>(hch _ z).2.1 rfl
 exact I.step (ch:=ch) hch (fun b o hL hb hc e n=>u.keep b o e n (fun z=>(List.mem_cons.mp (I.stkSub b z)).elim hL hb) hc) (fun b o _ _ hc e n=>u.any e n hc) (fun b o hc e n=>u.free b o e n hc) (fun b o hc e=>u.there b o e hc) u.tups u.frzs u.tbls (fun m' hm=>by
  obtain ⟨o',es',ep',ho',r'⟩:=hm
  rw [ho] at ho'; cases ho'
  exact ⟨_,es',ep',hL,r'⟩) hok hg
theorem Inv.turned {t':Nat} {it:Addr} (I:Inv X pins σ H s) (k:∀ b o,b≠it→s.heap.get? b=some o→h'.get? b=some o) (hn:H it=none) (hL:it≠X.env.locals)
  (h1:it∈X.ex∨X.s₀.heap.objs.size≤it) (h2:∀ x c,X.env.cells.lookup x=some c→c≠it) (h3:∀ p∈X.pn++pins,p.1≠it):Inv X pins σ H { s with heap:=h',toks:=t' }:=by
 have nit:∀ b u,H b=some u→b≠it:=fun b u e z=>by rw [z,hn] at e; cases e
 refine I.step (g':=s.gens) (d':=s.drawn) (ch:=[it]) (fun b hb=>?_) (fun b o _ _ hc e _=>k b o (fun z=>hc (by simp [z])) e) (fun b o _ _ hc e _=>⟨o.slots,k b o (fun z=>hc (by simp [z])) e⟩) (fun _ _ _ _ n=>n)
  (fun b o hc e=>⟨o,k b o (fun z=>hc (by simp [z])) e⟩) (fun _ _ e=>e) (fun _ _ _ e=>e) (fun b ps e=>⟨#[],by rw [e]; simp⟩) (fun m hm=>?_) (fun b u e=>?_) I.bare
 ·have e:b=it:=by simpa using hb
  subst e
  exact ⟨h1,hL,h2,h3⟩
 ·obtain ⟨o,es,ep,ho,r⟩:=hm
  exact ⟨o,es,ep,k _ o (Ne.symm hL) ho,r⟩
 ·refine (I.hok b u e).stay (fun c v hc q=>k c v ?_ q) (fun _ q=>q) fun _ _ q=>q
  rcases hc with z | z
  ·rw [z]; exact nit b u e
  ·exact nit c _ z
theorem Inv.tok (I:Inv X pins σ H s) (t:Nat):Inv X pins σ H { s with toks:=t }:=I.un (h':=s.heap) (t':=t) Un.refl I.hok
theorem Inv.kept {t':Nat} (I:Inv X pins σ H s) (k:∀ b u,s.heap.get? b=some u→h'.get? b=some u):Inv X pins σ H { s with heap:=h',toks:=t' }:=I.un (Un.kept k) (I.hok.kept k)
theorem Inv.laid {a:Addr} {o:HO} {t':Nat} (I:Inv X pins σ H s) (k:∀ b u,s.heap.get? b=some u→h'.get? b=some u) (hp:s.heap.objs.size≤a) (new:ObjOk X.prog X.w (upd H a o) h' a o) :
  Inv X pins σ (upd H a o) { s with heap:=h',toks:=t' }:=I.un (Un.laid k hp (I.hok.fresh hp)) (I.hok.laid k hp new)
theorem Inv.write {x e:Addr} {o:HO} {t':Nat} (I:Inv X pins σ H s) (mu:Mut (H x)) (he:e=x∨H e=some (.own x)) (k:∀ b u,b≠e→s.heap.get? b=some u→h'.get? b=some u) (heo:∃ u,h'.get? e=some u)
  (new:ObjOk X.prog X.w (upd H x o) h' x o):Inv X pins σ (upd H x o) { s with heap:=h',toks:=t' }:=I.un (Un.write mu he k heo) (I.hok.write mu he k heo new)
theorem Inv.pins_of {pins':List (Addr × Obj)} (I:Inv X pins σ H s) (h:∀ p∈pins',s.heap.get? p.1=some p.2∧H p.1=none∧p.1≠X.env.locals∧p.1∉X.fs∧∀ v,p.2.data≠.cell v):Inv X pins' σ H s :=
 ⟨I.ok,I.os,I.bare,I.base,I.loc,I.cell,I.free,I.freeC,fun p hp=>(List.mem_append.mp hp).elim (fun z=>I.pin p (List.mem_append_left _ z)) (h p),I.hok,I.len⟩
theorem nodup_ix {N:List Str} (hN:N.Nodup) {i j:Nat} {x:Str} (a:N[i]?=some x) (b:N[j]?=some x):i=j:=by
 obtain ⟨h1,e1⟩:=List.getElem?_eq_some_iff.mp a
 obtain ⟨h2,e2⟩:=List.getElem?_eq_some_iff.mp b
 exact (List.getElem_inj hN).mp (e1.trans e2.symm)
theorem store_ok2 {M:Model} {A:Around} {E:Value→Shared→Prop} {i:Nat} {x:Str} {v:V} {u:Value} {Q:Unit→Shared→Prop} (I:Inv X pins σ H s) (hN:X.N.Nodup) (hi:X.N[i]?=some x) (hx:Loc X.env.scope x) (r:RelV v u)
  (h:∀ s',Inv X pins (σ.set i (some v)) H s'→(∃ a,Heap.SameBut a s.heap s'.heap∧(a=X.env.locals∨X.env.cells.lookup x=some a))→Q () s') (hf:X.fn x=true∨X.env.scope.names.lookup x=some .local:=by first | exact .inl rfl | exact .inr rfl | assumption):wpAny M A (storeName X.env x u) Q E s:=by
 obtain ⟨m,hn,hl⟩:=id I.loc
 have hcls:(X.env.scope.kind == .class || (X.env.scope.kind == .module && X.env.locals != X.env.globals))=false:=by rw [I.ok.kind]; rfl
 have hiσ:i < σ.length:=by rw [I.len]; exact (List.getElem?_eq_some_iff.mp hi).1
 have cne:=I.cne
 have tracked:∀ {a:Addr} {h':Heap},(∃ o,s.heap.get? a=some o∧H a=none)→Heap.SameBut a s.heap h'→HOk X.prog X.w H h':=fun {a h'} ha hs b ob e=>by
  obtain ⟨_,_,hfree⟩:=ha
  refine (I.hok b ob e).stay (fun c w' hc q=>(hs.2 c ?_).trans q) (fun _ q=>q) fun _ _ q=>q
  rintro rfl
  rcases hc with rfl | hc
  ·rw [hfree] at e; cases e
  ·rw [hfree] at hc; cases hc
 rcases hx with hk | hk
 ·refine wpAny_storeName_local hk hn (fun h' hn' hs=>?_) hcls
  obtain ⟨oL,_,_,hoL,_⟩:=id hn
  refine h _ ⟨I.ok,I.os,I.bare,⟨fun b o e n hb hx=>?_,fun b o e n hb hx=>?_,I.base.free,fun b o e hx=>?_,I.base.tups,I.base.frzs,I.base.tbls⟩,⟨_,hn',fun j y v' e1 e2 e3=>?_⟩,fun y c e=>?_,I.free,I.freeC,fun p hp=>?_,tracked ⟨oL,hoL,I.free⟩ hs,by simpa using I.len⟩ ⟨_,hs,.inl rfl⟩
  ·exact (hs.2 b (Nat.ne_of_lt (Nat.lt_of_lt_of_le (Heap.lt_size e) I.ok.above))).trans (I.base.keep b o e n hb hx)
  ·obtain ⟨sl,e1⟩:=I.base.slot b o e n hb hx
   exact ⟨sl,(hs.2 b (Nat.ne_of_lt (Nat.lt_of_lt_of_le (Heap.lt_size e) I.ok.above))).trans e1⟩
  ·obtain ⟨o',e1⟩:=I.base.there b o e hx
   exact ⟨o',(hs.2 b (Nat.ne_of_lt (Nat.lt_of_lt_of_le (Heap.lt_size e) I.ok.above))).trans e1⟩
  ·by_cases hj:j=i
   ·subst hj
    rw [hi] at e1; cases e1
    rw [List.getElem?_set_self hiσ] at e2
    cases e2
    exact ⟨u,r,.inl ⟨hk,by simp⟩⟩
   ·rw [List.getElem?_set_ne (Ne.symm hj)] at e2
    obtain ⟨u',r',q⟩:=hl j y v' e1 e2 e3
    refine ⟨u',r',?_⟩
    rcases q with ⟨k,e⟩ | ⟨k,c,e,z⟩
    ·refine .inl ⟨k,?_⟩
     have:y≠x:=fun e=>hj (nodup_ix hN e1 (e ▸ hi))
     simp [this,e]
    ·exact .inr ⟨k,c,e,z.sameBut hs (cne y c e)⟩
  ·obtain ⟨w',z⟩:=I.cell y c e
   exact ⟨w',z.sameBut hs (cne y c e)⟩
  ·obtain ⟨e,n,ne,nf,d⟩:=I.pin p hp
   exact ⟨(hs.2 p.1 ne).trans e,n,ne,nf,d⟩
 ·have hfn:X.fn x=true:=by
   rcases hf with z | z
   ·exact z
   ·rw [z] at hk; cases hk
  obtain ⟨c,hc⟩:=I.ok.has x (.inl hk)
  obtain ⟨w',z⟩:=I.cell x c hc
  refine wpAny_storeName_cell I.ok.kind hk hc z (fun h' hc' hs=>?_)
  obtain ⟨oc,hoc,hocd⟩:=id z
  refine h { s with heap:=h' } ⟨I.ok,I.os,I.bare,⟨fun b o e n hb hx=>?_,fun b o e n hb hx=>?_,I.base.free,fun b o e hx=>?_,I.base.tups,I.base.frzs,I.base.tbls⟩,⟨m,hn.sameBut hs (Ne.symm (cne x c hc)),fun j y v' e1 e2 e3=>?_⟩,fun y c' e=>?_,I.free,I.freeC,fun p hp=>?_,tracked ⟨oc,hoc,I.freeC x c hc⟩ hs,by simpa using I.len⟩ ⟨c,hs,.inr hc⟩
  ·exact (hs.2 b (Nat.ne_of_lt (Nat.lt_of_lt_of_le (Heap.lt_size e) (I.ok.cab x c hfn hc)))).trans (I.base.keep b o e n hb hx)
  ·obtain ⟨sl,e1⟩:=I.base.slot b o e n hb hx
   exact ⟨sl,(hs.2 b (Nat.ne_of_lt (Nat.lt_of_lt_of_le (Heap.lt_size e) (I.ok.cab x c hfn hc)))).trans e1⟩
  ·obtain ⟨o',e1⟩:=I.base.there b o e hx
   exact ⟨o',(hs.2 b (Nat.ne_of_lt (Nat.lt_of_lt_of_le (Heap.lt_size e) (I.ok.cab x c hfn hc)))).trans e1⟩
  ·by_cases hj:j=i
   ·subst hj
    rw [hi] at e1; cases e1
    rw [List.getElem?_set_self hiσ] at e2
    cases e2
    exact ⟨u,r,.inr ⟨.inl hk,c,hc,hc'⟩⟩
   ·rw [List.getElem?_set_ne (Ne.symm hj)] at e2
    obtain ⟨u',r',q⟩:=hl j y v' e1 e2 e3
    refine ⟨u',r',?_⟩
    rcases q with q | ⟨k,c',e,z'⟩
    ·exact .inl q
    ·refine .inr ⟨k,c',e,z'.sameBut hs ?_⟩
     rintro rfl
     exact hj (nodup_ix hN e1 (I.ok.inj _ _ _ e hc ▸ hi))
  ·by_cases hcc:c'=c
   ·subst hcc; exact ⟨_,hc'⟩
   ·obtain ⟨w2,z2⟩:=I.cell y c' e
    exact ⟨w2,z2.sameBut hs hcc⟩
  ·obtain ⟨e,n,ne,nf,d⟩:=I.pin p hp
   refine ⟨(hs.2 p.1 ?_).trans e,n,ne,nf,d⟩
   intro q
   rw [q,hoc] at e
   have q':oc=p.2:=Option.some.inj e
   exact d w' (by rw [← q']; exact hocd)
theorem store_ok {M:Model} {A:Around} {E:Value→Shared→Prop} {i:Nat} {x:Str} {v:V} {u:Value} {Q:Unit→Shared→Prop} (I:Inv X pins σ H s) (hN:X.N.Nodup) (hi:X.N[i]?=some x) (hx:Loc X.env.scope x) (r:RelV v u)
  (h:∀ s',Inv X pins (σ.set i (some v)) H s'→Q () s') (hf:X.fn x=true∨X.env.scope.names.lookup x=some .local:=by first | exact .inl rfl | exact .inr rfl | assumption):wpAny M A (storeName X.env x u) Q E s :=
 store_ok2 I hN hi hx r (fun s' I' _=>h s' I') hf
theorem Inv.call' {s':Shared} {ch:List Addr} (I:Inv X pins σ H s) (ho:s'.os=s.os) (u:Un (frs X.stack) ch H H' s.heap s'.heap) (hok:HOk X.prog X.w H' s'.heap) (hg:AllBare s'.gens)
  (hch:∀ b∈ch,(b∈X.ex∨X.s₀.heap.objs.size≤b)∧b≠X.env.locals∧(∀ x c,X.env.cells.lookup x=some c→c≠b)∧∀ p∈X.pn++pins,p.1≠b):Inv X pins σ H' s':=by
 obtain ⟨h',g',d',t',o'⟩:=s'
 have e:o'=s.os:=ho
 subst e
 exact I.call (g':=g') (t':=t') (d':=d') u hok hg hch
end
noncomputable abbrev XK:=Value→Option Addr→Hp→Prop
noncomputable abbrev St:=List (Option V)
noncomputable abbrev VK:=V→Hp→Prop
noncomputable abbrev TE:=St→Hp→VK→Prop
noncomputable abbrev TT:=St→Hp→(Bool→Hp→Prop)→Prop
noncomputable abbrev TA:=St→Hp→(List V→Hp→Prop)→Prop
structure Ends where
 nx:St→Hp→Prop
 rt:VK
 bk:St→Hp→Prop:=fun _ _=>False
 ct:St→Hp→Prop:=fun _ _=>False
noncomputable abbrev TS:=Ends→St→Hp→Prop
noncomputable def EP (X:Cx) (pins:List (Addr × Obj)) (σ:St) (Q:VK) (u:Value) (s':Shared):Prop:=∃ v H',Inv X pins σ H' s'∧RelV v u∧Q v H'
noncomputable def TP (X:Cx) (pins:List (Addr × Obj)) (σ:St) (Q:Bool→Hp→Prop) (b:Bool) (s':Shared):Prop:=∃ H',Inv X pins σ H' s'∧Q b H'
noncomputable def AP (X:Cx) (pins:List (Addr × Obj)) (σ:St) (Q:List V→Hp→Prop) (us:List Value) (s':Shared):Prop:=∃ vs H',Inv X pins σ H' s'∧Vals vs us∧Q vs H'
noncomputable def SP (X:Cx) (pins:List (Addr × Obj)) (D:Ends) (f:Flow) (s':Shared):Prop :=
 match f with
 | .next=>∃ σ' H',Inv X pins σ' H' s'∧D.nx σ' H'
 | .brk=>∃ σ' H',Inv X pins σ' H' s'∧D.bk σ' H'
 | .cont=>∃ σ' H',Inv X pins σ' H' s'∧D.ct σ' H'
 | .ret u=>∃ v σ' H',Inv X pins σ' H' s'∧RelV v u∧D.rt v H'
noncomputable def PE (X:Cx) (e:Expr) (t:TE):Prop :=
 ∀ (pins:List (Addr × Obj)) (s:Shared) (σ:St) (H:Hp) (Q:VK),Inv X pins σ H s→t σ H Q→wpAny (model X.prog X.w) X.A (eval e X.env) (EP X pins σ Q) X.xe s
noncomputable def PT (X:Cx) (e:Expr) (t:TT):Prop :=
 ∀ (pins:List (Addr × Obj)) (s:Shared) (σ:St) (H:Hp) (Q:Bool→Hp→Prop),Inv X pins σ H s→t σ H Q→wpAny (model X.prog X.w) X.A (isTrue e X.env (eval e X.env)) (TP X pins σ Q) X.xe s
noncomputable def PW (X:Cx) (e:Expr) (t:TT):Prop :=
 ∀ (whole:Sem Value) (pins:List (Addr × Obj)) (s:Shared) (σ:St) (H:Hp) (Q:Bool→Hp→Prop),Inv X pins σ H s→t σ H Q→wpAny (model X.prog X.w) X.A (isTrue e X.env whole) (TP X pins σ Q) X.xe s
theorem PW.pt {X:Cx} {e:Expr} {t:TT} (h:PW X e t):PT X e t:=h _
noncomputable def PA (X:Cx) (es:List Expr) (t:TA):Prop :=
 ∀ (pos:Pos) (pins:List (Addr × Obj)) (s:Shared) (σ:St) (H:Hp) (Q:List V→Hp→Prop),Inv X pins σ H s→t σ H Q→wpAny (model X.prog X.w) X.A (spliced (backTo pos (starEach es X.env))) (AP X pins σ Q) X.xe s
noncomputable def PS (X:Cx) (st:Stmt) (t:TS):Prop :=
 ∀ (pins:List (Addr × Obj)) (s:Shared) (σ:St) (H:Hp) (D:Ends),Inv X pins σ H s→t D σ H→wpAny (model X.prog X.w) X.A (exec st X.env) (SP X pins D) X.xe s
noncomputable def PSs (X:Cx) (st:List Stmt) (t:TS):Prop :=
 ∀ (pins:List (Addr × Obj)) (s:Shared) (σ:St) (H:Hp) (D:Ends),Inv X pins σ H s→t D σ H→wpAny (model X.prog X.w) X.A (execs st X.env) (SP X pins D) X.xe s
theorem thn {α:Type} {t:Sem α} {Q Q':α→Shared→Prop} {M:Model} {A:Around} {E:Value→Shared→Prop} {s:Shared} (h:wpAny M A t Q E s) (hQ:∀ a s,Q a s→Q' a s):wpAny M A t Q' E s:=wpAny_mono h hQ fun _ _ x=>x
end L2
namespace L2
open PySem PySem.Spec PyProof.Rows
section
variable {X:Cx}
noncomputable def tVar (i:Nat):TE:=fun σ H Q=>∃ v,σ[i]?=some (some v)∧Q v H
noncomputable def tC (v:V):TE:=fun _ H Q=>Q v H
theorem pe_var {i:Nat} {x:Str} {pos:Pos} (hN:X.N[i]?=some x) (hv:Vis X.env.scope x) (hd:(x == ("__debug__" : Str))=false:=by decide) (hcd:(x == ("__classdict__" : Str))=false:=by decide):PE X (.Name x pos) (tVar i):=by
 intro pins s σ H Q I h
 obtain ⟨v,e,h⟩:=h
 obtain ⟨m,hn,hl⟩:=I.loc
 obtain ⟨u,r,l⟩:=hl i x v hN e hv
 have fin:EP X pins σ Q u s:=⟨v,H,I,r,h⟩
 rcases l with ⟨hk,hm⟩ | ⟨hk,c,hc,hcell⟩
 ·exact wpAny_Name (wpAny_loadName_local I.ok.kind hk hn hm fin) hd
 ·rcases hk with hk | hk
  ·exact wpAny_Name (wpAny_loadName_cell I.ok.kind hk hc hcell fin) hd
  ·exact wpAny_Name (wpAny_loadName_free I.ok.kind hk hc hcell fin hcd) hd
theorem pe_int {i j pos}:PE X (.Constant (.int i) j pos) (tC (.int i)):=fun _ _ _ H _ I h=>wpAny_Constant_int ⟨.int i,H,I.tok _,⟨_,rfl⟩,h⟩
theorem pe_bl {b j pos}:PE X (.Constant (.bool b) j pos) (tC (.bl b)):=fun _ _ _ H _ I h=>Constant_bool ⟨.bl b,H,I,rfl,h⟩
theorem pe_non {j pos}:PE X (.Constant .none j pos) (tC .non):=fun _ _ _ H _ I h=>Constant_none ⟨.non,H,I,rfl,h⟩
theorem pe_str {x j pos}:PE X (.Constant (.str x) j pos) (tC (.str x)):=fun _ _ _ H _ I h=>Calls.Constant_str ⟨.str x,H,I.tok _,⟨_,rfl⟩,h⟩
noncomputable def Gl (X:Cx) (x:Str):Prop:=X.env.kindOf x=some .globalImplicit
theorem ld_glob {E:Value→Shared→Prop} {pins:List (Addr × Obj)} {s:Shared} {σ:St} {H:Hp} {x:Str} {u:Value} {pos:Pos} {Q:Value→Shared→Prop} (I:Inv X pins σ H s) (hg:Gl X x) (hm:X.mg x=some u) (h:Q u s)
  (hd:(x == ("__debug__" : Str))=false:=by decide):wpAny (model X.prog X.w) X.A (eval (.Name x pos) X.env) Q E s :=
 Calls.Name_function_global I.ok.kind hg (Calls.loadGlobal_global (by rw [I.ok.glob]; exact I.mod.glob.keeps I.bk) hm h) hd
theorem ld_blt {E:Value→Shared→Prop} {pins:List (Addr × Obj)} {s:Shared} {σ:St} {H:Hp} {x:Str} {u:Value} {pos:Pos} {Q:Value→Shared→Prop} (I:Inv X pins σ H s) (hg:Gl X x) (hm:X.mg x=none) (hv:bootBuiltins x=some u) (h:Q u s)
  (hn:x≠"__name__" := by decide) (hd:(x == ("__debug__" : Str))=false:=by decide):wpAny (model X.prog X.w) X.A (eval (.Name x pos) X.env) Q E s:=by
 obtain ⟨mb,h1,h2⟩:=I.mod.blt
 exact Calls.Name_function_global I.ok.kind hg (Calls.loadGlobal_builtin (by rw [I.ok.glob]; exact I.mod.glob.keeps I.bk) hm (by rw [I.ok.blt]; exact h1.keeps I.bk) ((h2 x hn).trans hv) h) hd
theorem pe_bltn {x:Str} {v:V} {u:Value} {pos:Pos} (hg:Gl X x) (hm:X.mg x=none) (hv:bootBuiltins x=some u) (r:RelV v u) (hn:x≠"__name__" := by decide) (hd:(x == ("__debug__" : Str))=false:=by decide):PE X (.Name x pos) (tC v) :=
 fun _ _ _ H _ I h=>ld_blt I hg hm hv ⟨v,H,I,r,h⟩ hn hd
variable {a b:Expr} {ta tb:TE} {pos:Pos}
noncomputable def PC (X:Cx) (op:CmpOp) (a b:Expr) (t:TE):Prop :=
 ∀ (pins:List (Addr × Obj)) (s:Shared) (σ:St) (H:Hp) (Q:VK),Inv X pins σ H s→t σ H Q →
  wpAny (model X.prog X.w) X.A (eval a X.env) (fun v s₁=>wpAny (model X.prog X.w) X.A (eval b X.env) (fun u s₂=>wpAny (model X.prog X.w) X.A (compareOp op v u) (EP X pins σ Q) X.xe s₂) X.xe s₁) X.xe s
theorem nobehind (b:Expr) {op:CmpOp} (h:op≠.In) (h2:op≠.NotIn):behindInMarks op b=false:=by
 have e1:(op == CmpOp.In)=false:=by cases op <;> first | rfl | exact absurd rfl h
 have e2:(op == CmpOp.NotIn)=false:=by cases op <;> first | rfl | exact absurd rfl h2
 cases b <;> simp [behindInMarks,e1,e2]
noncomputable def tB (t:TE):TT:=fun σ H Q=>t σ H fun x H1=>∃ c,x=.bl c∧Q c H1
theorem pe_cmp {op:CmpOp} {t:TE} (h:PC X op a b t) (h1:behindInMarks op b=false:=by first | exact nobehind _ (by decide) (by decide) | rfl):PE X (.Compare a [op] [b] pos) t:=fun pins s σ H Q I hw=>wpAny_Compare1 (h pins s σ H Q I hw) h1
theorem pt_cmp {op:CmpOp} {t:TE} (h:PC X op a b t) (h1:behindInMarks op b=false:=by first | exact nobehind _ (by decide) (by decide) | rfl):PT X (.Compare a [op] [b] pos) (tB t):=by
 intro pins s σ H Q I hw
 refine wpAny_isTrue_Compare1 (thn (h pins s σ H _ I hw) fun v s1 h1=>thn h1 fun u s2 h2=>thn h2 fun c s3 ⟨x,H1,I1,r1,q1⟩=>?_) h1
 obtain ⟨d,rfl,q⟩:=q1
 cases r1
 exact wpAny_truthy_bool ⟨H1,I1,q⟩
theorem pt_val {e:Expr} {t:TE} (h:PE X e t) (he:∀ whole,isTrue e X.env whole=(do let v ← whole; standAt e.pos; holding [v] (truthy v)):=by intro _; rfl):PT X e (tB t):=by
 intro pins s σ H Q I hw
 refine isTrue_plain (thn (h pins s σ H _ I hw) fun v s1 ⟨x,H1,I1,r1,q1⟩=>?_) (he _)
 obtain ⟨d,rfl,q⟩:=q1
 cases r1
 exact wpAny_truthy_bool ⟨H1,I1,q⟩
variable {tA tB':TT} {rest:List Expr}
noncomputable def tAnd (t u:TT):TT:=fun σ H Q=>t σ H fun c H1=>if c=true then u σ H1 Q else Q false H1
noncomputable def tOr (t u:TT):TT:=fun σ H Q=>t σ H fun c H1=>if c=true then Q true H1 else u σ H1 Q
noncomputable def tNot (t:TT):TT:=fun σ H Q=>t σ H fun c H1=>Q (!c) H1
theorem pw_and1 (ha:PT X a tA):PW X (.BoolOp .And [a] pos) tA:=by
 intro wh pins s σ H Q I h
 refine isTrue_and (thn (ha pins s σ H Q I h) fun c s1 e=>?_)
 cases c with
 | true=>exact isTrue_and_nil e
 | false=>exact e
theorem pw_or1 (ha:PT X a tA):PW X (.BoolOp .Or [a] pos) tA:=by
 intro wh pins s σ H Q I h
 refine isTrue_or (thn (ha pins s σ H Q I h) fun c s1 e=>?_)
 cases c with
 | false=>exact isTrue_or_nil e
 | true=>exact e
theorem pw_and (ha:PT X a tA) (hb:PW X (.BoolOp .And (b :: rest) pos) tB'):PW X (.BoolOp .And (a :: b :: rest) pos) (tAnd tA tB'):=by
 intro wh pins s σ H Q I h
 refine isTrue_and (thn (ha pins s σ H _ I h) fun c s1 ⟨H1,I1,q1⟩=>?_)
 cases c with
 | true=>exact hb wh pins s1 σ H1 Q I1 q1
 | false=>exact ⟨H1,I1,q1⟩
theorem pw_or (ha:PT X a tA) (hb:PW X (.BoolOp .Or (b :: rest) pos) tB'):PW X (.BoolOp .Or (a :: b :: rest) pos) (tOr tA tB'):=by
 intro wh pins s σ H Q I h
 refine isTrue_or (thn (ha pins s σ H _ I h) fun c s1 ⟨H1,I1,q1⟩=>?_)
 cases c with
 | true=>exact ⟨H1,I1,q1⟩
 | false=>exact hb wh pins s1 σ H1 Q I1 q1
theorem pt_not (ha:PT X a tA):PT X (.UnaryOp .Not a pos) (tNot tA):=by
 intro pins s σ H Q I h
 exact isTrue_not (ha pins s σ H (fun c H1=>Q (!c) H1) I h)
noncomputable def tAndV (ta tb:TE):TE:=fun σ H Q=>ta σ H fun x H1=>∃ c,x=.bl c∧if c=true then tb σ H1 Q else Q (.bl false) H1
noncomputable def tOrV (ta tb:TE):TE:=fun σ H Q=>ta σ H fun x H1=>∃ c,x=.bl c∧if c=true then Q (.bl true) H1 else tb σ H1 Q
theorem pe_one {op} {t:TE} (h:PE X a t):PE X (.BoolOp op [a] pos) t:=fun pins s σ H Q I hw=>BoolOp_one (h pins s σ H Q I hw)
theorem pe_and (ha:PE X a ta) (hb:PE X (.BoolOp .And (b :: rest) pos) tb):PE X (.BoolOp .And (a :: b :: rest) pos) (tAndV ta tb):=by
 intro pins s σ H Q I h
 refine BoolOp_and (thn (ha pins s σ H _ I h) fun v s1 ⟨x,H1,I1,r1,q1⟩=>?_)
 obtain ⟨c,rfl,q1⟩:=q1
 cases r1
 refine wpAny_truthy_bool ?_
 cases c with
 | true=>exact hb pins s1 σ H1 Q I1 q1
 | false=>exact ⟨.bl false,H1,I1,rfl,q1⟩
theorem pe_or (ha:PE X a ta) (hb:PE X (.BoolOp .Or (b :: rest) pos) tb):PE X (.BoolOp .Or (a :: b :: rest) pos) (tOrV ta tb):=by
 intro pins s σ H Q I h
 refine BoolOp_or (thn (ha pins s σ H _ I h) fun v s1 ⟨x,H1,I1,r1,q1⟩=>?_)
 obtain ⟨c,rfl,q1⟩:=q1
 cases r1
 refine wpAny_truthy_bool ?_
 cases c with
 | false=>exact hb pins s1 σ H1 Q I1 q1
 | true=>exact ⟨.bl true,H1,I1,rfl,q1⟩
end
end L2
namespace L2
open PySem PySem.Spec PyProof.Rows
noncomputable def SqL (K:PySem.W.Frag) (H:Hp) (a:Addr) (xs:List V):Prop :=
 Rd H a (.lst xs) ∨
  ∃ (o:Obj) (its:Array Value) (n:Nat),K.lookup a=some o∧o.cls=.type "list" ∧ o.dict=none∧o.data=.seq its n∧its.size≤sizeLine∧Vals xs its.toList
noncomputable def SqT (K:PySem.W.Frag) (H:Hp) (a:Addr) (xs:List V):Prop :=
 Rd H a (.tup xs) ∨
  ∃ (o:Obj) (its:Array Value) (n:Nat),K.lookup a=some o∧o.cls=.type "tuple" ∧ o.data=.seq its n∧its.size≤sizeLine∧Vals xs its.toList
noncomputable def absV:Value→Option V
 | .none=>some .non
 | .bool b=>some (.bl b)
 | .int i _=>some (.int i)
 | .str x _=>some (.str x)
 | .bytes b _=>some (.byt b)
 | .float b _=>some (.flt b)
 | .ref a=>some (.ref a)
 | .type n=>some (.ty n)
 | _=>none
theorem RelV.abs {x:V} {u:Value} (r:RelV x u):absV u=some x:=by
 cases x with
 | non=>cases r; rfl
 | bl _=>cases r; rfl
 | int _=>obtain ⟨t,rfl⟩:=r; rfl
 | str _=>obtain ⟨t,rfl⟩:=r; rfl
 | byt _=>obtain ⟨t,rfl⟩:=r; rfl
 | flt _=>obtain ⟨t,rfl⟩:=r; rfl
 | ref _=>cases r; rfl
 | ty _=>cases r; rfl
theorem RelV.inj {x y:V} {u:Value} (r:RelV x u) (q:RelV y u):x=y:=Option.some.inj (r.abs.symm.trans q.abs)
theorem Vals.inj:∀ {xs ys:List V} {us:List Value},Vals xs us→Vals ys us→xs=ys
 | _,_,_,.nil,.nil=>rfl
 | _,_,_,.cons r t,.cons r' t'=>by rw [r.inj r',Vals.inj t t']
section
variable {X:Cx} {pins:List (Addr × Obj)} {σ:St} {H:Hp} {s:Shared} {a:Addr} {xs ys:List V}
theorem SqL.of {K:PySem.W.Frag} (h:H a=some (.lst xs)):SqL K H a xs:=.inl (.inl h)
theorem SqT.of {K:PySem.W.Frag} (h:H a=some (.tup xs)):SqT K H a xs:=.inl (.inl h)
theorem Inv.list (I:Inv X pins σ H s) (h:SqL X.K H a xs):∃ its:List Value,Vals xs its∧PlainL s.heap a its.toArray∧xs.length≤sizeLine:=by
 rcases h with h | ⟨o,its,n,hk,hc,hd,hs,hz,r⟩
 ·obtain ⟨z,its,n,r,e⟩:=h.ok I.hok
  exact ⟨its,r,⟨_,n,e,rfl,rfl,rfl⟩,z⟩
 ·refine ⟨its.toList,r,⟨o,n,I.kIn a o hk,hc,hd,by simpa using hs⟩,?_⟩
  have e:=r.length
  simp only [Array.length_toList] at e
  lia
theorem Inv.tuple (I:Inv X pins σ H s) (h:SqT X.K H a xs):∃ its:List Value,Vals xs its∧IsTup s.heap a its.toArray∧xs.length≤sizeLine:=by
 rcases h with h | ⟨o,its,n,hk,hc,hs,hz,r⟩
 ·obtain ⟨z,its,r,p⟩:=h.ok I.hok
  exact ⟨its,r,p,z⟩
 ·refine ⟨its.toList,r,⟨o,I.kIn a o hk,hc,n,by simpa using hs⟩,?_⟩
  have e:=r.length
  simp only [Array.length_toList] at e
  lia
theorem Inv.list_inj (I:Inv X pins σ H s) (h:SqL X.K H a xs) (h':SqL X.K H a ys):xs=ys:=by
 obtain ⟨its,r,⟨o,n,e,_,_,d⟩,_⟩:=I.list h
 obtain ⟨its',r',⟨o',n',e',_,_,d'⟩,_⟩:=I.list h'
 rw [e] at e'; cases e'
 rw [d] at d'
 injection d' with d1 _
 have:its=its':=by simpa using congrArg Array.toList d1
 subst this
 exact r.inj r'
theorem Inv.tuple_inj (I:Inv X pins σ H s) (h:SqT X.K H a xs) (h':SqT X.K H a ys):xs=ys:=by
 obtain ⟨its,r,⟨o,e,_,n,d⟩,_⟩:=I.tuple h
 obtain ⟨its',r',⟨o',e',_,n',d'⟩,_⟩:=I.tuple h'
 rw [e] at e'; cases e'
 rw [d] at d'
 injection d' with d1 _
 have:its=its':=by simpa using congrArg Array.toList d1
 subst this
 exact r.inj r'
end
noncomputable abbrev Cx.wish (X:Cx) (E:Value→Shared→Prop):Cx:={ X with xe:=E }
noncomputable abbrev Cx.nox (X:Cx):Cx:=X.wish fun _ _=>False
theorem Cx.Ok.wish {X:Cx} (ok:X.Ok) (E:Value→Shared→Prop):(X.wish E).Ok :=
 ⟨ok.mod,ok.kind,ok.glob,ok.blt,ok.above,ok.inj,ok.has,ok.cab,ok.hd,ok.frames,ok.stk,ok.exf,ok.bs,ok.bsz,ok.noex,ok.exfs,ok.funs,ok.frf⟩
theorem Cx.Ok.unwish {X:Cx} {E:Value→Shared→Prop} (ok:(X.wish E).Ok):X.Ok :=
 ⟨ok.mod,ok.kind,ok.glob,ok.blt,ok.above,ok.inj,ok.has,ok.cab,ok.hd,ok.frames,ok.stk,ok.exf,ok.bs,ok.bsz,ok.noex,ok.exfs,ok.funs,ok.frf⟩
section
variable {X:Cx} {pins:List (Addr × Obj)} {σ:St} {H:Hp} {s:Shared} {E:Value→Shared→Prop}
theorem Inv.wish (I:Inv X pins σ H s) (E:Value→Shared→Prop):Inv (X.wish E) pins σ H s:=⟨I.ok.wish E,I.os,I.bare,I.base,I.loc,I.cell,I.free,I.freeC,I.pin,I.hok,I.len⟩
theorem Inv.unwish (I:Inv (X.wish E) pins σ H s):Inv X pins σ H s:=⟨I.ok.unwish,I.os,I.bare,I.base,I.loc,I.cell,I.free,I.freeC,I.pin,I.hok,I.len⟩
theorem SP.unwish {D:Ends} {f:Flow} {s':Shared} (h:SP (X.wish E) pins D f s'):SP X pins D f s':=by
 cases f with
 | next=>obtain ⟨σ',H',I,q⟩:=h; exact ⟨σ',H',I.unwish,q⟩
 | brk=>obtain ⟨σ',H',I,q⟩:=h; exact ⟨σ',H',I.unwish,q⟩
 | cont=>obtain ⟨σ',H',I,q⟩:=h; exact ⟨σ',H',I.unwish,q⟩
 | ret u=>obtain ⟨v,σ',H',I,r,q⟩:=h; exact ⟨v,σ',H',I.unwish,r,q⟩
theorem PSs.nox {st:List Stmt} {t:TS} (h:PSs X.nox st t):PSs X st t:=fun pins s σ H D I hw =>
 wpAny_mono (h pins s σ H D (I.wish _) hw) (fun _ _ q=>q.unwish) fun _ _ z=>False.elim z
end
section
variable {X:Cx} {st:Stmt} {rest:List Stmt} {t u:TS} {e:Expr} {te:TE} {pos:Pos}
noncomputable def tNext:TS:=fun D σ H=>D.nx σ H
noncomputable def tSeq (t u:TS):TS:=fun D σ H=>t { D with nx:=u D } σ H
theorem pss_nil:PSs X [] tNext:=fun _ _ σ H _ I h=>wpAny_execs_nil ⟨σ,H,I,h⟩
theorem pss_cons (h1:PS X st t) (h2:PSs X rest u):PSs X (st :: rest) (tSeq t u):=by
 intro pins s σ H D I h
 refine wpAny_execs_cons (thn (h1 pins s σ H { D with nx:=u D } I h) fun f s1 q=>?_)
 cases f with
 | next =>
  obtain ⟨σ',H',I',q⟩:=q
  exact h2 pins s1 σ' H' D I' q
 | ret v=>exact q
 | brk=>exact q
 | cont=>exact q
theorem pss_one (h1:PS X st t):PSs X [st] t:=by
 intro pins s σ H D I h
 refine wpAny_execs_cons (thn (h1 pins s σ H D I h) fun f s1 q=>?_)
 cases f with
 | next=>exact wpAny_execs_nil q
 | ret v=>exact q
 | brk=>exact q
 | cont=>exact q
theorem Inv.quiet {pins:List (Addr × Obj)} {σ:St} {H:Hp} {s:Shared} (I:Inv X pins σ H s):interactive X.env=false:=by simp [interactive,I.ok.kind]
noncomputable def tDrop (te:TE):TS:=fun D σ H=>te σ H fun _ H1=>D.nx σ H1
theorem ps_expr (he:PE X e te) (hs:swapsWith e none pos.line X.env=pure false:=by rfl):PS X (.Expr e pos) (tDrop te):=by
 intro pins s σ H D I h
 exact wpAny_Expr_any (thn (he pins s σ H _ I h) fun v s1 ⟨x,H1,I1,r1,q1⟩=>⟨σ,H1,I1,q1⟩) I.quiet hs
noncomputable def tRet (te:TE):TS:=fun D σ H=>te σ H D.rt
theorem ps_ret (he:PE X e te):PS X (.Return (some e) pos) (tRet te):=by
 intro pins s σ H D I h
 exact wpAny_Return_some (thn (he pins s σ H _ I h) fun v s1 ⟨x,H1,I1,r1,q1⟩=>⟨x,σ,H1,I1,r1,q1⟩)
noncomputable def tIfS (c:TT) (t u:TS):TS:=fun D σ H=>c σ H fun b H1=>if b=true then t D σ H1 else u D σ H1
theorem ps_if {c:Expr} {a b:List Stmt} {tc:TT} (hc:PT X c tc) (ha:PSs X a t) (hb:PSs X b u):PS X (.If c a b pos) (tIfS tc t u):=by
 intro pins s σ H D I h
 refine wpAny_If (thn (hc pins s σ H _ I h) fun d s1 ⟨H1,I1,q1⟩=>?_)
 cases d with
 | true=>exact ha pins s1 σ H1 D I1 q1
 | false=>exact hb pins s1 σ H1 D I1 q1
end
noncomputable abbrev TG:=V→St→Hp→(St→Hp→Prop)→Prop
noncomputable abbrev TGs:=List V→St→Hp→(St→Hp→Prop)→Prop
noncomputable def PG (X:Cx) (target:Expr) (t:TG):Prop :=
 ∀ (pins:List (Addr × Obj)) (s:Shared) (σ:St) (H:Hp) (v:V) (u:Value) (Q:St→Hp→Prop),Inv X pins σ H s→RelV v u→t v σ H Q →
  wpAny (model X.prog X.w) X.A (assign target X.env u) (fun _ s'=>∃ σ' H',Inv X pins σ' H' s'∧Q σ' H') X.xe s
noncomputable def PGs (X:Cx) (ts:List Expr) (t:TGs):Prop :=
 ∀ (pins:List (Addr × Obj)) (s:Shared) (σ:St) (H:Hp) (vs:List V) (us:List Value) (Q:St→Hp→Prop),Inv X pins σ H s→Vals vs us→t vs σ H Q →
  wpAny (model X.prog X.w) X.A (assignInOrder ((assignEach ts X.env).map (·.2)) us) (fun _ s'=>∃ σ' H',Inv X pins σ' H' s'∧Q σ' H') X.xe s
section
variable {X:Cx} {pos:Pos}
noncomputable def gName (i:Nat):TG:=fun v σ H Q=>Q (σ.set i (some v)) H
theorem pg_name {i:Nat} {x:Str} (hN:X.N.Nodup) (hi:X.N[i]?=some x) (hx:Loc X.env.scope x) (hf:X.fn x=true∨X.env.scope.names.lookup x=some .local:=by first | exact .inl rfl | exact .inr rfl | assumption):PG X (.Name x pos) (gName i):=by
 intro pins s σ H v u Q I r h
 exact wpAny_assign_Name (store_ok I hN hi hx r (fun s' I'=>⟨_,H,I',h⟩) hf)
noncomputable def gNil:TGs:=fun vs σ H Q=>vs=[]∧Q σ H
noncomputable def gCons (t:TG) (u:TGs):TGs:=fun vs σ H Q=>∃ v r,vs=v :: r∧t v σ H fun σ' H'=>u r σ' H' Q
theorem pgs_nil:PGs X [] gNil:=by
 intro pins s σ H vs us Q I r h
 obtain ⟨e,h⟩:=h
 subst e
 cases r
 exact assignInOrder_nil ⟨σ,H,I,h⟩
theorem pgs_cons {e:Expr} {es:List Expr} {t:TG} {u:TGs} (h1:PG X e t) (h2:PGs X es u)
  (hs:(assignEach (e :: es) X.env).map (·.2)=assign e X.env :: (assignEach es X.env).map (·.2):=by rfl):PGs X (e :: es) (gCons t u):=by
 intro pins s σ H vs us Q I r h
 obtain ⟨v,vr,e1,h⟩:=h
 subst e1
 cases r with
 | cons r rr =>
  rw [hs]
  refine assignInOrder_cons (thn (h1 pins s σ H _ _ _ I r h) fun _ s1 ⟨σ1,H1,I1,q1⟩=>?_)
  exact h2 pins s1 σ1 H1 _ _ Q I1 rr q1
noncomputable def gTup (K:PySem.W.Frag) (n:Nat) (t:TGs):TG:=fun v σ H Q=>∃ a xs,v=.ref a∧SqT K H a xs∧xs.length=n∧t xs σ H Q
theorem pg_tup {es:List Expr} {k:Nat} {t:TGs} {n:Nat} (hc:X.calm=true) (h:PGs X es t)
  (hn:(assignEach es X.env).length=n:=by rfl) (hst:(assignEach es X.env).findIdx? (·.1)=none:=by rfl):PG X (.Tuple es k pos) (gTup X.K n t):=by
 intro pins s σ H v u Q I r hw
 obtain ⟨a,xs,e1,hq,hl,hw⟩:=hw
 subst e1
 cases r
 obtain ⟨its,rv,ht,hz⟩:=I.tuple hq
 refine assign_Tuple_tuple (I.ok.hd hc) ht (by simp [hn,← hl,rv.length]) hst fun h' hx=>?_
 have I1:Inv X pins σ H { s with heap:=h' }:=I.kept (t':=s.toks) fun b o e=>hx b o (Nat.ne_of_lt (Heap.lt_size e)) e
 exact h pins _ σ H xs _ Q I1 (by simpa using rv) hw
noncomputable def tAsg (te:TE) (g:TG):TS:=fun D σ H=>te σ H fun x H1=>g x σ H1 D.nx
theorem ps_asg {tg e:Expr} {te:TE} {g:TG} (he:PE X e te) (hg:PG X tg g) (hs:swapsWithSole [tg] e pos.line X.env=pure false:=by rfl) (hw:swappedStores [tg] e X.env=pure none:=by rfl)
  (h1:(assignEach [tg] X.env).map (·.2)=[assign tg X.env]:=by rfl):PS X (.Assign [tg] e pos) (tAsg te g):=by
 intro pins s σ H D I h
 refine wpAny_Assign_stores (thn (he pins s σ H _ I h) fun v s1 ⟨x,H1,I1,r1,q1⟩=>?_) hs hw
 rw [h1]
 exact thn (hg pins s1 σ H1 x v _ I1 r1 q1) fun _ s2 q=>q
theorem ps_set {i:Nat} {x:Str} {e:Expr} {te:TE} {pos':Pos} (hN:X.N.Nodup) (hi:X.N[i]?=some x) (hx:Loc X.env.scope x) (he:PE X e te) (hs:swapsWith e (some (.Name x pos')) pos.line X.env=pure false:=by rfl) (hf:X.fn x=true∨X.env.scope.names.lookup x=some .local:=by first | exact .inl rfl | exact .inr rfl | assumption) :
  PS X (.Assign [.Name x pos'] e pos) (tAsg te (gName i)):=by
 intro pins s σ H D I h
 refine wpAny_Assign_Name (thn (he pins s σ H _ I h) fun v s1 ⟨y,H1,I1,r1,q1⟩=>?_) hs
 exact store_ok I1 hN hi hx r1 (fun s2 I2=>⟨_,H1,I2,q1⟩) hf
end
section
variable {X:Cx} {pos:Pos}
end
structure It where
 go:Nat→Hp→Prop
 yld:Nat→Hp→V→Hp→Prop
 stop:Nat→Hp→Prop
noncomputable def FpOk (X:Cx) (pins:List (Addr × Obj)) (H:Hp) (b:Addr):Prop :=
 H b=none∧b≠X.env.locals∧b∉X.fs∧(b∈X.ex∨X.s₀.heap.objs.size≤b)∧(∀ x c,X.env.cells.lookup x=some c→c≠b)∧∀ p∈X.pn++pins,p.1≠b
theorem Inv.fpOk {X:Cx} {pins:List (Addr × Obj)} {σ:St} {H H':Hp} {s:Shared} {b:Addr} (I:Inv X pins σ H s) (hb:s.heap.objs.size≤b) (hn:H' b=none):FpOk X pins H' b:=by
 refine ⟨hn,Nat.ne_of_gt (Nat.lt_of_lt_of_le I.lt hb),I.nofs hb,.inr (Nat.le_trans I.sz hb),fun x c e z=>?_,fun p hp z=>?_⟩
 ·obtain ⟨v,q⟩:=I.cell x c e
  exact absurd (Nat.lt_of_lt_of_le q.lt (by rw [z]; exact hb)) (Nat.lt_irrefl _)
 ·exact absurd (Nat.lt_of_lt_of_le (Heap.lt_size (I.pin p hp).1) (by rw [z]; exact hb)) (Nat.lt_irrefl _)
structure Turn (P:Program) (w:World) (K:PySem.W.Frag) (tg:Expr) (J:It) (fp:List Addr) (it:Addr) (tn:Nat→Heap→Prop):Prop where
 mem:it∈fp
 obj:∀ i h,tn i h→∀ b∈fp,∃ o,h.get? b=some o∧∀ v,o.data≠.cell v
 keep:∀ i h h',tn i h→(∀ b∈fp,∀ o,h.get? b=some o→h'.get? b=some o)→tn i h'
 item:∀ (X:Cx),X.prog=P→X.w=w→X.K=K→X.calm=true→∀ (i:Nat) (pins:List (Addr × Obj)) (s:Shared) (σ:St) (H:Hp) (E:Value→Shared→Prop),Inv X pins σ H s→(∀ b∈fp,FpOk X pins H b)→tn i s.heap→J.go i H →
  wpAny (model P w) X.A (pyNext (.ref it)) (fun r s1=>∃ u,r=some u ∧
   wpAny (model P w) X.A (letOwnedTupleGo tg (.ref it) u) (fun _ s2=>∃ x H',Inv X pins σ H' s2∧RelV x u∧J.yld i H x H'∧tn (i+1) s2.heap∧∀ b∈fp,H' b=none) E s1) E s
 done:∀ (X:Cx),X.prog=P→X.w=w→X.K=K→X.calm=true→∀ (i:Nat) (pins:List (Addr × Obj)) (s:Shared) (σ:St) (H:Hp) (E:Value→Shared→Prop),Inv X pins σ H s→(∀ b∈fp,FpOk X pins H b)→tn i s.heap→J.stop i H →
  wpAny (model P w) X.A (pyNext (.ref it)) (fun r s1=>r=none∧Inv X pins σ H s1) E s
 self:∀ (A:Around) (i:Nat) (s:Shared) (Q:Value→Shared→Prop) (E:Value→Shared→Prop),tn i s.heap→Q (.ref it) s→wpAny (model P w) A (pyIter (.ref it)) Q E s
noncomputable abbrev TI:=St→Hp→(It→Hp→Prop)→Prop
noncomputable def PIE (X:Cx) (pins:List (Addr × Obj)) (σ:St) (tg:Expr) (R:It→Hp→Prop) (itv:Value) (s2:Shared):Prop :=
 ∃ (it:Addr) (fp:List Addr) (tn:Nat→Heap→Prop) (J:It) (H':Hp),itv=.ref it∧Inv X pins σ H' s2∧Turn X.prog X.w X.K tg J fp it tn∧tn 0 s2.heap∧(∀ b∈fp,FpOk X pins H' b)∧R J H'
noncomputable def PI (X:Cx) (tg iter:Expr) (wi:TI):Prop :=
 ∀ (pins:List (Addr × Obj)) (s:Shared) (σ:St) (H:Hp) (R:It→Hp→Prop),Inv X pins σ H s→wi σ H R →
  wpAny (model X.prog X.w) X.A (eval iter X.env) (fun v s1=>wpAny (model X.prog X.w) X.A (pyIter v) (PIE X pins σ tg R) X.xe s1) X.xe s
theorem go_of {M:Model} {A:Around} {E:Value→Shared→Prop} {s:Shared} {tg:Expr} {it:Addr} {u:Value} {o:Obj} {n:String} {vs:Array Value} {Q:Unit→Shared→Prop} (ho:s.heap.get? it=some o) (hc:o.cls=.type n) (hd:o.data=.fields vs)
    (hn:["enumerate","zip","dict_itemiterator","dict_reverseitemiterator","odict_iterator","itertools.zip_longest","itertools.pairwise"].contains n=false) (hQ:Q () s):wpAny M A (letOwnedTupleGo tg (.ref it) u) Q E s:=by
  unfold letOwnedTupleGo
  cases tg <;> first
    | exact wpAny_pure hQ
    | (cases u <;> first
        | exact wpAny_pure hQ
        | (refine wpAny_bind (wpAny_load ho ?_)
           rw [hc,hd]
           show wpAny M A (if (["enumerate","zip","dict_itemiterator","dict_reverseitemiterator","odict_iterator","itertools.zip_longest","itertools.pairwise"].contains n && vs[0]? == some (rawInt _))=true then _ else _) Q E s
           rw [if_neg (by intro h; rw [hn,Bool.false_and] at h; cases h)]
           exact wpAny_pure hQ))
noncomputable def Itl (K:PySem.W.Frag) (a:Addr):It :=
 ⟨fun i H=>∃ xs x,SqL K H a xs∧xs[i]?=some x,fun i H x H'=>H'=H∧∀ xs,SqL K H a xs→xs[i]?=some x,fun i H=>∃ xs,SqL K H a xs∧xs.length≤i⟩
noncomputable def Itt (K:PySem.W.Frag) (a:Addr):It :=
 ⟨fun i H=>∃ xs x,SqT K H a xs∧xs[i]?=some x,fun i H x H'=>H'=H∧∀ xs,SqT K H a xs→xs[i]?=some x,fun i H=>∃ xs,SqT K H a xs∧xs.length≤i⟩
noncomputable def Itr (lo:Int) (n:Nat):It:=⟨fun i _=>i < n,fun i H x H'=>H'=H∧x=.int (lo+i),fun i _=>n≤i⟩
theorem turn_list {P:Program} {w:World} {K:PySem.W.Frag} {tg:Expr} (a it:Addr):Turn P w K tg (Itl K a) [it] it (fun i h=>h.IsListIter it a i) where
 mem:=by simp
 obj:=fun i h st b hb=>by
  have e:b=it:=by simpa using hb
  subst e
  obtain ⟨o,e,c,d⟩:=st
  exact ⟨o,e,fun v z=>by rw [d] at z; cases z⟩
 keep:=fun i h h' st k=>st.at fun o e=>k it (by simp) o e
 item:=by
  intro X hP hw hK hc i pins s σ H E I hf st hg
  subst hP hw hK
  obtain ⟨xs,x,hq,hx⟩:=hg
  obtain ⟨its,rv,p,hz⟩:=I.list hq
  obtain ⟨u,hu,ru⟩:=rv.get hx
  obtain ⟨f0,f1,f2,f3,f4,f5⟩:=hf it (by simp)
  refine wpAny_pyNext_list_item st p.isList (x:=u) (by simpa using hu) fun h' st' sb=>?_
  have I1:Inv X pins σ H { s with heap:=h' }:=I.turned (t':=s.toks) (fun b o hb e=>(sb.2 b hb).trans e) f0 f1 f3 f4 f5
  obtain ⟨o,e,c,d⟩:=id st'
  exact ⟨u,rfl,go_of (s:={ s with heap:=h' }) e c d (by decide) ⟨x,H,I1,ru,⟨rfl,fun ys hy=>by rw [I.list_inj hy hq]; exact hx⟩,st',fun b hb=>(hf b hb).1⟩⟩
 done:=by
  intro X hP hw hK hc i pins s σ H E I hf st hg
  subst hP hw hK
  obtain ⟨xs,hq,hx⟩:=hg
  obtain ⟨its,rv,p,hz⟩:=I.list hq
  obtain ⟨f0,f1,f2,f3,f4,f5⟩:=hf it (by simp)
  have hl:=rv.length
  exact wpAny_pyNext_list_end (I.ok.hd hc) st p.isList (by simp; lia) fun h' eb=>⟨rfl,I.turned (t':=s.toks) (fun b o hb e=>eb b o hb e) f0 f1 f3 f4 f5⟩
 self:=fun _ _ _ _ _ st h=>wpAny_pyIter_listiter st h
theorem turn_tuple {P:Program} {w:World} {K:PySem.W.Frag} {tg:Expr} (a it:Addr):Turn P w K tg (Itt K a) [it] it (fun i h=>h.IsTupleIter it a i) where
 mem:=by simp
 obj:=fun i h st b hb=>by
  have e:b=it:=by simpa using hb
  subst e
  obtain ⟨o,e,c,d⟩:=st
  exact ⟨o,e,fun v z=>by rw [d] at z; cases z⟩
 keep:=fun i h h' st k=>st.at fun o e=>k it (by simp) o e
 item:=by
  intro X hP hw hK hc i pins s σ H E I hf st hg
  subst hP hw hK
  obtain ⟨xs,x,hq,hx⟩:=hg
  obtain ⟨its,rv,p,hz⟩:=I.tuple hq
  obtain ⟨u,hu,ru⟩:=rv.get hx
  obtain ⟨f0,f1,f2,f3,f4,f5⟩:=hf it (by simp)
  refine wpAny_pyNext_tuple_item st (show s.heap.IsTuple a its.toArray from p) (x:=u) (by simpa using hu) fun h' st' sb=>?_
  have I1:Inv X pins σ H { s with heap:=h' }:=I.turned (t':=s.toks) (fun b o hb e=>(sb.2 b hb).trans e) f0 f1 f3 f4 f5
  obtain ⟨o,e,c,d⟩:=id st'
  exact ⟨u,rfl,go_of (s:={ s with heap:=h' }) e c d (by decide) ⟨x,H,I1,ru,⟨rfl,fun ys hy=>by rw [I.tuple_inj hy hq]; exact hx⟩,st',fun b hb=>(hf b hb).1⟩⟩
 done:=by
  intro X hP hw hK hc i pins s σ H E I hf st hg
  subst hP hw hK
  obtain ⟨xs,hq,hx⟩:=hg
  obtain ⟨its,rv,p,hz⟩:=I.tuple hq
  obtain ⟨f0,f1,f2,f3,f4,f5⟩:=hf it (by simp)
  have hl:=rv.length
  exact wpAny_pyNext_tuple_end (I.ok.hd hc) st (show s.heap.IsTuple a its.toArray from p) (by simp; lia) fun h' eb=>⟨rfl,I.turned (t':=s.toks) (fun b o hb e=>eb b o hb e) f0 f1 f3 f4 f5⟩
 self:=fun _ _ _ _ _ st h=>wpAny_pyIter_tupleiter st h
theorem turn_range {P:Program} {w:World} {K:PySem.W.Frag} {tg:Expr} (it:Addr) (lo:Int) (n:Nat):Turn P w K tg (Itr lo n) [it] it (fun i h=>IsRangeIter h it (lo+(i:Nat) * 1) ((n:Int) - (i:Nat)) 1) where
 mem:=by simp
 obj:=fun i h st b hb=>by
  have e:b=it:=by simpa using hb
  subst e
  exact ⟨_,st,fun v z=>by
   have z':Data.fields _=Data.cell v:=z
   cases z'⟩
 keep:=fun i h h' st k=>k it (by simp) _ st
 item:=by
  intro X hP hw hK hc i pins s σ H E I hf st hg
  subst hP hw hK
  obtain ⟨f0,f1,f2,f3,f4,f5⟩:=hf it (by simp)
  have W:=Walks.range (prog:=X.prog) (w:=X.w) (I.ok.hd hc) it lo 1 n
  refine W.item i s _ _ hg st fun v h' tk hv st' kk=>?_
  obtain ⟨t,rfl⟩:=hv
  have I1:Inv X pins σ H { s with heap:=h',toks:=tk }:=I.turned (fun b o hb e=>kk b o (by simpa using hb) e) f0 f1 f3 f4 f5
  refine ⟨_,rfl,go_of (s:={ s with heap:=h',toks:=tk }) (n:="range_iterator") st' rfl rfl (by decide) ⟨.int (lo+i),H,I1,⟨t,?_⟩,⟨rfl,rfl⟩,st',fun b hb=>(hf b hb).1⟩⟩
  rw [Int.mul_one]
 done:=by
  intro X hP hw hK hc i pins s σ H E I hf st hg
  subst hP hw hK
  obtain ⟨f0,f1,f2,f3,f4,f5⟩:=hf it (by simp)
  exact wpAny_pyNext_range_end (I.ok.hd hc) st (by have:n≤i:=hg; lia) fun h' eb=>⟨rfl,I.turned (t':=s.toks) (fun b o hb e=>eb b o hb e) f0 f1 f3 f4 f5⟩
 self:=fun _ _ _ _ _ st h=>wpAny_pyIter_rangeiter st h
end L2
namespace L2
open PySem PySem.Spec PyProof.Rows
section
variable {X:Cx} {tg:Expr}
theorem range_it {pins:List (Addr × Obj)} {σ:St} {H:Hp} {s:Shared} {R:It→Hp→Prop} {E:Value→Shared→Prop} {lo hi:Int} {t u v:Tok} {tk:Nat} (I:Inv X pins σ H s) (h1:-(2 ^ 62)≤lo) (h2:lo < 2 ^ 62) (h3:-(2 ^ 62)≤hi) (h4:hi < 2 ^ 62)
  (q:R (Itr lo (hi - lo).toNat) H):wpAny (model X.prog X.w) X.A (pyIter (.ref s.heap.objs.size)) (PIE X pins σ tg R) E { s with heap:=s.heap.push { cls:=.type "range",data:=.fields #[.int lo t,.int hi u,.int 1 v] },toks:=tk }:=by
 refine wpAny_pyIter_range (IsRange.new ..) (small_one h1 h2 h3 h4) ?_
 have I1:Inv X pins σ H { s with heap:=s.heap.push { cls:=.type "range",data:=.fields #[.int lo t,.int hi u,.int 1 v] },toks:=tk }:=I.kept fun b o e=>Heap.get?_push_of_some _ e
 refine ⟨(s.heap.push { cls:=.type "range",data:=.fields #[.int lo t,.int hi u,.int 1 v] }).objs.size,[(s.heap.push { cls:=.type "range",data:=.fields #[.int lo t,.int hi u,.int 1 v] }).objs.size],_,_,H,rfl,
  I1.kept (t':=tk) fun b o e=>Heap.get?_push_of_some _ e,turn_range _ lo (hi - lo).toNat,?_,fun b hb=>?_,q⟩
 ·have e1:lo+((0:Nat):Int) * 1=lo:=by simp
  have e2:(((hi - lo).toNat:Nat):Int) - ((0:Nat):Int)=Builtin.Range.rangeSize lo hi 1:=by rw [rangeSize_one]; split <;> lia
  show IsRangeIter _ _ (lo+((0:Nat):Int) * 1) ((((hi - lo).toNat:Nat):Int) - ((0:Nat):Int)) 1
  rw [e1,e2]
  exact Heap.get?_push_size _ rfl
 ·have e:b=(s.heap.push { cls:=.type "range",data:=.fields #[.int lo t,.int hi u,.int 1 v] }).objs.size:=by simpa using hb
  subst e
  exact I1.fpOk (Nat.le_refl _) (I1.hok.fresh (Nat.le_refl _))
noncomputable def iRng1 (ta:TA):TI:=fun σ H R=>ta σ H fun vs H1=>∃ j:Int,vs=[.int j]∧-(2 ^ 62)≤j∧j < 2 ^ 62∧R (Itr 0 j.toNat) H1
theorem pi_range1 {a:Expr} {ta:TA} {p pos:Pos} (hg:Gl X "range") (hm:X.mg "range" = none) (ha:PA X [a] ta) (hs:starEach [a] X.env=[(false,eval a X.env)]:=by rfl):PI X tg (.Call (.Name "range" p) [a] [] pos) (iRng1 ta):=by
 intro pins s σ H R I h
 refine Call_ (ld_blt I hg hm boot_range (PyProof.Rows.callWith_type1 (thn (ha pos pins s σ H _ I h) fun us s1 ⟨vs,H1,I1,r1,q1⟩=>?_) hs rfl))
 obtain ⟨j,e,q1,q2,q⟩:=q1
 subst e
 cases r1 with
 | cons r rr =>
  cases rr
  obtain ⟨t,rfl⟩:=r
  exact call_range_1 (range_it I1 (by lia) (by lia) q1 q2 (by simpa using q))
noncomputable def tFor (wi:TI) (g:TG) (tb:TS):TS:=fun D σ H=>wi σ H fun J H1=>∃ W:Nat→Nat→St→Hp→Prop,(∃ m,W 0 m σ H1)∧∀ i m σ H,W i m σ H →
 (J.stop i H∧D.nx σ H)∨(J.go i H∧∃ N:St→Hp→Prop,(∀ σ' H',N σ' H'→∃ m',m' < m∧W (i+1) m' σ' H')∧∀ x H',J.yld i H x H'→g x σ H' fun σ2 H2=>tb { D with nx:=N,ct:=N,bk:=D.nx } σ2 H2)
noncomputable def pinsAt (fp:List Addr) (h:Heap):List (Addr × Obj):=fp.filterMap fun b=>(h.get? b).map fun o=>(b,o)
theorem mem_pinsAt {fp:List Addr} {h:Heap} {b:Addr} {o:Obj} (hb:b∈fp) (e:h.get? b=some o):(b,o)∈pinsAt fp h:=List.mem_filterMap.mpr ⟨b,hb,by rw [e]; rfl⟩
theorem of_pinsAt {fp:List Addr} {h:Heap} {p:Addr × Obj} (hp:p∈pinsAt fp h):p.1∈fp∧h.get? p.1=some p.2:=by
 obtain ⟨b,hb,e⟩:=List.mem_filterMap.mp hp
 cases q:h.get? b with
 | none=>rw [q] at e; cases e
 | some o =>
  rw [q] at e
  have e':(b,o)=p:=Option.some.inj e
  subst e'
  exact ⟨hb,q⟩
theorem Inv.pinned {pins:List (Addr × Obj)} {σ:St} {H:Hp} {s:Shared} {fp:List Addr} (I:Inv X pins σ H s) (hf:∀ b∈fp,FpOk X pins H b) (ho:∀ b∈fp,∃ o,s.heap.get? b=some o∧∀ v,o.data≠.cell v):Inv X (pins++pinsAt fp s.heap) σ H s :=
 I.pins_of fun p hp=>(List.mem_append.mp hp).elim (fun z=>I.pin p (List.mem_append_right _ z)) fun z=>by
  obtain ⟨hb,e⟩:=of_pinsAt z
  obtain ⟨f0,f1,f2,_⟩:=hf p.1 hb
  obtain ⟨o,e',d⟩:=ho p.1 hb
  rw [e] at e'; cases e'
  exact ⟨e,f0,f1,f2,d⟩
theorem Inv.unpinned {pins pl:List (Addr × Obj)} {σ:St} {H:Hp} {s:Shared} (I:Inv X (pins++pl) σ H s):Inv X pins σ H s:=I.pins_of fun p hp=>I.pin p (List.mem_append_right _ (List.mem_append_left _ hp))
theorem ps_for {iter:Expr} {body:List Stmt} {wi:TI} {g:TG} {tb:TS} {pos:Pos} (hp:PassesOwn (model X.prog X.w) X.A X.env X.xe) (hc:X.calm=true) (hi:PI X tg iter wi) (hg:PG X tg g) (hb:PSs X body tb)
  (hs:∀ x,foldedSetIterable iter X.env x=pure x:=by intro _; rfl):PS X (.For tg iter body [] pos) (tFor wi g tb):=by
 intro pins s σ H D I h
 refine wpAny_For (thn (hi pins s σ H _ I h) fun v s1 h1=>thn h1 fun itv s2 h2=>?_) hs
 obtain ⟨it,fp,tn,J,H2,e,I2,T,st2,f2,W,⟨m0,w0⟩,turn⟩:=h2
 subst e
 have stat:∀ {H':Hp},(∀ b∈fp,H' b=none)→∀ b∈fp,FpOk X pins H' b:=fun hn b hb=>⟨hn b hb,(f2 b hb).2⟩
 refine codeAny_forLoop_any (fun n s'=>∃ i σ' H',Inv X pins σ' H' s'∧tn i s'.heap∧(∀ b∈fp,H' b=none)∧W i n σ' H') ?_ m0 ⟨0,σ,H2,I2,st2,fun b hb=>(f2 b hb).1,w0⟩
 rintro n s3 ⟨i,σ3,H3,I3,st3,fr3,w3⟩
 rcases turn i n σ3 H3 w3 with ⟨stop,qn⟩ | ⟨go,N,hN,step⟩
 ·refine wpAny_passesOwn hp (thn (T.done X rfl rfl rfl hc i pins s3 σ3 H3 X.xe I3 (stat fr3) st3 stop) fun r s4 ⟨hr,I4⟩=>?_)
  subst hr
  exact wpAny_execs_nil ⟨σ3,H3,I4,qn⟩
 ·refine wpAny_passesOwn hp (thn (T.item X rfl rfl rfl hc i pins s3 σ3 H3 X.xe I3 (stat fr3) st3 go) fun r s4 ⟨u,hr,h4⟩=>?_)
  subst hr
  refine wpAny_passesOwn hp (thn h4 fun _ s5 ⟨x,H5,I5,r5,y5,st5,fr5⟩=>?_)
  have I5':=I5.pinned (stat fr5) (T.obj _ _ st5)
  refine wpAny_passesOwn hp (thn (hg _ s5 σ3 H5 x u _ I5' r5 (step x H5 y5)) fun _ s6 ⟨σ6,H6,I6,q6⟩=>?_)
  refine wpAny_passesOwn hp (thn (hb _ s6 σ6 H6 _ I6 q6) fun f s7 q7=>?_)
  have again:∀ {σ7:St} {H7:Hp},Inv X (pins++pinsAt fp s5.heap) σ7 H7 s7→N σ7 H7→∃ m,m < n∧∃ i σ' H',Inv X pins σ' H' s7∧tn i s7.heap∧(∀ b∈fp,H' b=none)∧W i m σ' H':=fun {σ7 H7} I7 n7=>by
   obtain ⟨m',hm,w7⟩:=hN σ7 H7 n7
   refine ⟨m',hm,i+1,σ7,H7,I7.unpinned,T.keep _ _ _ st5 fun b hb o e=>(I7.pin (b,o) (List.mem_append_right _ (List.mem_append_right _ (mem_pinsAt hb e)))).1,fun b hb=>?_,w7⟩
   obtain ⟨o,e,d⟩:=T.obj _ _ st5 b hb
   exact (I7.pin (b,o) (List.mem_append_right _ (List.mem_append_right _ (mem_pinsAt hb e)))).2.1
  cases f with
  | next=>obtain ⟨σ7,H7,I7,n7⟩:=q7; exact again I7 n7
  | cont=>obtain ⟨σ7,H7,I7,n7⟩:=q7; exact again I7 n7
  | brk=>obtain ⟨σ7,H7,I7,q7⟩:=q7; exact ⟨σ7,H7,I7.unpinned,q7⟩
  | ret v=>obtain ⟨x7,σ7,H7,I7,r7,q7⟩:=q7; exact ⟨x7,σ7,H7,I7.unpinned,r7,q7⟩
end
end L2
namespace L2
open PySem PySem.Spec PyProof.Rows
noncomputable abbrev R2:=V→V→Hp→VK→Prop
noncomputable def OpR (X:Cx) (f:Value→Value→Sem Value) (r:R2):Prop :=
 ∀ (pins:List (Addr × Obj)) (s:Shared) (σ:St) (H:Hp) (x y:V) (v u:Value) (Q:VK),Inv X pins σ H s→RelV x v→RelV y u→r x y H Q →
  wpAny (model X.prog X.w) X.A (f v u) (EP X pins σ Q) X.xe s
noncomputable def UnR (X:Cx) (f:Value→Sem Value) (r:V→Hp→VK→Prop):Prop :=
 ∀ (pins:List (Addr × Obj)) (s:Shared) (σ:St) (H:Hp) (x:V) (v:Value) (Q:VK),Inv X pins σ H s→RelV x v→r x H Q →
  wpAny (model X.prog X.w) X.A (f v) (EP X pins σ Q) X.xe s
noncomputable def CallR (X:Cx) (f:Value) (r:List V→Hp→VK→Prop):Prop :=
 ∀ (pins:List (Addr × Obj)) (s:Shared) (σ:St) (H:Hp) (xs:List V) (us:List Value) (Q:VK),Inv X pins σ H s→Vals xs us→r xs H Q →
  wpAny (model X.prog X.w) X.A (call f us) (EP X pins σ Q) X.xe s
noncomputable def tOp (r:R2) (ta tb:TE):TE:=fun σ H Q=>ta σ H fun x H1=>tb σ H1 fun y H2=>r x y H2 Q
noncomputable def tUn (r:V→Hp→VK→Prop) (ta:TE):TE:=fun σ H Q=>ta σ H fun x H1=>r x H1 Q
noncomputable def rI (C:Int→Int→Prop) (g:Int→Int→V):R2:=fun x y H Q=>∃ i j,x=.int i∧y=.int j∧C i j∧Q (g i j) H
noncomputable def rI0 (g:Int→Int→V):R2:=fun x y H Q=>∃ i j,x=.int i∧y=.int j∧Q (g i j) H
noncomputable def rU (g:Int→V):V→Hp→VK→Prop:=fun x H Q=>∃ i,x=.int i∧Q (g i) H
section
variable {X:Cx} {a b c:Expr} {ta tb tc:TE} {pos:Pos}
theorem binT (ha:PE X a ta) (hb:PE X b tb) {pins:List (Addr × Obj)} {s:Shared} {σ:St} {H:Hp} {R:V→V→Hp→Prop} (I:Inv X pins σ H s)
  (h:ta σ H fun x H1=>tb σ H1 fun y H2=>R x y H2) {Q:Value→Shared→Prop} {f:Value→Value→Sem Value}
  (hf:∀ v u s2 x y H2,Inv X pins σ H2 s2→RelV x v→RelV y u→R x y H2→wpAny (model X.prog X.w) X.A (f v u) Q X.xe s2) :
  wpAny (model X.prog X.w) X.A (eval a X.env) (fun v s₁=>wpAny (model X.prog X.w) X.A (eval b X.env) (fun u s₂=>wpAny (model X.prog X.w) X.A (f v u) Q X.xe s₂) X.xe s₁) X.xe s:=by
 refine thn (ha pins s σ H _ I h) fun v s1 ⟨x,H1,I1,r1,q1⟩=>?_
 refine thn (hb pins s1 σ H1 _ I1 q1) fun u s2 ⟨y,H2,I2,r2,q2⟩=>?_
 exact hf v u s2 x y H2 I2 r1 r2 q2
theorem pe_op {op:Operator} {r:R2} (ho:OpR X (binaryOp op) r) (ha:PE X a ta) (hb:PE X b tb):PE X (.BinOp a op b pos) (tOp r ta tb):=by
 intro pins s σ H Q I h
 exact wpAny_BinOp (binT ha hb I h fun v u s2 x y H2 I2 rx ry q=>ho pins s2 σ H2 x y v u Q I2 rx ry q)
theorem pe_un {op:UnaryOp} {r:V→Hp→VK→Prop} (ho:UnR X (unaryOp op) r) (ha:PE X a ta):PE X (.UnaryOp op a pos) (tUn r ta):=by
 intro pins s σ H Q I h
 exact UnaryOp_ (thn (ha pins s σ H _ I h) fun v s1 ⟨x,H1,I1,r1,q1⟩=>ho pins s1 σ H1 x v Q I1 r1 q1)
theorem opI {f:Value→Value→Sem Value} {C:Int→Int→Prop} {g:Int→Int→Int}
  (rule:∀ (i j:Int) (t u:Tok) (s:Shared) (Q:Value→Shared→Prop) (E:Value→Shared→Prop),C i j→Q (.int (g i j) s.toks) { s with toks:=s.toks+1 }→wpAny (model X.prog X.w) X.A (f (.int i t) (.int j u)) Q E s) :
  OpR X f (rI C fun i j=>.int (g i j)):=by
 intro pins s σ H x y v u Q I rx ry h
 obtain ⟨i,j,rfl,rfl,hc,q⟩:=h
 obtain ⟨t,rfl⟩:=rx
 obtain ⟨t',rfl⟩:=ry
 exact rule i j t t' s _ _ hc ⟨.int (g i j),H,I.tok _,⟨_,rfl⟩,q⟩
theorem opI0 {f:Value→Value→Sem Value} {g:Int→Int→Int}
  (rule:∀ (i j:Int) (t u:Tok) (s:Shared) (Q:Value→Shared→Prop) (E:Value→Shared→Prop),Q (.int (g i j) s.toks) { s with toks:=s.toks+1 }→wpAny (model X.prog X.w) X.A (f (.int i t) (.int j u)) Q E s) :
  OpR X f (rI0 fun i j=>.int (g i j)):=by
 intro pins s σ H x y v u Q I rx ry h
 obtain ⟨i,j,rfl,rfl,q⟩:=h
 obtain ⟨t,rfl⟩:=rx
 obtain ⟨t',rfl⟩:=ry
 exact rule i j t t' s _ _ ⟨.int (g i j),H,I.tok _,⟨_,rfl⟩,q⟩
theorem opB0 {f:Value→Value→Sem Value} {g:Int→Int→Bool}
  (rule:∀ (i j:Int) (t u:Tok) (s:Shared) (Q:Value→Shared→Prop) (E:Value→Shared→Prop),Q (.bool (g i j)) s→wpAny (model X.prog X.w) X.A (f (.int i t) (.int j u)) Q E s) :
  OpR X f (rI0 fun i j=>.bl (g i j)):=by
 intro pins s σ H x y v u Q I rx ry h
 obtain ⟨i,j,rfl,rfl,q⟩:=h
 obtain ⟨t,rfl⟩:=rx
 obtain ⟨t',rfl⟩:=ry
 exact rule i j t t' s _ _ ⟨.bl (g i j),H,I,rfl,q⟩
noncomputable def CDiv (i j:Int):Prop:=0 < j∧j < 1073741824
noncomputable def CPow (i j:Int):Prop:=0≤j∧j≤1000000∧i.natAbs < 2 ^ 64
noncomputable def CMul (i j:Int):Prop:=(-(2 ^ 64) < i∧i < 2 ^ 64)∨(-(2 ^ 64) < j∧j < 2 ^ 64)
theorem CMul.ok {i j:Int} (h:CMul i j):IntMulOk i j:=by
 rcases h with ⟨h1,h2⟩ | ⟨h1,h2⟩
 ·exact .of_left (intBits_le_64 h1 h2)
 ·exact .of_right (intBits_le_64 h1 h2)
theorem op_add:OpR X (binaryOp .Add) (rI0 fun i j=>.int (i+j)):=opI0 fun _ _ _ _ _ _ _ q=>add_int q
theorem op_sub:OpR X (binaryOp .Sub) (rI0 fun i j=>.int (i - j)):=opI0 fun _ _ _ _ _ _ _ q=>sub_int q
theorem op_mul:OpR X (binaryOp .Mult) (rI CMul fun i j=>.int (i * j)):=opI fun _ _ _ _ _ _ _ hc q=>mul_int q hc.ok
theorem op_fdiv:OpR X (binaryOp .FloorDiv) (rI CDiv fun i j=>.int (i / j)):=opI fun i j _ _ _ _ _ hc q=>by
 have h1:(0:Int) < j:=hc.1
 have h2:j < 1073741824:=hc.2
 exact floordiv_int (by lia) (by rw [Int.fdiv_eq_ediv_of_nonneg i (by lia)]; exact q) (.inl (PyProof.noPylong_small (by lia)))
theorem op_mod:OpR X (binaryOp .Mod) (rI (fun _ j=>0 < j) fun i j=>.int (i % j)):=opI fun i j _ _ _ _ _ hc q=>by
 have h1:(0:Int) < j:=hc
 exact mod_int' (by lia) (by rw [Int.fmod_eq_emod_of_nonneg i (by lia)]; exact q)
theorem op_pow:OpR X (binaryOp .Pow) (rI CPow fun i j=>.int (i ^ j.toNat)):=opI fun _ _ _ _ _ _ _ hc q=>pow_int_small hc.1 hc.2.1 hc.2.2 q
theorem unI {f:Value→Sem Value} {g:Int→Int}
  (rule:∀ (i:Int) (t:Tok) (s:Shared) (Q:Value→Shared→Prop) (E:Value→Shared→Prop),Q (.int (g i) s.toks) { s with toks:=s.toks+1 }→wpAny (model X.prog X.w) X.A (f (.int i t)) Q E s) :
  UnR X f (rU fun i=>.int (g i)):=by
 intro pins s σ H x v Q I rx h
 obtain ⟨i,rfl,q⟩:=h
 obtain ⟨t,rfl⟩:=rx
 exact rule i t s _ _ ⟨.int (g i),H,I.tok _,⟨_,rfl⟩,q⟩
theorem un_neg:UnR X (unaryOp .USub) (rU fun i=>.int (-i)):=unI fun _ _ _ _ _ q=>neg_int q
end
noncomputable def scal:V→V→Bool
 | .non,.non=>true | .non,.int _=>true | .int _,.non=>true | .non,.bl _=>true | .bl _,.non=>true | .non,.str _=>true | .str _,.non=>true
 | .int _,.int _=>true | .bl _,.bl _=>true | .str _,.str _=>true | .byt _,.byt _=>true
 | .int _,.str _=>true | .str _,.int _=>true | .bl _,.str _=>true | .str _,.bl _=>true
 | _,_=>false
noncomputable def rEq:R2:=fun x y H Q=>scal x y=true∧Q (.bl (decide (x=y))) H
noncomputable def rNe:R2:=fun x y H Q=>scal x y=true∧Q (.bl (!decide (x=y))) H
theorem dec_int {i j:Int}:decide (V.int i=V.int j)=(i == j):=by
 rw [Bool.eq_iff_iff]
 simp
theorem dec_bl {i j:Bool}:decide (V.bl i=V.bl j)=(i == j):=by
 rw [Bool.eq_iff_iff]
 simp
theorem dec_str {i j:Str}:decide (V.str i=V.str j)=(i == j):=by
 rw [Bool.eq_iff_iff]
 simp
theorem dec_byt {i j:Array UInt8}:decide (V.byt i=V.byt j)=(i.toList == j.toList):=by
 rw [Bool.eq_iff_iff]
 cases i
 cases j
 simp
section
variable {X:Cx} {a b c:Expr} {ta tb tc:TE} {pos:Pos}
theorem fin_bl {pins:List (Addr × Obj)} {σ:St} {H:Hp} {s:Shared} {Q:VK} {k k':Bool} (I:Inv X pins σ H s) (q:Q (.bl k) H) (e:k=k'):EP X pins σ Q (.bool k') s:=by
 subst e
 exact ⟨.bl k,H,I,rfl,q⟩
theorem op_eq:OpR X (compareOp .Eq) rEq:=by
 intro pins s σ H x y v u Q I rx ry h
 obtain ⟨hs,q⟩:=h
 cases x with
 | non =>
  cases rx
  cases y with
  | non=>cases ry; exact PySem.EqNone.eq_none_none (fin_bl I q (by simp))
  | bl j=>cases ry; exact PySem.EqNone.eq_none_bool (fin_bl I q (by simp))
  | int j=>obtain ⟨t',rfl⟩:=ry; exact PySem.EqNone.eq_none_int (fin_bl I q (by simp))
  | str j=>obtain ⟨t',rfl⟩:=ry; exact PySem.EqNone.eq_none_str (fin_bl I q (by simp))
  | _=>exact absurd (show false=true from hs) Bool.false_ne_true
 | bl i =>
  cases rx
  cases y with
  | non=>cases ry; exact PySem.EqNone.eq_bool_none (fin_bl I q (by simp))
  | bl j=>cases ry; exact eq_bool (fin_bl I q dec_bl)
  | str j=>obtain ⟨t',rfl⟩:=ry; exact PySem.EqMixed.eq_bool_str (fin_bl I q (by simp))
  | _=>exact absurd (show false=true from hs) Bool.false_ne_true
 | int i =>
  obtain ⟨t,rfl⟩:=rx
  cases y with
  | non=>cases ry; exact PySem.EqNone.eq_int_none (fin_bl I q (by simp))
  | int j=>obtain ⟨t',rfl⟩:=ry; exact eq_int (fin_bl I q dec_int)
  | str j=>obtain ⟨t',rfl⟩:=ry; exact PySem.EqMixed.eq_int_str (fin_bl I q (by simp))
  | _=>exact absurd (show false=true from hs) Bool.false_ne_true
 | str i =>
  obtain ⟨t,rfl⟩:=rx
  cases y with
  | non=>cases ry; exact PySem.EqNone.eq_str_none (fin_bl I q (by simp))
  | bl j=>cases ry; exact PySem.EqMixed.eq_str_bool (fin_bl I q (by simp))
  | int j=>obtain ⟨t',rfl⟩:=ry; exact PySem.EqMixed.eq_str_int (fin_bl I q (by simp))
  | str j=>obtain ⟨t',rfl⟩:=ry; exact eq_str (fin_bl I q dec_str)
  | _=>exact absurd (show false=true from hs) Bool.false_ne_true
 | byt i =>
  obtain ⟨t,rfl⟩:=rx
  cases y with
  | byt j=>obtain ⟨t',rfl⟩:=ry; exact PySem.W.eq_bytes (fin_bl I q dec_byt)
  | _=>exact absurd (show false=true from hs) Bool.false_ne_true
 | _=>cases y <;> exact absurd (show false=true from hs) Bool.false_ne_true
theorem op_ne:OpR X (compareOp .NotEq) rNe:=by
 intro pins s σ H x y v u Q I rx ry h
 obtain ⟨hs,q⟩:=h
 cases x with
 | non =>
  cases rx
  cases y with
  | non=>cases ry; exact PySem.EqNone.ne_none_none (fin_bl I q (by simp))
  | bl j=>cases ry; exact PySem.EqNone.ne_none_bool (fin_bl I q (by simp))
  | int j=>obtain ⟨t',rfl⟩:=ry; exact PySem.EqNone.ne_none_int (fin_bl I q (by simp))
  | str j=>obtain ⟨t',rfl⟩:=ry; exact PySem.EqNone.ne_none_str (fin_bl I q (by simp))
  | _=>exact absurd (show false=true from hs) Bool.false_ne_true
 | bl i =>
  cases rx
  cases y with
  | non=>cases ry; exact PySem.EqNone.ne_bool_none (fin_bl I q (by simp))
  | bl j=>cases ry; exact ne_bool (fin_bl I q (congrArg not dec_bl))
  | str j=>obtain ⟨t',rfl⟩:=ry; exact PySem.EqMixed.ne_bool_str (fin_bl I q (by simp))
  | _=>exact absurd (show false=true from hs) Bool.false_ne_true
 | int i =>
  obtain ⟨t,rfl⟩:=rx
  cases y with
  | non=>cases ry; exact PySem.EqNone.ne_int_none (fin_bl I q (by simp))
  | int j=>obtain ⟨t',rfl⟩:=ry; exact ne_int (fin_bl I q (congrArg not dec_int))
  | str j=>obtain ⟨t',rfl⟩:=ry; exact PySem.EqMixed.ne_int_str (fin_bl I q (by simp))
  | _=>exact absurd (show false=true from hs) Bool.false_ne_true
 | str i =>
  obtain ⟨t,rfl⟩:=rx
  cases y with
  | non=>cases ry; exact PySem.EqNone.ne_str_none (fin_bl I q (by simp))
  | bl j=>cases ry; exact PySem.EqMixed.ne_str_bool (fin_bl I q (by simp))
  | int j=>obtain ⟨t',rfl⟩:=ry; exact PySem.EqMixed.ne_str_int (fin_bl I q (by simp))
  | str j=>obtain ⟨t',rfl⟩:=ry; exact ne_str (fin_bl I q (congrArg not dec_str))
  | _=>exact absurd (show false=true from hs) Bool.false_ne_true
 | byt i =>
  obtain ⟨t,rfl⟩:=rx
  cases y with
  | byt j=>obtain ⟨t',rfl⟩:=ry; exact PySem.W.ne_bytes (fin_bl I q (congrArg not dec_byt))
  | _=>exact absurd (show false=true from hs) Bool.false_ne_true
 | _=>cases y <;> exact absurd (show false=true from hs) Bool.false_ne_true
theorem op_lt:OpR X (compareOp .Lt) (rI0 fun i j=>.bl (decide (i < j))):=opB0 fun _ _ _ _ _ _ _ q=>lt_int q
theorem op_gt:OpR X (compareOp .Gt) (rI0 fun i j=>.bl (decide (j < i))):=opB0 fun _ _ _ _ _ _ _ q=>gt_int q
theorem op_in_str:OpR X (compareOp .In) (fun x y H Q=>∃ i j,x=.str i∧y=.str j∧Q (.bl (!(Builtin.Str.occurrences j i 0 j.length 1).isEmpty)) H):=by
 intro pins s σ H x y v u Q I rx ry h
 obtain ⟨i,j,rfl,rfl,q⟩:=h
 obtain ⟨t,rfl⟩:=rx
 obtain ⟨t',rfl⟩:=ry
 exact in_str (fin_bl I q rfl)
theorem op_notN:OpR X (compareOp .IsNot) (fun x y H Q=>y=.non∧Q (.bl (!decide (x=.non))) H):=by
 intro pins s σ H x y v u Q I rx ry h
 obtain ⟨rfl,q⟩:=h
 cases ry
 refine isnot_none_gen (fin_bl I q ?_)
 cases x <;> first
  | (cases rx; rfl)
  | (obtain ⟨t,rfl⟩:=rx; rfl)
theorem OpR.or {f:Value→Value→Sem Value} {r r':R2} (h:OpR X f r) (h':OpR X f r'):OpR X f (fun x y H Q=>r x y H Q∨r' x y H Q):=by
 intro pins s σ H x y v u Q I rx ry q
 rcases q with q | q
 ·exact h pins s σ H x y v u Q I rx ry q
 ·exact h' pins s σ H x y v u Q I rx ry q
theorem pe_cmpR {op:CmpOp} {r:R2} (ho:OpR X (compareOp op) r) (ha:PE X a ta) (hb:PE X b tb) (hm:behindInMarks op b=false):PE X (.Compare a [op] [b] pos) (tOp r ta tb):=by
 intro pins s σ H Q I h
 exact wpAny_Compare1 (binT ha hb I h fun v u s2 x y H2 I2 rx ry q=>ho pins s2 σ H2 x y v u Q I2 rx ry q) hm
noncomputable def tTest (t:TE):TT:=fun σ H Q=>t σ H fun x H'=>∃ k,x=.bl k∧Q k H'
theorem pt_cmpR {op:CmpOp} {r:R2} (ho:OpR X (compareOp op) r) (ha:PE X a ta) (hb:PE X b tb) (hm:behindInMarks op b=false):PT X (.Compare a [op] [b] pos) (tTest (tOp r ta tb)):=by
 intro pins s σ H Q I h
 refine wpAny_isTrue_Compare1 (thn (ha pins s σ H _ I h) fun v s1 ⟨x,H1,I1,r1,q1⟩=>thn (hb pins s1 σ H1 _ I1 q1) fun u s2 ⟨y,H2,I2,r2,q2⟩ =>
  thn (ho pins s2 σ H2 x y v u _ I2 r1 r2 q2) fun c s3 ⟨z,H3,I3,r3,k,e,q3⟩=>?_) hm
 subst e
 cases r3
 exact wpAny_truthy_bool ⟨H3,I3,q3⟩
theorem line63:(sizeLine:Nat) < 2 ^ 63:=by rw [sizeLine_eq]; decide
theorem op_add_str:OpR X (binaryOp .Add) (fun x y H Q=>∃ i j,x=.str i∧y=.str j∧i.length+j.length≤sizeLine∧Q (.str (i++j)) H):=by
 intro pins s σ H x y v u Q I rx ry h
 obtain ⟨i,j,rfl,rfl,hz,q⟩:=h
 obtain ⟨t,rfl⟩:=rx
 obtain ⟨t',rfl⟩:=ry
 exact add_str (fun t' tk=>⟨.str (i++j),H,I.tok _,⟨_,rfl⟩,q⟩) hz
theorem vals1 {x:V} {us:List Value} (r:Vals [x] us):∃ u,us=[u]∧RelV x u:=by
 cases r with
 | cons r1 r2=>cases r2; exact ⟨_,rfl,r1⟩
theorem vals2 {x y:V} {us:List Value} (r:Vals [x,y] us):∃ u w',us=[u,w']∧RelV x u∧RelV y w':=by
 cases r with
 | cons r1 r2 =>
  cases r2 with
  | cons r3 r4=>cases r4; exact ⟨_,_,rfl,r1,r3⟩
end
end L2
namespace L2
open PySem PySem.Spec PyProof.Rows
structure ObjM (h:Heap) (x dx C:Addr) (mA:Str→Option Value):Prop where
 obj:h.get? x=some (PySem.W.instObj C dx)
 ns:h.Ns1 dx mA
 ne:dx≠x
theorem lookIn_ns {h:Heap} {dx:Addr} {mA:Str→Option Value} (n:h.Ns1 dx mA):∃ od,h.get? dx=some od∧∀ name,PySem.W.lookIn name od=some (mA name):=by
 obtain ⟨o,es,ep,ho,hd,hk,_,hm⟩:=n
 refine ⟨o,ho,fun name=>?_⟩
 have e:=hm name
 unfold nsFind findBy at e
 rw [← Array.find?_toList] at e
 unfold PySem.W.lookIn
 rw [hd]
 dsimp only
 split
 ·rename_i y q
  rw [q] at e
  exact congrArg some e
 ·rename_i q
  rw [q] at e
  have a:es.toList.any (·.refKey)=false:=by
   rw [List.any_eq_false]
   intro y hy
   obtain ⟨z,t,hkey⟩:=hk y (Array.mem_toList_iff.mp hy)
   simp [DictEntry.refKey,hkey]
  have a':¬ es.toList.any (·.refKey)=true:=by rw [a]; exact Bool.false_ne_true
  rw [if_neg a']
  exact congrArg some e
theorem ObjM.look {h:Heap} {x dx C:Addr} {mA:Str→Option Value} (I:ObjM h x dx C mA):∃ od,PySem.W.InstAt h x (PySem.W.instObj C dx) C (some od)∧∀ name,PySem.W.lookIn name od=some (mA name) :=
 let ⟨od,ho,hl⟩:=lookIn_ns I.ns
 ⟨od,⟨I.obj,rfl,rfl,ho⟩,hl⟩
section
variable {prog:Program} {w:World} {A:Around} {E:Value→Shared→Prop} {s:Shared} {K:PySem.W.Frag} {x dx C f:Addr} {mA:Str→Option Value} {name:Str} {v:Value}
end
theorem RelO.some_of {v:V} {o:Option Value} (r:RelO (some v) o):∃ u,o=some u∧RelV v u:=by
 cases o with
 | none=>exact (show False from r).elim
 | some u=>exact ⟨u,rfl,r⟩
section
variable {P:Program} {w:World} {H H':Hp} {h h':Heap} {a C dx:Addr} {fs fs':List (Str × V)}
theorem ins_get (hok:HOk P w H h) (e:H a=some (.ins C dx fs)):∃ mA,ObjM h a dx C mA∧(∀ f,RelO (fs.lookup f) (mA f))∧PySem.Within mA (fs.map (·.1))∧fs.length≤1000∧H dx=some (.own a):=by
 obtain ⟨d,z,ne,ob,mA,n,r,q⟩:=(show ObjOk P w H h a (.ins C dx fs) from hok a _ e)
 exact ⟨mA,⟨ob,n,ne⟩,r,q,z,d⟩
end
structure Cls (K:PySem.W.Frag) (C:Addr):Prop where
 pg:PySem.W.plainGet K C Str.empty=true
 hd:PySem.W.hasDictIn K C=true
 po:PySem.W.plainOver K C=true
 sa:PySem.W.findIn K (.ref C) "__setattr__" = some (some (.builtin "object.__setattr__"))
theorem Cls.get {K:PySem.W.Frag} {C:Addr} (c:Cls K C) (f:Str):PySem.W.plainGet K C f=true:=c.pg
structure Con (K:PySem.W.Frag) (C:Addr) (f:Str) (v:V) (u:Value):Prop where
 at_:PySem.W.findIn K (.ref C) f=some (some u)
 rel:RelV v u
 get:PySem.W.specialIn K u "__get__" = some none
 cp:PySem.W.copiedNames.contains f=false
structure Meth (K:PySem.W.Frag) (C:Addr) (m:Str) (f:Addr):Prop where
 at_:PySem.W.findIn K (.ref C) m=some (some (.ref f))
 fn:PySem.W.isFn K (.ref f)=true
 kp:PySem.W.keepIn K (.ref f)=true
section
variable {X:Cx} {pins:List (Addr × Obj)} {σ:St} {H:Hp} {s:Shared} {a C dx:Addr} {fs:List (Str × V)} {f:Str} {v:V} {A:Around} {E:Value→Shared→Prop}
end
section
variable {X:Cx} {o e value:Expr} {f:Str} {pos pos' tpos:Pos} {ta tv:TE}
end
section
variable {X:Cx} {pins:List (Addr × Obj)} {σ:St} {H:Hp} {s:Shared} {A:Around} {E:Value→Shared→Prop} {Q:Value→Shared→Prop} {c:Value} {b:Bool}
inductive TyOf (K:PySem.W.Frag) (H:Hp):V→Value→Prop where
 | non:TyOf K H .non (.type "NoneType")
 | bl (x:Bool):TyOf K H (.bl x) (.type "bool")
 | int (i:Int):TyOf K H (.int i) (.type "int")
 | str (x:Str):TyOf K H (.str x) (.type "str")
 | flt (x:UInt64):TyOf K H (.flt x) (.type "float")
 | lst {a:Addr} {xs:List V} (e:H a=some (.lst xs)):TyOf K H (.ref a) (.type "list")
 | frz {a:Addr} {o:Obj} {xs:List V} (e:H a=some (.frz o (.lst xs))):TyOf K H (.ref a) (.type "list")
 | tup {a:Addr} {xs:List V} (e:H a=some (.tup xs)):TyOf K H (.ref a) (.type "tuple")
 | dK {a:Addr} {kvs:List (Key × V)} (e:H a=some (.dK kvs)):TyOf K H (.ref a) (.type "dict")
 | dT {a:Addr} {kvs:List (List Key × V)} (e:H a=some (.dT kvs)):TyOf K H (.ref a) (.type "dict")
 | ins {a C dx:Addr} {fs:List (Str × V)} (e:H a=some (.ins C dx fs)) (cl:Cls K C) (ha:PySem.W.findIn K (.ref C) "__class__" = some (some (.builtin "object.__class__")))
   (hn:PySem.W.specialIn K (.builtin "object.__class__") "__get__" = some (some (.builtin "getset_descriptor.__get__"))) (htk:PySem.W.takesIn K (.builtin "object.__class__")=some true)
   (hm:PySem.W.mroIn K C (.type "object")=some true):TyOf K H (.ref a) (.ref C)
theorem isinst_ok {x:V} {u t:Value} (I:Inv X pins σ H s) (rx:RelV x u) (ty:TyOf X.K H x t) (e:PySem.W.kitOne X.K t c=some b) (h:∀ tk,Q (.bool b) { s with toks:=tk }) :
  wpAny (model X.prog X.w) A (call (.builtin "isinstance") [u,c]) Q E s:=by
 cases ty with
 | non=>cases (show u=Value.none from rx); exact PySem.W.kia_one PySem.W.kitx_none I.kIn True.intro e (fun z=>nomatch z) h
 | bl y=>cases (show u=Value.bool y from rx); exact PySem.W.kia_one PySem.W.kitx_bool I.kIn True.intro e (fun z=>nomatch z) h
 | int i=>obtain ⟨t,q⟩:=(show ∃ t,u=Value.int i t from rx); cases q; exact PySem.W.kia_one PySem.W.kitx_int I.kIn True.intro e (fun z=>nomatch z) h
 | str y=>obtain ⟨t,q⟩:=(show ∃ t,u=Value.str y t from rx); cases q; exact PySem.W.kia_one PySem.W.kitx_str I.kIn True.intro e (fun z=>nomatch z) h
 | flt y=>obtain ⟨t,q⟩:=(show ∃ t,u=Value.float y t from rx); cases q; exact PySem.W.kia_one PySem.W.kitx_float I.kIn True.intro e (fun z=>nomatch z) h
 | @lst a xs ea =>
  cases (show u=Value.ref a from rx)
  obtain ⟨_,_,n,_,h1⟩:=(show ObjOk X.prog X.w H s.heap a (.lst xs) from I.hok a _ ea)
  exact PySem.W.kia_one PySem.W.kitx_list I.kIn ⟨_,h1,rfl⟩ e (fun z=>nomatch z) h
 | @frz a ob xs ea =>
  cases (show u=Value.ref a from rx)
  obtain ⟨_,_,_,n,_,h1⟩:=(show ObjOk X.prog X.w H s.heap a (.frz ob (.lst xs)) from I.hok a _ ea)
  exact PySem.W.kia_one PySem.W.kitx_list I.kIn ⟨_,h1,rfl⟩ e (fun z=>nomatch z) h
 | @tup a xs ea =>
  cases (show u=Value.ref a from rx)
  obtain ⟨_,_,_,p⟩:=(show ObjOk X.prog X.w H s.heap a (.tup xs) from I.hok a _ ea)
  obtain ⟨o,h1,h2,_⟩:=p
  exact PySem.W.kia_one PySem.W.kitx_tuple I.kIn ⟨o,h1,h2⟩ e (fun z=>nomatch z) h
 | @dK a kvs ea =>
  cases (show u=Value.ref a from rx)
  obtain ⟨_,_,vs,_,p⟩:=(show ObjOk X.prog X.w H s.heap a (.dK kvs) from I.hok a _ ea)
  obtain ⟨o,es,ep,h1,h2,_⟩:=p
  exact PySem.W.kia_one PySem.W.kitx_dict I.kIn ⟨o,h1,h2.1⟩ e (fun z=>nomatch z) h
 | @dT a kvs ea =>
  cases (show u=Value.ref a from rx)
  obtain ⟨_,_,xs,_,o,es,ep,h1,h2,_⟩:=(show ObjOk X.prog X.w H s.heap a (.dT kvs) from I.hok a _ ea)
  exact PySem.W.kia_one PySem.W.kitx_dict I.kIn ⟨o,h1,h2.1⟩ e (fun z=>nomatch z) h
 | @ins a C dx fs ea cl ha hn htk hm =>
  cases (show u=Value.ref a from rx)
  obtain ⟨mA,O,_⟩:=ins_get I.hok ea
  obtain ⟨od,J,_⟩:=O.look
  exact PySem.W.kia_one (PySem.W.kitx_own (cl.get _) cl.hd ha hn htk hm) I.kIn J e (fun z=>nomatch z) h
end
end L2
namespace L2
open PySem PySem.Spec PyProof.Rows
structure Room (k:Nat) (A:Around):Prop where
 hd:A.handled=none
 dp:A.depth+3 * k+5 < recursionLimit
 un:A.units+16 * k+200 < cLine
theorem Room.mono {j k:Nat} {A:Around} (r:Room k A) (h:j≤k):Room j A:=⟨r.hd,by have:=r.dp; lia,by have:=r.un; lia⟩
theorem Room.deeper {k:Nat} {A:Around} (r:Room (k+1) A) (env:Env):Room k (A.deeper env) :=
 ⟨r.hd,by have:=r.dp; show A.depth+1+3 * k+5 < _; lia,by have:=r.un; show A.units+3+16 * k+200 < _; lia⟩
theorem Room.depth {k:Nat} {A:Around} (r:Room k A):A.depth < recursionLimit:=by have:=r.dp; lia
theorem Room.units {k:Nat} {A:Around} (r:Room k A):A.units+64 < cLine:=by have:=r.un; lia
noncomputable def tNil:TA:=fun _ H Q=>Q [] H
noncomputable def tCons (ta:TE) (tr:TA):TA:=fun σ H Q=>ta σ H fun x H1=>tr σ H1 fun xs H2=>Q (x :: xs) H2
section
variable {X:Cx} {e:Expr} {es:List Expr} {te:TE} {t:TA} {pos:Pos}
theorem pa_nil:PA X [] tNil:=fun _ _ _ _ H Q I h=>Calls.spliced_nil ⟨[],H,I,.nil,h⟩
theorem pa_cons (ha:PE X e te) (hr:PA X es t) (hs:starEach (e :: es) X.env=(false,eval e X.env) :: starEach es X.env:=by rfl):PA X (e :: es) (tCons te t):=by
 intro pos pins s σ H Q I h
 rw [hs]
 show wpAny _ _ (spliced ((false,eval e X.env) :: backTo pos (starEach es X.env))) _ _ s
 refine Calls.spliced_cons (thn (ha pins s σ H _ I h) fun u s1 ⟨x,H1,I1,r1,q1⟩=>?_)
 exact thn (hr pos pins s1 σ H1 _ I1 q1) fun us s2 ⟨xs,H2,I2,r2,q2⟩=>⟨x :: xs,H2,I2,.cons r1 r2,q2⟩
noncomputable def tTup (t:TA):TE:=fun σ H Q=>t σ H fun xs H1=>xs.length≤sizeLine∧∀ p,H1 p=none→Q (.ref p) (upd H1 p (.tup xs))
noncomputable def tLst (t:TA):TE:=fun σ H Q=>t σ H fun xs H1=>xs.length≤sizeLine∧∀ p,H1 p=none→Q (.ref p) (upd H1 p (.lst xs))
theorem pe_tup {x1} (h:PA X es t):PE X (.Tuple es x1 pos) (tTup t):=by
 intro pins s σ H Q I hq
 refine wpAny_Tuple_spliced (thn (h pos pins s σ H _ I hq) fun us s1 ⟨xs,H1,I1,r,z,q⟩=>⟨by rw [← r.length]; exact z,?_⟩)
 have hf:H1 s1.heap.objs.size=none:=I1.hok.fresh (Nat.le_refl _)
 refine ⟨.ref s1.heap.objs.size,upd H1 s1.heap.objs.size (.tup xs),I1.laid (t':=s1.toks) (fun b u e=>Heap.get?_push_of_some _ e) (Nat.le_refl _) ?_,rfl,q _ hf⟩
 exact ⟨z,us,r,⟨_,Heap.get?_push_size _ rfl,rfl,_,rfl⟩⟩
theorem pe_lst (h:PA X es t):PE X (.List es pos) (tLst t):=by
 intro pins s σ H Q I hq
 refine wpAny_List_spliced (thn (h pos pins s σ H _ I hq) fun us s1 ⟨xs,H1,I1,r,z,q⟩=>⟨by rw [← r.length]; exact z,?_⟩)
 have hf:H1 s1.heap.objs.size=none:=I1.hok.fresh (Nat.le_refl _)
 refine ⟨.ref s1.heap.objs.size,upd H1 s1.heap.objs.size (.lst xs),I1.laid (t':=s1.toks) (fun b u e=>Heap.get?_push_of_some _ e) (Nat.le_refl _) ?_,rfl,q _ hf⟩
 exact ⟨z,us,0,r,Heap.get?_push_size _ rfl⟩
end
noncomputable abbrev Sp:=List V→Hp→VK→XK→Prop
noncomputable abbrev CXT:=List Env→Hp→Shared→XK→Value→Shared→Prop
structure Env0 (P:Program) (w:World) (K:PySem.W.Frag) (mg:Str→Option Value) (base:Heap) (A:Around) (outer:List Env) (s:Shared) (H:Hp):Prop where
 frames:A.frames=some outer
 mod:Mod K mg base
 bs:∀ b o,base.get? b=some o→s.heap.get? b=some o∧H b=none
 bsz:base.objs.size≤s.heap.objs.size
 funs:s.heap.FunFrames base outer
 frf:∀ b∈frs outer,H b=none
 hok:HOk P w H s.heap
 bare:AllBare s.gens
noncomputable def CE (outer:List Env) (P:Program) (w:World) (H:Hp) (s:Shared) (Q:VK) (u:Value) (s':Shared):Prop :=
 ∃ v H',s'.os=s.os∧AllBare s'.gens∧Un (frs outer) [] H H' s.heap s'.heap∧HOk P w H' s'.heap∧RelV v u∧Q v H'
noncomputable def CR (CX:CXT) (outer:List Env) (P:Program) (w:World) (H:Hp) (s:Shared) (Q:VK) (E:XK) (r:Result) (s':Shared):Prop :=
 match r with
 | .ok (.ret u)=>CE outer P w H s Q u s'
 | .ok _=>False
 | .error e=>CX outer H s E e s'
structure FnOk (P:Program) (w:World) (K:PySem.W.Frag) (mg:Str→Option Value) (base:Heap) (CX:CXT) (k:Nat) (f:Addr) (fd:FuncData) (ps:List Str) (sp:Sp):Prop where
 len:∀ vs H Q E,sp vs H Q E→vs.length=ps.length
 run:∀ (A:Around) (outer:List Env) (s:Shared) (H:Hp) (args:Args) (us:List Value) (vs:List V) (Q:VK) (E:XK),Room k A→Env0 P w K mg base A outer s H→BindsTo s fd args (ps.zip us)→Vals vs us→sp vs H Q E →
  codeAny (model P w) A (.call (.ref f) args) (CR CX outer P w H s Q E) s
section
variable {X:Cx} {pins:List (Addr × Obj)} {σ:St} {H:Hp} {s s':Shared}
theorem Inv.env0 (I:Inv X pins σ H s):Env0 X.prog X.w X.K X.mg X.base X.A X.stack s H :=
 ⟨I.ok.frames,I.ok.mod,I.bs,Nat.le_trans I.ok.bsz I.sz,I.stack,I.stkFree,I.hok,I.bare⟩
theorem Inv.after {Q:VK} {u:Value} (I:Inv X pins σ H s) (h:CE X.stack X.prog X.w H s Q u s'):EP X pins σ Q u s':=by
 obtain ⟨v,H',os,bare,un,hok,r,q⟩:=h
 obtain ⟨hh,g,d,t,os'⟩:=s'
 obtain rfl:os'=s.os:=os
 exact ⟨v,H',I.call (h':=hh) (g':=g) (d':=d) (t':=t) (ch:=[]) un hok bare (fun b z=>absurd z (by simp)),r,q⟩
end
noncomputable def tCall (sp:Sp) (dvs:List V) (E:XK) (t:TA):TE:=fun σ H Q=>t σ H fun vs H1=>sp (vs++dvs) H1 Q E
noncomputable def Binds (K:PySem.W.Frag) (fd:FuncData) (ps:List Str) (ds:List Value):Prop :=
 ∀ (s:Shared) (us:List Value),K.In s.heap→(us++ds).length=ps.length→BindsTo s fd ⟨us,[]⟩ (ps.zip (us++ds))
theorem Binds.all {K:PySem.W.Frag} {fd:FuncData} {ps:List Str} (h:∀ us:List Value,us.length=ps.length→bindArgs fd ⟨us,[]⟩=pure (ps.zip us)):Binds K fd ps []:=fun s us _ hl=>by
 rw [List.append_nil] at hl ⊢
 exact .of_eq (h us hl)
noncomputable def Passes (CX:CXT) (X:Cx) (E:XK):Prop:=∀ (pins:List (Addr × Obj)) (σ:St) (H:Hp) (s:Shared) (e:Value) (s':Shared),Inv X pins σ H s→CX X.stack H s E e s'→X.xe e s'
section
variable {X:Cx} {CX:CXT} {k:Nat} {f C:Addr} {fd:FuncData} {ps:List Str} {sp:Sp} {dvs:List V} {ds:List Value} {E:XK} {x m:Str} {p pos apos:Pos} {e o:Expr} {es:List Expr} {ta:TE} {t:TA}
theorem run_fn {pins:List (Addr × Obj)} {σ:St} {H:Hp} {s:Shared} {Q:VK} {us:List Value} {vs:List V} (F:FnOk X.prog X.w X.K X.mg X.base CX k f fd ps sp) (hr:Room k X.A) (hb:Binds X.K fd ps ds) (hd:Vals dvs ds) (hx:Passes CX X E)
  (I:Inv X pins σ H s) (r:Vals vs us) (h:sp (vs++dvs) H Q E):wpAny (model X.prog X.w) X.A (call (.ref f) us) (EP X pins σ Q) X.xe s:=by
 have r2:Vals (vs++dvs) (us++ds):=r.append hd
 have hl:(us++ds).length=ps.length:=by rw [← r2.length]; exact F.len _ _ _ _ h
 refine wpAny_call (codeAny_mono (F.run X.A X.stack s H ⟨us,[]⟩ (us++ds) (vs++dvs) Q E hr I.env0 (hb s us I.kIn hl) r2 h) fun r s' hq=>?_)
 cases r with
 | error e=>exact hx pins σ H s e s' I hq
 | ok fl =>
  cases fl with
  | ret u=>exact I.after hq
  | next=>exact False.elim hq
  | brk=>exact False.elim hq
  | cont=>exact False.elim hq
theorem pe_call (F:FnOk X.prog X.w X.K X.mg X.base CX k f fd ps sp) (hr:Room k X.A) (hg:Gl X x) (hm:X.mg x=some (.ref f)) (hk:PySem.W.keepIn X.K (.ref f)=true) (hb:Binds X.K fd ps ds) (hd:Vals dvs ds) (hx:Passes CX X E)
  (ha:PA X (e :: es) t) (hdb:(x == ("__debug__" : Str))=false:=by decide) (he:starEach (e :: es) X.env=(false,eval e X.env) :: starEach es X.env:=by rfl) (hpl:(backTo pos (starEach es X.env)).any (·.1)=false:=by rfl) :
  PE X (.Call (.Name x p) (e :: es) [] pos) (tCall sp dvs E t):=by
 intro pins s σ H Q I h
 refine wpAny_Call_Name_kw (ld_glob I hg hm ?_ hdb)
 refine PySem.W.callWith_K (h₀:=X.base) I.ok.mod.kin hk (thn (ha pos pins s σ H _ I h) fun us s1 ⟨vs,H1,I1,r,q⟩=>⟨I1.kIn,?_⟩) he hpl
 exact run_fn F hr hb hd hx I1 r q
structure Mk (K:PySem.W.Frag) (C f:Addr):Prop where
 makes:PySem.W.makesIn K C=true
 init:PySem.W.findIn K (.ref C) "__init__" = some (some (.ref f))
 fn:PySem.W.isFn K (.ref f)=true
 kp:PySem.W.keepIn K (.ref C)=true
end
section
variable {X:Cx} {CX:CXT} {k:Nat} {f C:Addr} {fd:FuncData} {ps ks:List Str} {sp:Sp} {E:XK} {x m:Str} {p pos apos kpos:Pos} {e o:Expr} {es:List Expr} {kws:List Keyword} {te ta:TE} {t tk:TA} {nm:Option Str}
structure KBinds (K:PySem.W.Frag) (fd:FuncData) (ps ks:List Str) (g:List Value→List Value→List Value) (gV:List V→List V→List V):Prop where
 to:∀ (s:Shared) (us ws:List Value),K.In s.heap→(g us ws).length=ps.length→BindsTo s fd ⟨us,ks.zip ws⟩ (ps.zip (g us ws))
 rel:∀ {vs:List V} {us:List Value} {zs:List V} {ws:List Value},Vals vs us→Vals zs ws→Vals (gV vs zs) (g us ws)
variable {g:List Value→List Value→List Value} {gV:List V→List V→List V}
end
structure FnScope (N P:List Str) (sc:Scope):Prop where
 kind:sc.kind=.function
 co:sc.isCoroutine=false
 gen:sc.isGenerator=false
 nd:N.Nodup
 pre:N.take P.length=P
 par:∀ x∈P,sc.names.lookup x=some .local∨sc.names.lookup x=some .cell
 nofree:∀ y∈sc.names,y.2≠.free
theorem bindL_out {kindOf:Str→Option NameKind} {x:Str}:∀ {binds:List (Str × Value)} {m:Str→Option Value},(∀ v,(x,v)∉binds)→bindL kindOf binds m x=m x
 | [],_,_=>rfl
 | (n,v) :: r,m,h=>by
  unfold bindL
  rw [bindL_out fun w hw=>h w (List.mem_cons_of_mem _ hw)]
  split
  ·have:x≠n:=by rintro rfl; exact h v List.mem_cons_self
   simp [this]
  ·rfl
theorem bindC_out {kindOf:Str→Option NameKind} {x:Str}:∀ {binds:List (Str × Value)} {m:Str→Option Value},(∀ v,(x,v)∉binds)→bindC kindOf binds m x=m x
 | [],_,_=>rfl
 | (n,v) :: r,m,h=>by
  unfold bindC
  rw [bindC_out fun w hw=>h w (List.mem_cons_of_mem _ hw)]
  split
  ·rfl
  ·have:x≠n:=by rintro rfl; exact h v List.mem_cons_self
   simp [this]
theorem bindL_get {kindOf:Str→Option NameKind} {x:Str} {v:Value}:∀ {P:List Str} {vs:List Value} {i:Nat} {m:Str→Option Value},P.Nodup→P[i]?=some x→vs[i]?=some v→kindOf x=some .local →
  bindL kindOf (P.zip vs) m x=some v
 | [],_,_,_,_,h,_,_=>by simp at h
 | _ :: _,[],_,_,_,_,h,_=>by simp at h
 | p :: P,w :: vs,0,m,nd,h1,h2,hk=>by
  simp at h1 h2; subst h1; subst h2
  show bindL kindOf ((p,w) :: P.zip vs) m p=_
  unfold bindL
  rw [bindL_out fun v hv=>(List.nodup_cons.mp nd).1 (List.of_mem_zip hv).1,if_pos hk]
  simp
 | p :: P,w :: vs,i+1,m,nd,h1,h2,hk=>by
  show bindL kindOf ((p,w) :: P.zip vs) m x=_
  unfold bindL
  exact bindL_get (i:=i) (List.nodup_cons.mp nd).2 (by simpa using h1) (by simpa using h2) hk
theorem bindC_get {kindOf:Str→Option NameKind} {x:Str} {v:Value}:∀ {P:List Str} {vs:List Value} {i:Nat} {m:Str→Option Value},P.Nodup→P[i]?=some x→vs[i]?=some v→kindOf x≠some .local →
  bindC kindOf (P.zip vs) m x=some v
 | [],_,_,_,_,h,_,_=>by simp at h
 | _ :: _,[],_,_,_,_,h,_=>by simp at h
 | p :: P,w :: vs,0,m,nd,h1,h2,hk=>by
  simp at h1 h2; subst h1; subst h2
  show bindC kindOf ((p,w) :: P.zip vs) m p=_
  unfold bindC
  rw [bindC_out fun v hv=>(List.nodup_cons.mp nd).1 (List.of_mem_zip hv).1,if_neg hk]
  simp
 | p :: P,w :: vs,i+1,m,nd,h1,h2,hk=>by
  show bindC kindOf ((p,w) :: P.zip vs) m x=_
  unfold bindC
  exact bindC_get (i:=i) (List.nodup_cons.mp nd).2 (by simpa using h1) (by simpa using h2) hk
noncomputable def start (N:List Str) (vs:List V):St:=vs.map some++List.replicate (N.length - vs.length) none
noncomputable def cxOf (CX:CXT) (P:Program) (w:World) (K:PySem.W.Frag) (mg:Str→Option Value) (base:Heap) (N:List Str) (qual:Str) (scope:Scope) (f:Addr) (cd:Value) (A:Around) (outer:List Env) (s:Shared) (H:Hp) (E:XK):Cx where
 prog:=P
 w:=w
 K:=K
 mg:=mg
 base:=base
 A:=A.deeper (envOfC qual scope s.heap.objs.size f cd)
 N:=N
 s₀:=s
 H₀:=H
 env:=envOfC qual scope s.heap.objs.size f cd
 outer:=outer
 stack:=envOfC qual scope s.heap.objs.size f cd :: outer
 ex:=[]
 calm:=true
 fn:=fun _=>true
 pn:=[]
 xe:=fun e s'=>wpAny (model P w) (A.deeper (envOfC qual scope s.heap.objs.size f cd)) (leaving (envOfC qual scope s.heap.objs.size f cd) e) (fun _ s''=>CX outer H s E e s'') (fun e' s''=>CX outer H s E e' s'') s'
theorem cell_has {sc:Scope} {n:Nat} {x:Str} (h:sc.names.lookup x=some .cell):∃ c,(cellsFrom n sc.names []).lookup x=some c:=by
 have q:=PySem.W.cellsFrom_some sc.names n [] (.inl h)
 exact Option.isSome_iff_exists.mp q
theorem inv_start {CX:CXT} {P:Program} {w:World} {K:PySem.W.Frag} {mg:Str→Option Value} {base:Heap} {N ps:List Str} {qual:Str} {scope:Scope} {f:Addr} {cd:Value} {A:Around} {outer:List Env} {s s1:Shared} {H:Hp} {E:XK} {us:List Value} {vs:List V}
  (S:FnScope N ps scope) (hd:A.handled=none) (e0:Env0 P w K mg base A outer s H) (hl:vs.length=ps.length) (r:Vals vs us)
  (x:InCallC s s.heap.objs.size (bindL (envOfC qual scope s.heap.objs.size f cd).kindOf (ps.zip us) fun _=>none) (cellsFrom (s.heap.objs.size+1) scope.names []) (bindC (envOfC qual scope s.heap.objs.size f cd).kindOf (ps.zip us) fun _=>none) s1) :
  Inv (cxOf CX P w K mg base N qual scope f cd A outer s H E) [] (start N vs) H s1:=by
 have hpl:ps.length≤N.length:=by have:=congrArg List.length S.pre; rw [List.length_take] at this; lia
 obtain ⟨h1,tk,rfl,hk⟩:=x.done
 have noA:∀ b:Addr,b∉(cxOf CX P w K mg base N qual scope f cd A outer s H E).ex:=fun b z=>absurd (show b∈([]:List Addr) from z) (by simp)
 refine ⟨⟨e0.mod,S.kind,rfl,rfl,Nat.le_refl _,fun y z c h1 h2=>?_,fun y hy=>?_,fun y c _ h=>?_,fun _=>hd,Around.frames_deeper e0.frames,.inr ⟨rfl,rfl⟩,fun b z=>absurd z (noA b),e0.bs,e0.bsz,fun b _ _=>noA b,fun b z=>absurd z (noA b),e0.funs,e0.frf⟩,
  rfl,e0.bare,Un.kept hk,⟨_,x.toInCall.ns,fun i y v h1 h2 h3=>?_⟩,fun y c h=>⟨_,x.cell y c h⟩,e0.hok.fresh (Nat.le_refl _),fun y c h=>?_,fun p hp=>absurd (show p∈([]:List (Addr × Obj)) from hp) (by simp),e0.hok.kept hk,?_⟩
 ·exact name_of_addr x.apart (PySem.mem_of_lookup h1) (PySem.mem_of_lookup h2)
 ·have hy:scope.names.lookup y=some .cell∨scope.names.lookup y=some .free:=hy
  rcases hy with hy | hy
  ·exact cell_has hy
  ·exact absurd rfl (S.nofree _ (PySem.mem_of_lookup hy))
 ·exact Nat.le_of_lt (x.above y c (PySem.mem_of_lookup h))
 ·have hi:i < vs.length:=by
   unfold start at h2
   by_cases hi:i < vs.length
   ·exact hi
   ·rw [List.getElem?_append_right (by simpa using hi)] at h2
    rw [List.getElem?_replicate] at h2
    split at h2 <;> cases h2
  have ha:vs[i]?=some v:=by
   unfold start at h2
   rw [List.getElem?_append_left (by simpa using hi),List.getElem?_map] at h2
   cases e:vs[i]? with
   | none=>rw [e] at h2; cases h2
   | some a=>rw [e] at h2; cases h2; rfl
  obtain ⟨u,hu,rv⟩:=r.get ha
  have hp:ps[i]?=some y:=by
   rw [← S.pre,List.getElem?_take_of_lt (by lia)]; exact h1
  have ndP:ps.Nodup:=by rw [← S.pre]; exact S.nd.sublist (List.take_sublist _ _)
  refine ⟨u,rv,?_⟩
  rcases S.par y (List.mem_of_getElem? hp) with k | k
  ·exact .inl ⟨k,bindL_get ndP hp hu k⟩
  ·obtain ⟨c,e⟩:=cell_has (n:=s.heap.objs.size+1) k
   refine .inr ⟨.inl k,c,e,?_⟩
   have q:=x.cell y c e
   rw [bindC_get ndP hp hu (by show scope.names.lookup y≠_; rw [k]; decide)] at q
   exact q
 ·exact e0.hok.fresh (Nat.le_of_lt (x.above y c (PySem.mem_of_lookup h)))
 ·unfold start
  show _=N.length
  rw [List.length_append,List.length_map,List.length_replicate]
  lia
theorem fn_of {CX:CXT} {P:Program} {w:World} {K:PySem.W.Frag} {mg:Str→Option Value} {base:Heap} {k:Nat} {f:Addr} {name qual:Str} {params:Arguments} {body:List Stmt} {scope:Scope} {dV kV doc pm cdv ct oc:Value} {an od:Option Addr}
  {osl:Array (Option Value)} {N ps:List Str} {sp:Sp} (lk:K.lookup f=some ⟨oc,od,.func (PySem.W.fnOf name qual params body scope dV kV doc pm an cdv ct),osl⟩) (hcd:PySem.W.codeIn K cdv qual=true) (S:FnScope N ps scope)
  (len:∀ vs H Q E,sp vs H Q E→vs.length=ps.length)
  (hbody:∀ (A:Around) (outer:List Env) (s:Shared) (H:Hp) (vs:List V) (Q:VK) (E:XK),Room k (A.deeper (envOfC qual scope s.heap.objs.size f cdv))→sp vs H Q E →
   ∃ t,PSs (cxOf CX P w K mg base N qual scope f cdv A outer s H E) body t∧t { nx:=fun _ H'=>Q .non H',rt:=Q } (start N vs) H) :
  FnOk P w K mg base CX (k+1) f (PySem.W.fnOf name qual params body scope dV kV doc pm an cdv ct) ps sp:=by
 refine ⟨len,fun A outer s H args us vs Q E hr e0 hb r hsp=>?_⟩
 have hl:=len _ _ _ _ hsp
 have KX:K.In s.heap:=e0.mod.kin.keeps fun b o e=>(e0.bs b o e).1
 have lim:s.heap.NoLimit:=e0.mod.nolimit.keeps fun b o e=>(e0.bs b o e).1
 have hkind:∀ y∈ps.zip us,scope.names.lookup y.1=some .local∨(scope.names.lookup y.1=some .cell∧((cellsFrom (s.heap.objs.size+1) scope.names []).lookup y.1).isSome=true):=fun ⟨n,v⟩ hy=>by
  rcases S.par n (List.of_mem_zip hy).1 with q | q
  ·exact .inl q
  ·exact .inr ⟨q,PySem.W.cellsFrom_some _ _ _ (.inl q)⟩
 refine codeAny_call_function hr.depth (KX _ _ lk) rfl S.co S.gen rfl (PySem.W.codeRec_of KX hcd) (hb _ _ _ _ ?_)
 refine wpAny_newFunctionEnv_cells S.kind hkind fun env he s1 x=>?_
 subst he
 refine ⟨lim.keeps x.toInCall.keep,codeAny_func ?_⟩
 obtain ⟨t,ht,hq⟩:=hbody A outer s H vs Q E (hr.deeper _) hsp
 have I:Inv (cxOf CX P w K mg base N qual scope f cdv A outer s H E) [] (start N vs) H s1:=inv_start S hr.hd e0 hl r x
 refine wpAny_mono (ht [] s1 (start N vs) H _ I hq) (fun fl s' hs=>?_) fun e s' hs=>hs
 have fin:∀ {σ':St} {H':Hp} {v:V} {u:Value},Inv (cxOf CX P w K mg base N qual scope f cdv A outer s H E) [] σ' H' s'→RelV v u→Q v H'→CE outer P w H s Q u s' :=
  fun {σ' H' v u} J rv q=>⟨v,H',J.os,J.bare,J.base,J.hok,rv,q⟩
 cases fl with
 | ret u =>
  obtain ⟨v,σ',H',J,rv,q⟩:=hs
  exact fin J rv q
 | next =>
  obtain ⟨σ',H',J,q⟩:=hs
  exact fin (v:=V.non) (u:=Value.none) J rfl q
 | brk =>
  obtain ⟨_,_,_,q⟩:=hs
  exact False.elim q
 | cont =>
  obtain ⟨_,_,_,q⟩:=hs
  exact False.elim q
end L2
namespace L2
open PySem PySem.Spec PyProof.Rows
section
variable {X:Cx} {x:Str} {p pos:Pos} {e:Expr} {es:List Expr} {t:TA} {id T:String} {r:List V→Hp→VK→Prop}
noncomputable def tCB (r:List V→Hp→VK→Prop) (t:TA):TE:=fun σ H Q=>t σ H fun vs H1=>r vs H1 Q
theorem pe_callB (hc:CallR X (.builtin id) r) (hg:Gl X x) (hm:X.mg x=none) (hv:bootBuiltins x=some (.builtin id)) (ha:PA X (e :: es) t) (hn:x≠"__name__" := by decide) (hdb:(x == ("__debug__" : Str))=false:=by decide)
  (he:starEach (e :: es) X.env=(false,eval e X.env) :: starEach es X.env:=by rfl) (hpl:(backTo pos (starEach es X.env)).any (·.1)=false:=by rfl):PE X (.Call (.Name x p) (e :: es) [] pos) (tCB r t):=by
 intro pins s σ H Q I h
 refine wpAny_Call_Name_kw (ld_blt I hg hm hv ?_ hn hdb)
 exact PyProof.Rows.callWith_builtin1 (thn (ha pos pins s σ H _ I h) fun us s1 ⟨vs,H1,I1,r1,q1⟩=>hc pins s1 σ H1 vs us Q I1 r1 q1) he hpl
theorem pe_callTy (hc:CallR X (.type T) r) (hg:Gl X x) (hm:X.mg x=none) (hv:bootBuiltins x=some (.type T)) (ha:PA X (e :: es) t) (hn:x≠"__name__" := by decide) (hdb:(x == ("__debug__" : Str))=false:=by decide)
  (he:starEach (e :: es) X.env=(false,eval e X.env) :: starEach es X.env:=by rfl) (hpl:(backTo pos (starEach es X.env)).any (·.1)=false:=by rfl):PE X (.Call (.Name x p) (e :: es) [] pos) (tCB r t):=by
 intro pins s σ H Q I h
 refine wpAny_Call_Name_kw (ld_blt I hg hm hv ?_ hn hdb)
 exact PyProof.Rows.callWith_type1 (thn (ha pos pins s σ H _ I h) fun us s1 ⟨vs,H1,I1,r1,q1⟩=>hc pins s1 σ H1 vs us Q I1 r1 q1) he hpl
end
end L2
namespace HT
open PySem PyProof.Rows
section
open PySem.SeqAt
open PySem.AutoSeq1 (wpAny_loadPart')
open PySem.MeetsSeq PySem.MeetsSeq2 PySem.MeetsSeq3
end
section
variable {prog:Program} {w:World} {A:Around} {E:Value→Shared→Prop} {s:Shared}
theorem cat_tup {t b:Addr} {vs ws:List Value} {Q:Value→Shared→Prop} (ht:IsTup s.heap t vs.toArray) (hb:IsTup s.heap b ws.toArray) (hv:vs≠[])
  (h1:ws=[]→Q (.ref t) s) (h2:ws≠[]→Q (.ref s.heap.objs.size) { s with heap:=s.heap.push { cls:=.type "tuple",data:=.seq (vs++ws).toArray } })
  (hsz:vs.length+ws.length≤sizeLine):wpAny (model prog w) A (binaryOp .Add (.ref t) (.ref b)) Q E s:=by
 obtain ⟨⟨cls,dd,data,sl⟩,ho,hc,n,hd⟩:=id ht
 obtain ⟨⟨cls2,dd2,data2,sl2⟩,ho2,hc2,n2,hd2⟩:=id hb
 simp only at hc hd hc2 hd2
 subst hc hd hc2 hd2
 have e:vs.toArray++ws.toArray=(vs++ws).toArray:=by simp
 by_cases hw:ws=[]
 ·exact concat_meets ⟨_,ho,rfl⟩ ⟨_,ho2,rfl⟩ noFill_tuple_add seq_tuple_add PySem.F.slot_tuple_add PySem.F.entry_tuple_add (PySem.F.args_tuple_add_2 _ _)
   (tuple_addW1 t b vs.toArray ws.toArray n n2 dd dd2 sl sl2 (by simpa using hv) (by simp [hw])) ⟨ho,ho2,h1 hw⟩
 ·refine concat_meets ⟨_,ho,rfl⟩ ⟨_,ho2,rfl⟩ noFill_tuple_add seq_tuple_add PySem.F.slot_tuple_add PySem.F.entry_tuple_add (PySem.F.args_tuple_add_2 _ _)
   (tuple_addW2 t b vs.toArray ws.toArray n n2 dd dd2 sl sl2 (by simpa using hv) (by simpa using hw) (by rw [List.size_toArray,List.size_toArray]; exact hsz)) ⟨ho,ho2,?_⟩
  rw [e]
  exact h2 hw
noncomputable def sIx (n d:Nat):Option Int→Nat
 | none=>d
 | some v=>if v < 0 then (v+(n:Int)).toNat else min v.toNat n
theorem sIx_none (n d:Nat):sIx n d none=d:=rfl
theorem sIx_nat (n d k:Nat):sIx n d (some (k:Int))=min k n:=by
 show (if (k:Int) < 0 then ((k:Int)+(n:Int)).toNat else min (k:Int).toNat n)=min k n
 rw [if_neg (by lia),Int.toNat_natCast]
theorem sIx_le (n d:Nat) (hd:d≤n) (o:Option Int):sIx n d o≤n:=by
 cases o with
 | none=>exact hd
 | some v =>
  show (if v < 0 then (v+(n:Int)).toNat else min v.toNat n)≤n
  by_cases hv:v < 0
  ·rw [if_pos hv]; lia
  ·rw [if_neg hv]; exact Nat.min_le_right _ _
theorem clip_eq (v:Int) (n d:Nat):(if v < 0 then max (v+(n:Int)) 0 else min v (n:Int))=((sIx n d (some v):Nat):Int):=by
 show (if v < 0 then max (v+(n:Int)) 0 else min v (n:Int))=(((if v < 0 then (v+(n:Int)).toNat else min v.toNat n):Nat):Int)
 by_cases hv:v < 0
 ·simp only [if_pos hv]; lia
 ·simp only [if_neg hv]; lia
theorem adjust_gen (lo hi:Option Int) (n:Nat):Builtin.Slice.sliceAdjust lo hi 1 (n:Int)=(((sIx n 0 lo:Nat):Int),((sIx n n hi:Nat):Int)):=by
 have h1:¬ ((1:Int) < 0):=by lia
 unfold Builtin.Slice.sliceAdjust
 simp only [h1,if_false]
 refine Prod.ext ?_ ?_
 ·cases lo with
  | none=>rfl
  | some v=>exact clip_eq v n 0
 ·cases hi with
  | none=>rfl
  | some v=>exact clip_eq v n n
theorem places_gen (i j:Nat):Builtin.Slice.slicePlaces (i:Int) (j:Int) 1=j - i:=by
 unfold Builtin.Slice.slicePlaces
 have h1:(1:Int) > 0:=by lia
 simp only [h1,if_true,Int.ediv_one]
 split <;> lia
theorem slicePart_ {v:Value} {o:Option Int} {Q:Option Int→Shared→Prop} (p:IsPart v o) (h:Q o s):wpAny (model prog w) A (Builtin.Slice.slicePartIndex v) Q E s:=by
 cases p with
 | none=>exact slicePart_none h
 | int i t=>exact slicePart_int h
theorem sliceApplied_gen {sl:Addr} {vl vu:Value} {lo hi:Option Int} {n:Nat} {Q:Int × Int × Nat→Shared→Prop} (hs:s.heap.IsSliceOf sl vl vu .none) (pl:IsPart vl lo) (pu:IsPart vu hi)
  (h:Q (((sIx n 0 lo:Nat):Int),1,sIx n n hi - sIx n 0 lo) s):wpAny (model prog w) A (Builtin.Slice.sliceApplied (.ref sl) (pure (n:Int))) Q E s:=by
 obtain ⟨os,hos,hcs,hds⟩:=id hs
 unfold Builtin.Slice.sliceApplied Builtin.Slice.sliceFields
 refine wpAny_bind (wpAny_bind (wpAny_field hos hds (x:=vl) rfl (wpAny_bind (wpAny_field hos hds (x:=vu) rfl (wpAny_bind (wpAny_field hos hds (x:=.none) rfl (wpAny_pure ?_)))))))
 refine wpAny_bind (slicePart_none ?_)
 show wpAny _ _ (if ((1:Int) == 0)=true then _ else _) _ _ s
 rw [if_neg (by decide)]
 refine wpAny_bind (slicePart_ pl (wpAny_bind (slicePart_ pu (wpAny_bind (wpAny_pure ?_)))))
 show wpAny _ _ (match Builtin.Slice.sliceAdjust lo hi 1 (n:Int) with | (lo,hi)=>pure (lo,(1:Int),Builtin.Slice.slicePlaces lo hi 1)) _ _ s
 rw [adjust_gen lo hi n]
 show wpAny _ _ (pure (((sIx n 0 lo:Nat):Int),(1:Int),Builtin.Slice.slicePlaces ((sIx n 0 lo:Nat):Int) ((sIx n n hi:Nat):Int) 1)) _ _ s
 rw [places_gen]
 exact wpAny_pure h
theorem pick_gen (xs:Array Value) (i k:Nat):((List.range k).filterMap fun (m:Nat)=>xs[((i:Int)+(m:Int) * 1).toNat]?).toArray=((xs.toList.drop i).take k).toArray:=by
 have e:(fun (m:Nat)=>xs[((i:Int)+(m:Int) * 1).toNat]?)=fun m=>xs[i+m]?:=by
  funext m
  have:((i:Int)+(m:Int) * 1).toNat=i+m:=by lia
  rw [this]
 rw [e]
 have:=pick_run xs i k
 rw [List.filterMap_map] at this
 have e2:((fun x=>xs[x]?) ∘ fun x=>i+x)=fun m=>xs[i+m]?:=rfl
 rw [e2] at this
 rw [this]
theorem getItem_tuple_cut {t sl:Addr} {items:Array Value} {vl vu:Value} {lo hi:Option Int} {Q:Value→Shared→Prop} (ht:IsTup s.heap t items) (hs:s.heap.IsSliceOf sl vl vu .none) (pl:IsPart vl lo) (pu:IsPart vu hi)
  (hw:¬ (sIx items.size 0 lo=0∧sIx items.size items.size hi=items.size))
  (h:Q (.ref s.heap.objs.size) { s with heap:=s.heap.push { cls:=.type "tuple",data:=.seq ((items.toList.drop (sIx items.size 0 lo)).take (sIx items.size items.size hi - sIx items.size 0 lo)).toArray } })
  (hsz:items.size≤sizeLine):wpAny (model prog w) A (getItem (.ref t) (.ref sl)) Q E s:=by
 have htake:sizeOk (.seq ((items.toList.drop (sIx items.size 0 lo)).take (sIx items.size items.size hi - sIx items.size 0 lo)).toArray):=by
  show ((items.toList.drop (sIx items.size 0 lo)).take (sIx items.size items.size hi - sIx items.size 0 lo)).toArray.size≤sizeLine
  rw [List.size_toArray,List.length_take,List.length_drop,Array.length_toList]
  lia
 have hj:sIx items.size items.size hi≤items.size:=sIx_le _ _ (Nat.le_refl _) hi
 obtain ⟨os,hos,hcs,hds⟩:=id hs
 have hTs:s.TypeIs (.ref sl) "slice" := ⟨os,hos,hcs⟩
 unfold getItem
 try with_reducible refine wpAny_holding ?_
 first | refine wpAny_bind (wpAny_pure ?_) | skip
 refine wpAny_bind (wpAny_sequenceKey ht.typeIs (by decide) ?_)
 refine wpAny_bind (wpAny_callSpecial?_slot (name:=Str.ofString "__getitem__") ht.typeIs PyProof.Rows.slot_tuple_getitem
  (wpAny_call_entry PyProof.Rows.slot_tuple_getitem ht.typeIs entry_tuple_getitem ?_ (args_tuple_getitem _ _)))
 show wpAny _ _ (Builtin.Tuple.tupleItemsOf (.ref t) >>= _) _ _ s
 refine wpAny_bind (tupleItemsOf_ ht ?_)
 refine wpAny_bind (wpAny_typeOf hTs ?_)
 rw [if_pos (by decide)]
 refine wpAny_bind (sliceApplied_gen hs pl pu ?_)
 have hno:¬ ((((sIx items.size 0 lo:Nat):Int) == 0 && (1:Int) == 1 && (sIx items.size items.size hi - sIx items.size 0 lo) == items.size)=true):=by
  intro q
  rw [Bool.and_eq_true,Bool.and_eq_true] at q
  have q1:((sIx items.size 0 lo:Nat):Int)=0:=eq_of_beq q.1.1
  have q2:sIx items.size items.size hi - sIx items.size 0 lo=items.size:=eq_of_beq q.2
  exact hw ⟨by lia,by lia⟩
 show wpAny _ _ (if (((sIx items.size 0 lo:Nat):Int) == 0 && (1:Int) == 1 && (sIx items.size items.size hi - sIx items.size 0 lo) == items.size)=true then _ else _) _ _ s
 rw [if_neg hno,pick_gen]
 first
  | exact wpAny_bind (m:=Builtin.Tuple.tupleExact _) (wpAny_newObj_type (wpAny_pure ⟨_,rfl,wpAny_pure h⟩) htake)
  | exact wpAny_bind (m:=Builtin.Tuple.tupleExact _) (wpAny_newObj_type (wpAny_bind (wpAny_pure (wpAny_pure ⟨_,rfl,wpAny_pure h⟩))) htake)
  | exact wpAny_bind (wpAny_bind (m:=Builtin.Tuple.tupleExact _) (wpAny_newObj_type (wpAny_pure (wpAny_pure ⟨_,rfl,wpAny_pure h⟩)) htake))
  | exact wpAny_bind (wpAny_bind (m:=Builtin.Tuple.tupleExact _) (wpAny_newObj_type (wpAny_pure ⟨_,rfl,wpAny_pure h⟩) htake))
end
end HT
namespace L2
open PySem PySem.Spec PyProof.Rows
noncomputable abbrev TO:=St→Hp→(Option Int→Hp→Prop)→Prop
noncomputable def PO (X:Cx) (e:Option Expr) (t:TO):Prop :=
 ∀ (pins:List (Addr × Obj)) (s:Shared) (σ:St) (H:Hp) (Q:Option Int→Hp→Prop),Inv X pins σ H s→t σ H Q →
  wpAny (model X.prog X.w) X.A (evalPart e X.env) (fun u s'=>∃ o H',Inv X pins σ H' s'∧IsPart u o∧Q o H') X.xe s
noncomputable def tNoPart:TO:=fun _ H Q=>Q none H
noncomputable def tPart (t:TE):TO:=fun σ H Q=>t σ H fun x H1=>∃ i,x=.int i∧Q (some i) H1
section
variable {X:Cx} {e:Expr} {te:TE} {lo hi:Option Expr} {tl th:TO} {pos p2:Pos}
theorem po_none:PO X none tNoPart:=by
 intro pins s σ H Q I h
 rw [evalPart_none]
 exact wpAny_pure ⟨none,H,I,.none,h⟩
theorem po_some (h:PE X e te):PO X (some e) (tPart te):=by
 intro pins s σ H Q I hw
 rw [evalPart_some]
 refine thn (h pins s σ H _ I hw) fun u s1 ⟨x,H1,I1,r1,q1⟩=>?_
 obtain ⟨i,rfl,q⟩:=q1
 obtain ⟨t,rfl⟩:=r1
 exact ⟨some i,H1,I1,.int i t,q⟩
noncomputable def SlR (X:Cx) (r:V→Option Int→Option Int→Hp→VK→Prop):Prop :=
 ∀ (pins:List (Addr × Obj)) (s:Shared) (σ:St) (H:Hp) (x:V) (v vl vu:Value) (lo hi:Option Int) (sl:Addr) (Q:VK),Inv X pins σ H s→RelV x v→s.heap.IsSliceOf sl vl vu .none→IsPart vl lo→IsPart vu hi→r x lo hi H Q →
  ∃ T id,typeLookup (.type T) "__getitem__" = pure (some (.builtin id))∧s.TypeIs v T∧wpAny (model X.prog X.w) X.A (getItem v (.ref sl)) (EP X pins σ Q) X.xe s
theorem SlR.or {r r':V→Option Int→Option Int→Hp→VK→Prop} (h:SlR X r) (h':SlR X r'):SlR X (fun x lo hi H Q=>r x lo hi H Q∨r' x lo hi H Q):=by
 intro pins s σ H x v vl vu lo hi sl Q I rx hs pl pu q
 rcases q with q | q
 ·exact h pins s σ H x v vl vu lo hi sl Q I rx hs pl pu q
 ·exact h' pins s σ H x v vl vu lo hi sl Q I rx hs pl pu q
noncomputable def tSl (r:V→Option Int→Option Int→Hp→VK→Prop) (te:TE) (tl th:TO):TE:=fun σ H Q=>te σ H fun x H1=>tl σ H1 fun l H2=>th σ H2 fun u H3=>r x l u H3 Q
theorem pe_slice {r:V→Option Int→Option Int→Hp→VK→Prop} (hr:SlR X r) (he:PE X e te) (hl:PO X lo tl) (hu:PO X hi th):PE X (.Subscript e (.Slice lo hi none p2) pos) (tSl r te tl th):=by
 intro pins s σ H Q I h
 refine Subscript_ (thn (he pins s σ H _ I h) fun v s1 ⟨x,H1,I1,r1,q1⟩=>?_)
 refine wpAny_Slice (thn (hl pins s1 σ H1 _ I1 q1) fun vl s2 ⟨l,H2,I2,pl,q2⟩=>thn (hu pins s2 σ H2 _ I2 q2) fun vu s3 ⟨u,H3,I3,pu,q3⟩=>?_)
 rw [evalPart_none]
 refine wpAny_pure ?_
 have I4:Inv X pins σ H3 { s3 with heap:=s3.heap.push { cls:=.type "slice",data:=.fields #[vl,vu,.none] } }:=I3.kept (t':=s3.toks) fun b ob q=>Heap.get?_push_of_some _ q
 obtain ⟨T,id,hT,ht,hg⟩:=hr pins { s3 with heap:=s3.heap.push { cls:=.type "slice",data:=.fields #[vl,vu,.none] } } σ H3 x v vl vu l u s3.heap.objs.size Q I4 r1 (Heap.IsSliceOf.new ..) pl pu q3
 show wpAny (model X.prog X.w) X.A (subscriptTail e (.Slice lo hi none p2) v (.ref s3.heap.objs.size)) (EP X pins σ Q) X.xe { s3 with heap:=s3.heap.push { cls:=.type "slice",data:=.fields #[vl,vu,.none] } }
 exact tail_any (ops:=[.ref s3.heap.objs.size,v]) ht hT hg (by with_unfolding_all rfl)
noncomputable def cutV (xs:List V) (lo hi:Option Int):List V:=(xs.drop (HT.sIx xs.length 0 lo)).take (HT.sIx xs.length xs.length hi - HT.sIx xs.length 0 lo)
theorem cutV_length (xs:List V) (lo hi:Option Int):(cutV xs lo hi).length≤xs.length:=by
 unfold cutV
 rw [List.length_take,List.length_drop]
 lia
noncomputable def rSlT (K:PySem.W.Frag):V→Option Int→Option Int→Hp→VK→Prop:=fun x lo hi H Q=>∃ a xs,x=.ref a∧SqT K H a xs ∧
 ¬ (HT.sIx xs.length 0 lo=0∧HT.sIx xs.length xs.length hi=xs.length)∧∀ p,H p=none→Q (.ref p) (upd H p (.tup (cutV xs lo hi)))
theorem sl_tup:SlR X (rSlT X.K):=by
 intro pins s σ H x v vl vu lo hi sl Q I rx hs pl pu h
 obtain ⟨a,xs,rfl,hx,hw,q⟩:=h
 cases rx
 obtain ⟨its,r,ht,hz⟩:=I.tuple hx
 have hlen:its.toArray.size=xs.length:=by rw [List.size_toArray]; exact r.length.symm
 refine ⟨"tuple",_,PyProof.Rows.slot_tuple_getitem.lookup,ht.typeIs,?_⟩
 refine HT.getItem_tuple_cut ht hs pl pu (by rw [hlen]; exact hw) ?_ (by rw [hlen]; exact hz)
 rw [hlen]
 refine ⟨.ref s.heap.objs.size,_,I.laid (t':=s.toks) (o:=.tup (cutV xs lo hi)) (fun b ob q=>Heap.get?_push_of_some _ q) (Nat.le_refl _) ?_,rfl,q _ (I.hok.fresh (Nat.le_refl _))⟩
 exact ⟨Nat.le_trans (cutV_length xs lo hi) hz,_,(r.drop (HT.sIx xs.length 0 lo)).take (HT.sIx xs.length xs.length hi - HT.sIx xs.length 0 lo),IsTup.new _ _⟩
noncomputable def rCatT (K:PySem.W.Frag):R2:=fun x y H Q=>∃ a b xs ys,x=.ref a∧y=.ref b∧SqT K H a xs∧SqT K H b ys∧xs≠[]∧xs.length+ys.length≤sizeLine ∧
 (ys=[]→Q (.ref a) H)∧(ys≠[]→∀ p,H p=none→Q (.ref p) (upd H p (.tup (xs++ys))))
theorem Vals.nil_iff {xs:List V} {us:List Value} (r:Vals xs us):us=[]↔xs=[]:=by
 cases r with
 | nil=>simp
 | cons _ _=>simp
theorem op_catT:OpR X (binaryOp .Add) (rCatT X.K):=by
 intro pins s σ H x y v u Q I rx ry h
 obtain ⟨a,b,xs,ys,rfl,rfl,ha,hb,hx,hz,q1,q2⟩:=h
 cases rx
 cases ry
 obtain ⟨its,r1,p1,_⟩:=I.tuple ha
 obtain ⟨its2,r2,p2,_⟩:=I.tuple hb
 refine HT.cat_tup p1 p2 (fun z=>hx (r1.nil_iff.mp z)) (fun z=>⟨.ref a,H,I,rfl,q1 (r2.nil_iff.mp z)⟩) (fun z=>?_) (by rw [← r1.length,← r2.length]; exact hz)
 refine ⟨.ref s.heap.objs.size,_,I.laid (t':=s.toks) (o:=.tup (xs++ys)) (fun b ob q=>Heap.get?_push_of_some _ q) (Nat.le_refl _) ?_,rfl,q2 (fun w=>z (r2.nil_iff.mpr w)) _ (I.hok.fresh (Nat.le_refl _))⟩
 exact ⟨by rw [List.length_append]; exact hz,_,r1.append r2,IsTup.new _ _⟩
end
end L2
namespace L2
open PySem PySem.Spec PyProof.Rows
noncomputable def ixN (n:Nat) (i:Int):Option Nat:=if 0≤i then (if i < n then some i.toNat else none) else if -(n:Int)≤i then some (i+n).toNat else none
noncomputable def atI {α:Type} (xs:List α) (i:Int):Option α:=(ixN xs.length i).bind fun j=>xs[j]?
theorem ixN_seq {n:Nat} {i:Int} {j:Nat} (h:ixN n i=some j):seqIndex? i n=some j∧j < n∧-(n:Int)≤i∧i < n:=by
 unfold ixN at h
 by_cases h0:0≤i
 ·rw [if_pos h0] at h
  by_cases h1:i < n
  ·rw [if_pos h1] at h
   have e:i.toNat=j:=Option.some.inj h
   exact ⟨by rw [seqIndex_of h0 h1,e],by lia,by lia,h1⟩
  ·rw [if_neg h1] at h; cases h
 ·rw [if_neg h0] at h
  by_cases h1:-(n:Int)≤i
  ·rw [if_pos h1] at h
   have e:(i+n).toNat=j:=Option.some.inj h
   exact ⟨by rw [seqIndex_neg (by lia) h1,e],by lia,h1,by lia⟩
  ·rw [if_neg h1] at h; cases h
theorem atI_get {α:Type} {xs:List α} {i:Int} {v:α} (h:atI xs i=some v):∃ j,seqIndex? i xs.length=some j∧xs[j]?=some v∧j < xs.length∧-(xs.length:Int)≤i∧i < xs.length:=by
 unfold atI at h
 cases e:ixN xs.length i with
 | none=>rw [e] at h; cases h
 | some j =>
  rw [e] at h
  obtain ⟨h1,h2,h3,h4⟩:=ixN_seq e
  exact ⟨j,h1,h,h2,h3,h4⟩
theorem atI_nat {α:Type} {xs:List α} {j:Nat} {v:α} (h:xs[j]?=some v):atI xs (j:Int)=some v:=by
 have hj:j < xs.length:=(List.getElem?_eq_some_iff.mp h).1
 have e:ixN xs.length (j:Int)=some j:=by
  unfold ixN
  rw [if_pos (by lia),if_pos (by lia)]; simp
 unfold atI; rw [e]; exact h
noncomputable def PlainIx (b:Expr):Prop:=∀ o i,subscripted b false o i=operate [o,i] (getItem o i)
noncomputable def IxR (X:Cx) (r:R2):Prop :=
 ∀ (value slice:Expr) (pins:List (Addr × Obj)) (s:Shared) (σ:St) (H:Hp) (x y:V) (v u:Value) (Q:VK),Inv X pins σ H s→RelV x v→RelV y u→r x y H Q →
  subscripted slice false v u=operate [v,u] (getItem v u)→wpAny (model X.prog X.w) X.A (subscriptTail value slice v u) (EP X pins σ Q) X.xe s
noncomputable def MtR (X:Cx) (id:String) (r:V→List V→Hp→VK→Prop):Prop :=
 ∀ (pins:List (Addr × Obj)) (s:Shared) (σ:St) (H:Hp) (x:V) (xs:List V) (v:Value) (us:List Value) (Q:VK),Inv X pins σ H s→RelV x v→Vals xs us→r x xs H Q →
  wpAny (model X.prog X.w) X.A (call (.builtin id) (v :: us)) (EP X pins σ Q) X.xe s
section
variable {X:Cx} {a b:Expr} {ta tb:TE} {pos:Pos}
theorem IxR.or {r r':R2} (h:IxR X r) (h':IxR X r'):IxR X (fun x y H Q=>r x y H Q∨r' x y H Q):=by
 intro value slice pins s σ H x y v u Q I rx ry q hs
 rcases q with q | q
 ·exact h value slice pins s σ H x y v u Q I rx ry q hs
 ·exact h' value slice pins s σ H x y v u Q I rx ry q hs
theorem MtR.or {id:String} {r r':V→List V→Hp→VK→Prop} (h:MtR X id r) (h':MtR X id r'):MtR X id (fun x xs H Q=>r x xs H Q∨r' x xs H Q):=by
 intro pins s σ H x xs v us Q I rx rs q
 rcases q with q | q
 ·exact h pins s σ H x xs v us Q I rx rs q
 ·exact h' pins s σ H x xs v us Q I rx rs q
theorem pe_ix {r:R2} (hr:IxR X r) (ha:PE X a ta) (hb:PE X b tb) (hs:PlainIx b):PE X (.Subscript a b pos) (tOp r ta tb):=by
 intro pins s σ H Q I h
 exact Subscript_ (binT ha hb I h fun v u s2 x y H2 I2 rx ry q=>hr a b pins s2 σ H2 x y v u Q I2 rx ry q (hs _ _))
noncomputable def rIxL (K:PySem.W.Frag):R2:=fun x y H Q=>∃ p xs i v,x=.ref p∧y=.int i∧SqL K H p xs∧atI xs i=some v∧Q v H
noncomputable def rIxT (K:PySem.W.Frag):R2:=fun x y H Q=>∃ p xs i v,x=.ref p∧y=.int i∧SqT K H p xs∧atI xs i=some v∧Q v H
noncomputable def rIxS:R2:=fun x y H Q=>∃ z i c,x=.str z∧y=.int i∧z.length≤sizeLine∧atI z.cps.toList i=some c∧Q (.str ⟨#[c]⟩) H
theorem ix_list:IxR X (rIxL X.K):=by
 intro value slice pins s σ H x y v u Q I rx ry h hs
 obtain ⟨p,xs,i,z,rfl,rfl,hq,he,q⟩:=h
 cases rx
 obtain ⟨t,rfl⟩:=ry
 obtain ⟨its,r,pl,hz⟩:=I.list hq
 obtain ⟨j,h1,h2,h3,h4,h5⟩:=atI_get he
 obtain ⟨w,ew,rw'⟩:=r.get h2
 have hl:=r.length
 have hn:=line63
 have fin:EP X pins σ Q w s:=⟨z,H,I,rw',q⟩
 by_cases h0:0≤i
 ·have hj:i.toNat=j:=by
   rw [seqIndex_of h0 h5] at h1
   exact Option.some.inj h1
  exact item_listR pl.isList h0 (by lia) (by rw [hj]; simpa using ew) fin hs
 ·have hj:(i+(its.toArray.size:Int)).toNat=j:=by
   rw [seqIndex_neg (by lia) h4] at h1
   rw [List.size_toArray,← hl]
   exact Option.some.inj h1
  exact subscriptTail_builtinR (x:=w) pl.isList.typeIs slot_list_getitem.lookup
   (wpAny_getItem_list_neg (Q:=fun r s'=>r=w∧EP X pins σ Q r s') pl.isList (by lia) (by rw [List.size_toArray] <;> lia) (by lia) (by rw [hj]; simpa using ew) ⟨rfl,fin⟩) hs
theorem ix_tup:IxR X (rIxT X.K):=by
 intro value slice pins s σ H x y v u Q I rx ry h hs
 obtain ⟨p,xs,i,z,rfl,rfl,hq,he,q⟩:=h
 cases rx
 obtain ⟨t,rfl⟩:=ry
 obtain ⟨its,r,pl,hz⟩:=I.tuple hq
 obtain ⟨j,h1,h2,h3,h4,h5⟩:=atI_get he
 obtain ⟨w,ew,rw'⟩:=r.get h2
 have hl:=r.length
 have hn:=line63
 have fin:EP X pins σ Q w s:=⟨z,H,I,rw',q⟩
 exact subscriptTail_builtinR (x:=w) pl.typeIs slot_tuple_getitem.lookup
  (getItem_tuple (j:=j) (Q:=fun r s'=>r=w∧EP X pins σ Q r s') pl (by lia) (by lia) (by rw [List.size_toArray,← hl]; exact h1) (by simpa using ew) ⟨rfl,fin⟩) hs
theorem ix_str:IxR X rIxS:=by
 intro value slice pins s σ H x y v u Q I rx ry h hs
 obtain ⟨z,i,c,rfl,rfl,hz,he,q⟩:=h
 obtain ⟨t,rfl⟩:=rx
 obtain ⟨t',rfl⟩:=ry
 obtain ⟨j,h1,h2,h3,h4,h5⟩:=atI_get he
 have hl:z.cps.toList.length=z.length:=by simp [Str.length]
 rw [hl] at h1 h4 h5
 have hn:=line63
 exact tail_any (typeIs_str s z t) slot_str_getitem.lookup (getItem_str (c:=c) (by
  have e1:decide (i < -(2 ^ 63:Int))=false:=decide_eq_false (by lia)
  have e2:decide (i ≥ 2 ^ 63)=false:=decide_eq_false (by lia)
  rw [e1,e2,Bool.or_false]) (by rw [h1]; simpa using h2) ⟨.str ⟨#[c]⟩,H,I.tok _,⟨_,rfl⟩,q⟩) hs
theorem slice_bounds (lo hi:Option Int) (n:Nat):(sliceBounds lo hi none n).1=((HT.sIx n 0 lo:Nat):Int)∧(sliceBounds lo hi none n).2.1=((HT.sIx n n hi:Nat):Int)∧(sliceBounds lo hi none n).2.2=1:=by
 refine ⟨?_,?_,rfl⟩
 ·cases lo with
  | none=>simp [sliceBounds,HT.sIx]
  | some i =>
   simp only [sliceBounds,HT.sIx,Option.getD_none,show (1:Int) > 0 by decide,if_true]
   by_cases h:i < 0
   ·simp only [h,if_true] <;> lia
   ·simp only [h,if_false] <;> lia
 ·cases hi with
  | none=>simp [sliceBounds,HT.sIx]
  | some i =>
   simp only [sliceBounds,HT.sIx,Option.getD_none,show (1:Int) > 0 by decide,if_true]
   by_cases h:i < 0
   ·simp only [h,if_true] <;> lia
   ·simp only [h,if_false] <;> lia
theorem slicePick_cut (its:List Value) (lo hi:Option Int):slicePick its.toArray lo hi none=((its.drop (HT.sIx its.length 0 lo)).take (HT.sIx its.length its.length hi - HT.sIx its.length 0 lo)).toArray:=by
 obtain ⟨h1,h2,h3⟩:=slice_bounds lo hi its.toArray.size
 unfold slicePick
 rw [h1,h2,h3]
 simp only [sliceRange_one,pick_run,List.size_toArray] <;> rfl
noncomputable def rSlL (K:PySem.W.Frag):V→Option Int→Option Int→Hp→VK→Prop:=fun x lo hi H Q=>∃ a xs,x=.ref a∧SqL K H a xs∧∀ p,H p=none→Q (.ref p) (upd H p (.lst (cutV xs lo hi)))
theorem sl_list:SlR X (rSlL X.K):=by
 intro pins s σ H x v vl vu lo hi sl Q I rx hs pl pu h
 obtain ⟨a,xs,rfl,hx,q⟩:=h
 cases rx
 obtain ⟨its,r,ht,hz⟩:=I.list hx
 have hlen:=r.length
 refine ⟨"list",_,slot_list_getitem.lookup,ht.isList.typeIs,?_⟩
 refine wpAny_getItem_list_slice ht.isList hs pl pu .none (by simp) ?_ (by rw [List.size_toArray] <;> lia)
 rw [slicePick_cut,← hlen]
 refine ⟨.ref s.heap.objs.size,_,I.laid (t':=s.toks) (o:=.lst (cutV xs lo hi)) (fun b ob q=>Heap.get?_push_of_some _ q) (Nat.le_refl _) ?_,rfl,q _ (I.hok.fresh (Nat.le_refl _))⟩
 exact ⟨Nat.le_trans (cutV_length xs lo hi) hz,_,0,(r.drop (HT.sIx xs.length 0 lo)).take (HT.sIx xs.length xs.length hi - HT.sIx xs.length 0 lo),Heap.get?_push_size _ rfl⟩
noncomputable def flatV:V→Bool
 | .non=>true
 | .bl _=>true
 | .int _=>true
 | .str _=>true
 | _=>false
noncomputable def eqV:V→V→Bool
 | .non,.non=>true
 | .bl a,.bl b=>a == b
 | .bl a,.int b=>(if a then 1 else 0) == b
 | .int a,.bl b=>a == (if b then 1 else 0)
 | .int a,.int b=>a == b
 | .str a,.str b=>a == b
 | _,_=>false
theorem eqAt_V {A:Around} {s:Shared} {y x:V} {u v:Value} (ry:RelV y u) (rx:RelV x v) (fy:flatV y=true) (fx:flatV x=true):SeqAt.EqAt A s u v (eqV y x):=by
 cases y with
 | non =>
  cases ry
  cases x with
  | non=>cases rx; exact SeqAt.EqAt.same _
  | bl b=>cases rx; exact SeqAt.EqAt.none_bool b
  | int b=>obtain ⟨t,rfl⟩:=rx; exact SeqAt.EqAt.none_int b t
  | str b=>obtain ⟨t,rfl⟩:=rx; exact SeqAt.EqAt.none_str b t
  | _=>exact absurd (show false=true from fx) Bool.false_ne_true
 | bl a =>
  cases ry
  cases x with
  | non=>cases rx; exact SeqAt.EqAt.bool_none a
  | bl b=>cases rx; exact SeqAt.EqAt.bool_bool a b
  | int b=>obtain ⟨t,rfl⟩:=rx; exact SeqAt.EqAt.bool_int a b t
  | str b=>obtain ⟨t,rfl⟩:=rx; exact SeqAt.EqAt.bool_str a b t
  | _=>exact absurd (show false=true from fx) Bool.false_ne_true
 | int a =>
  obtain ⟨t',rfl⟩:=ry
  cases x with
  | non=>cases rx; exact SeqAt.EqAt.int_none a t'
  | bl b=>cases rx; exact SeqAt.EqAt.int_bool a t' b
  | int b=>obtain ⟨t,rfl⟩:=rx; exact SeqAt.EqAt.int_int a t' b t
  | str b=>obtain ⟨t,rfl⟩:=rx; exact SeqAt.EqAt.int_str a t' b t
  | _=>exact absurd (show false=true from fx) Bool.false_ne_true
 | str a =>
  obtain ⟨t',rfl⟩:=ry
  cases x with
  | non=>cases rx; exact SeqAt.EqAt.str_none a t'
  | bl b=>cases rx; exact SeqAt.EqAt.str_bool a t' b
  | int b=>obtain ⟨t,rfl⟩:=rx; exact SeqAt.EqAt.str_int a t' b t
  | str b=>obtain ⟨t,rfl⟩:=rx; exact SeqAt.EqAt.str_str a t' b t
  | _=>exact absurd (show false=true from fx) Bool.false_ne_true
 | _=>exact absurd (show false=true from fy) Bool.false_ne_true
noncomputable def eqU (x:V) (u:Value):Bool:=match u with
 | .none=>eqV .non x
 | .bool b=>eqV (.bl b) x
 | .int i _=>eqV (.int i) x
 | .str z _=>eqV (.str z) x
 | _=>false
theorem eqU_of {x y:V} {u:Value} (r:RelV y u) (f:flatV y=true):eqU x u=eqV y x:=by
 cases y with
 | non=>cases r; rfl
 | bl b=>cases r; rfl
 | int i=>obtain ⟨t,rfl⟩:=r; rfl
 | str z=>obtain ⟨t,rfl⟩:=r; rfl
 | _=>exact absurd (show false=true from f) Bool.false_ne_true
theorem any_eqU {x:V}:∀ {xs:List V} {us:List Value},Vals xs us→xs.all flatV=true→us.any (eqU x)=xs.any fun y=>eqV y x
 | _,_,.nil,_=>rfl
 | y :: xs,u :: us,.cons r t,f=>by
  rw [List.all_cons,Bool.and_eq_true] at f
  rw [List.any_cons,List.any_cons,eqU_of r f.1,any_eqU t f.2]
theorem mem_eqAt {A:Around} {s:Shared} {x:V} {v:Value} (rx:RelV x v) (fx:flatV x=true):∀ {xs:List V} {us:List Value},Vals xs us→xs.all flatV=true→∀ u∈us,SeqAt.EqAt A s u v (eqU x u)
 | _,_,.nil,_=>fun u hu=>by cases hu
 | y :: xs,u :: us,.cons r t,f=>fun u' hu=>by
  rw [List.all_cons,Bool.and_eq_true] at f
  rcases List.mem_cons.mp hu with rfl | hu
  ·rw [eqU_of r f.1]; exact eqAt_V r rx f.1 fx
  ·exact mem_eqAt rx fx t f.2 u' hu
noncomputable def inV (x:V) (xs:List V):Bool:=xs.any fun y=>eqV y x
noncomputable def rIn (K:PySem.W.Frag) (neg:Bool):R2:=fun x y H Q=>∃ p xs,y=.ref p∧(SqL K H p xs∨SqT K H p xs)∧flatV x=true∧xs.all flatV=true∧Q (.bl (if neg then !inV x xs else inV x xs)) H
theorem op_in_seq:OpR X (compareOp .In) (rIn X.K false):=by
 intro pins s σ H x y v u Q I rx ry h
 obtain ⟨p,xs,rfl,hq,fx,fs,q⟩:=h
 cases ry
 rcases hq with hq | hq
 ·obtain ⟨its,r,pl,hz⟩:=I.list hq
  refine SeqAt.in_listAt (eqU x) pl.isList (fun w hw=>mem_eqAt rx fx r fs w (by simpa using hw)) ⟨.bl _,H,I,rfl,?_⟩
  rw [show its.toArray.any (eqU x)=its.any (eqU x) by simp,any_eqU r fs]
  exact q
 ·obtain ⟨its,r,pl,hz⟩:=I.tuple hq
  refine SeqAt.in_tupleAt (eqU x) pl (fun w hw=>mem_eqAt rx fx r fs w (by simpa using hw)) ⟨.bl _,H,I,rfl,?_⟩
  rw [show its.toArray.any (eqU x)=its.any (eqU x) by simp,any_eqU r fs]
  exact q
theorem call_len_seq:CallR X (.builtin "len") (fun xs H Q=>∃ p ys,xs=[.ref p]∧(SqL X.K H p ys∨SqT X.K H p ys)∧Q (.int ys.length) H):=by
 intro pins s σ H xs us Q I r h
 obtain ⟨p,ys,rfl,hq,q⟩:=h
 obtain ⟨u,rfl,rx⟩:=vals1 r
 cases rx
 have hn:=line63
 rcases hq with hq | hq
 ·obtain ⟨its,r',pl,hz⟩:=I.list hq
  have hlen:=r'.length
  exact Calls.call_len_list pl.isList (by simp only [List.size_toArray] <;> lia) ⟨.int ys.length,H,I.tok _,⟨s.toks+1,by rw [List.size_toArray,hlen]⟩,q⟩
 ·obtain ⟨its,r',pl,hz⟩:=I.tuple hq
  have hlen:=r'.length
  exact len_tuple pl (by simp only [List.size_toArray] <;> lia) ⟨.int ys.length,H,I.tok _,⟨s.toks+1,by rw [List.size_toArray,hlen]⟩,q⟩
theorem call_len_str:CallR X (.builtin "len") (fun xs H Q=>∃ z,xs=[.str z]∧z.length≤sizeLine∧Q (.int z.length) H):=by
 intro pins s σ H xs us Q I r h
 obtain ⟨z,rfl,hz,q⟩:=h
 obtain ⟨u,rfl,t,rfl⟩:=vals1 r
 have hn:=line63
 exact len_str (by lia) ⟨.int z.length,H,I.tok _,⟨_,rfl⟩,q⟩
theorem CallR.or {f:Value} {r r':List V→Hp→VK→Prop} (h:CallR X f r) (h':CallR X f r'):CallR X f (fun xs H Q=>r xs H Q∨r' xs H Q):=by
 intro pins s σ H xs us Q I rs q
 rcases q with q | q
 ·exact h pins s σ H xs us Q I rs q
 ·exact h' pins s σ H xs us Q I rs q
theorem call_list_of:CallR X (.type "list") (fun xs H Q=>∃ p ys,xs=[.ref p]∧(SqL X.K H p ys∨SqT X.K H p ys)∧∀ l,H l=none→Q (.ref l) (upd H l (.lst ys))):=by
 intro pins s σ H xs us Q I r h
 obtain ⟨p,ys,rfl,hq,q⟩:=h
 obtain ⟨u,rfl,rx⟩:=vals1 r
 cases rx
 have fin:∀ (its:List Value),Vals ys its→ys.length≤sizeLine→∀ (h':Heap) (c':Nat),(∀ b o',s.heap.get? b=some o'→h'.get? b=some o') →
   h'.get? s.heap.objs.size=some { cls:=.type "list",dict:=none,data:=.seq its.toArray c',slots:=#[] }→EP X pins σ Q (.ref s.heap.objs.size) { s with heap:=h' }:=fun its r' hz h' c' kp e =>
  ⟨.ref s.heap.objs.size,_,I.laid (t':=s.toks) kp (Nat.le_refl _) (show ObjOk X.prog X.w _ h' _ (.lst ys) from ⟨hz,its,c',r',e⟩),rfl,q _ (I.hok.fresh (Nat.le_refl _))⟩
 rcases hq with hq | hq
 ·obtain ⟨its,r',pl,hz⟩:=I.list hq
  have hlen:=r'.length
  obtain ⟨o,ho,hc,n,hd⟩:=pl.isList
  exact call_list_seq p (.inl rfl) ho hc hd (fun h' c' kp e=>fin its r' hz h' c' kp e) (by simp only [List.size_toArray] <;> lia)
 ·obtain ⟨its,r',pl,hz⟩:=I.tuple hq
  have hlen:=r'.length
  obtain ⟨o,ho,hc,n,hd⟩:=pl
  exact call_list_seq p (.inr rfl) ho hc hd (fun h' c' kp e=>fin its r' hz h' c' kp e) (by simp only [List.size_toArray] <;> lia)
noncomputable def tyV (K:PySem.W.Frag) (T:String) (x:V) (H:Hp):Prop:=match x with
 | .str _=>T="str"
 | .int _=>T="int"
 | .ref p=>(T="list" ∧ ∃ xs,SqL K H p xs)∨(T="tuple" ∧ ∃ o,K.lookup p=some o∧o.cls=.type "tuple" ∧ o.dict=none) ∨
   (T="dict" ∧ ((∃ kvs,H p=some (.dK kvs))∨∃ kvs,H p=some (.dT kvs)))∨(T="set" ∧ ∃ S n,H p=some (.set S n))
 | _=>False
theorem tyV_is {pins:List (Addr × Obj)} {σ:St} {H:Hp} {s:Shared} {T:String} {x:V} {v:Value} (I:Inv X pins σ H s) (r:RelV x v) (ty:tyV X.K T x H) :
  s.TypeIs v T∧∀ a,v=.ref a→∃ ob,s.heap.get? a=some ob∧ob.dict=none:=by
 cases x with
 | str z =>
  obtain ⟨t,rfl⟩:=r
  cases (show T="str" from ty)
  exact ⟨typeIs_str s z t,fun _ e=>nomatch e⟩
 | int i =>
  obtain ⟨t,rfl⟩:=r
  cases (show T="int" from ty)
  exact ⟨typeIs_int s i t,fun _ e=>nomatch e⟩
 | ref p =>
  cases r
  rcases ty with ⟨rfl,xs,hq⟩ | ⟨rfl,o,hk,hc,hd⟩ | ⟨rfl,hk⟩ | ⟨rfl,S,n,hk⟩
  ·obtain ⟨its,_,pl,_⟩:=I.list hq
   refine ⟨pl.isList.typeIs,fun a e=>?_⟩
   cases e
   obtain ⟨o,n,e,c,hd,_⟩:=pl
   exact ⟨o,e,hd⟩
  ·refine ⟨⟨o,I.kIn p o hk,hc⟩,fun a e=>?_⟩
   cases e
   exact ⟨o,I.kIn _ o hk,hd⟩
  ·have z:∃ o,s.heap.get? p=some o∧o.ExactDict:=by
    rcases hk with ⟨kvs,hk⟩ | ⟨kvs,hk⟩
    ·obtain ⟨_,_,_,_,o,_,_,e,ex,_⟩:=I.hok p _ hk
     exact ⟨o,e,ex⟩
    ·obtain ⟨_,_,_,_,o,_,_,e,ex,_⟩:=I.hok p _ hk
     exact ⟨o,e,ex⟩
   obtain ⟨o,e,ex⟩:=z
   refine ⟨⟨o,e,ex.1⟩,fun a e2=>?_⟩
   cases e2
   exact ⟨o,e,ex.2.1⟩
  ·obtain ⟨o,_,_,_,e,ex,_⟩:=I.hok p _ hk
   refine ⟨⟨o,e,ex.1⟩,fun a e2=>?_⟩
   cases e2
   exact ⟨o,e,ex.2.1⟩
 | _=>exact False.elim ty
noncomputable def tBM (K:PySem.W.Frag) (T:String) (r:V→List V→Hp→VK→Prop) (to:TE) (t:TA):TE:=fun σ H Q=>to σ H fun x H1=>tyV K T x H1∧t σ H1 fun xs H2=>r x xs H2 Q
variable {o e:Expr} {es:List Expr} {to:TE} {t:TA} {name:Str} {apos cpos:Pos} {T id:String} {r:V→List V→Hp→VK→Prop}
theorem pe_bm (pa:PlainAttrs T) (slot:Slot T name id) (hty:typeOf (.builtin id)=pure (.type "method_descriptor")) (hm:MtR X id r) (ho:PE X o to) (ha:PA X (e :: es) t)
  (hbase:attributeBase o name X.env (eval o X.env)=eval o X.env:=by rfl)
  (hfew:((backTo cpos (starEach (e :: es) X.env)).all (fun x=>!x.1) && (backToKw cpos (keywordEach [] X.env)).all (fun x=>x.1.isSome)
   && decide ((e :: es).length+([]:List Keyword).length+(if ([]:List Keyword).isEmpty then 0 else 1) < 30))=true:=by rfl)
  (hline:(apos.endLine == cpos.line)=true:=by rfl) (hs:starEach (e :: es) X.env=(false,eval e X.env) :: starEach es X.env:=by rfl) (hplain:(backTo cpos (starEach es X.env)).any (·.1)=false:=by rfl) :
  PE X (.Call (.Attribute o name apos) (e :: es) [] cpos) (tBM X.K T r to t):=by
 intro pins s σ H Q I h
 refine wpAny_Call_method_late hbase hfew hline rfl (thn (ho pins s σ H _ I h) fun v s1 ⟨x,H1,I1,r1,ty,q1⟩=>?_)
 obtain ⟨h1,h2⟩:=tyV_is I1 r1 ty
 refine ⟨T,id,pa,slot,hty,h1,h2,?_⟩
 have hA:=ha cpos pins s1 σ H1 _ I1 q1
 rw [hs] at hA ⊢
 refine Calls.callWith_builtin (by show (false || (backTo cpos (starEach es X.env)).any (·.1))=false; rw [hplain] <;> rfl) (Calls.evalArgs_plain ?_)
 exact thn hA fun us s2 ⟨vs,H2,I2,r2,q2⟩=>hm pins s2 σ H2 x vs v us Q I2 r1 r2 q2
end
end L2
namespace L2
open PySem PySem.Spec PyProof.Rows
noncomputable def MtM (X:Cx) (id:String) (r:V→List V→Hp→VK→Prop):Prop :=
 ∀ (pins:List (Addr × Obj)) (s:Shared) (σ:St) (H:Hp) (x:V) (xs:List V) (v:Value) (us:List Value) (Q:VK),Inv X pins σ H s→RelV x v→Vals xs us→r x xs H Q →
  wpAny (model X.prog X.w) X.A (call (.builtin id) (v :: us)) (EP X pins σ Q) X.xe s
theorem Vals.one:∀ {x:V} {us:List Value},Vals [x] us→∃ u,us=[u]∧RelV x u
 | _,_,.cons r .nil=>⟨_,rfl,r⟩
section
variable {X:Cx} {pins:List (Addr × Obj)} {σ:St} {H:Hp} {s:Shared} {l b:Addr} {xs ys zs:List V}
theorem Inv.lset {its its':List Value} {n:Nat} {f:Array Value→Array Value} {t':Nat} (I:Inv X pins σ H s) (hH:H l=some (.lst xs))
  (e:s.heap.get? l=some { cls:=.type "list",data:=.seq its.toArray n }) (hf:f its.toArray=its'.toArray) (hv:Vals ys its') (hz:ys.length≤sizeLine) :
  Inv X pins σ (upd H l (.lst ys)) { s with heap:=s.heap.update l (Obj.mapSeq f),toks:=t' }:=by
 have q:=PySem.IsL.update e f
 rw [hf] at q
 refine I.write (x:=l) (e:=l) (by rw [hH]; exact trivial) (.inl rfl) (fun b' u hb hu=>(Heap.get?_update_other s.heap (Obj.mapSeq f) (Ne.symm hb)).trans hu) ⟨_,q⟩ ?_
 exact ⟨hz,its',_,hv,q⟩
theorem Inv.lnew {its:List Value} {t':Nat} (I:Inv X pins σ H s) (hv:Vals ys its) (hz:ys.length≤sizeLine) :
  Inv X pins σ (upd H s.heap.objs.size (.lst ys)) { s with heap:=s.heap.push { cls:=.type "list",data:=.seq its.toArray },toks:=t' } :=
 I.laid (fun _ _ q=>Heap.get?_push_of_some _ q) (Nat.le_refl _) ⟨hz,its,0,hv,Heap.get?_push_size _ rfl⟩
theorem Inv.fresh (I:Inv X pins σ H s):H s.heap.objs.size=none:=I.hok.fresh (Nat.le_refl _)
theorem Inv.lstM (I:Inv X pins σ H s) (hH:H l=some (.lst xs)):xs.length≤sizeLine∧∃ (its:List Value) (n:Nat),Vals xs its∧xs.length=its.length∧s.heap.get? l=some { cls:=.type "list",data:=.seq its.toArray n }:=by
 obtain ⟨z,its,n,r,e⟩:=I.hok l _ hH
 exact ⟨z,its,n,r,r.length,e⟩
end
section
variable {X:Cx}
noncomputable def rAppend:V→List V→Hp→VK→Prop:=fun x vs H Q=>∃ l xs y,x=.ref l∧vs=[y]∧H l=some (.lst xs)∧xs.length < sizeLine∧Q .non (upd H l (.lst (xs++[y])))
theorem mt_append:MtM X "list.append" rAppend:=by
 intro pins s σ H x vs v us Q I rx rv h
 obtain ⟨l,xs,y,rfl,rfl,hH,hz,q⟩:=h
 cases rx
 obtain ⟨u,rfl,ru⟩:=rv.one
 obtain ⟨z,its,n,r,hl,e⟩:=I.lstM hH
 refine call_meets F.slot_list_append ⟨_,e,rfl⟩ F.entry_list_append (F.args_list_append_2 _ _) (PySem.list_append l its.toArray n u (by rw [List.size_toArray]; lia)) ⟨e,?_⟩
 refine ⟨.non,_,I.lset (its':=its++[u]) hH e (by simp) (r.append (.cons ru .nil)) ?_,rfl,q⟩
 rw [List.length_append,List.length_singleton]
 lia
noncomputable def rCat:R2:=fun x y H Q=>∃ l b xs zs,x=.ref l∧y=.ref b∧H l=some (.lst xs)∧H b=some (.lst zs)∧xs.length+zs.length≤sizeLine∧∀ p,H p=none→Q (.ref p) (upd H p (.lst (xs++zs)))
theorem op_cat:OpR X (binaryOp .Add) rCat:=by
 intro pins s σ H x y v u Q I rx ry h
 obtain ⟨l,b,xs,zs,rfl,rfl,hH,hB,hz,q⟩:=h
 cases rx
 cases ry
 obtain ⟨z,its,n,r,hl,e⟩:=I.lstM hH
 obtain ⟨z2,its2,n2,r2,hl2,e2⟩:=I.lstM hB
 refine PySem.P.add_list e e2 ?_ (by rw [List.size_toArray,List.size_toArray]; lia)
 have ea:its.toArray++its2.toArray=(its++its2).toArray:=by simp
 rw [ea]
 exact ⟨.ref _,_,I.lnew (t':=s.toks) (r.append r2) (by rw [List.length_append]; lia),rfl,q _ I.fresh⟩
end
section
variable {prog:Program} {w:World} {A:Around} {E:Value→Shared→Prop} {s:Shared}
end
section
variable {X:Cx}
end
end L2
namespace L2
open PySem PySem.Spec PyProof.Rows
section
variable {κ:Type} [DecidableEq κ]
noncomputable def valV (kvs:List (κ × V)) (k:κ):Option V:=(kvs.find? fun kv=>decide (kv.1=k)).map (·.2)
noncomputable def putK (kvs:List (κ × V)) (k:κ) (v:V):List (κ × V) :=
 if (kvs.any fun kv=>decide (kv.1=k))=true then kvs.map (fun kv=>if kv.1=k then (kv.1,v) else kv) else kvs++[(k,v)]
theorem valV_pos {p:κ × V} {r:List (κ × V)} {k:κ} (e:p.1=k):valV (p :: r) k=some p.2:=by simp [valV,List.find?_cons,e]
theorem valV_neg {p:κ × V} {r:List (κ × V)} {k:κ} (e:¬ p.1=k):valV (p :: r) k=valV r k:=by simp [valV,List.find?_cons,e]
theorem valV_any (k:κ):∀ kvs:List (κ × V),(kvs.any fun kv=>decide (kv.1=k))=(valV kvs k).isSome
 | []=>rfl
 | p :: r=>by
  rw [List.any_cons]
  by_cases e:p.1=k
  ·simp only [valV_pos e,decide_eq_true e,Bool.true_or,Option.isSome_some]
  ·rw [valV_neg e,decide_eq_false e,Bool.false_or]; exact valV_any k r
theorem length_putK (kvs:List (κ × V)) (k:κ) (v:V):(putK kvs k v).length≤kvs.length+1:=by
 unfold putK
 split
 ·rw [List.length_map]; lia
 ·rw [List.length_append,List.length_cons,List.length_nil]; lia
theorem RelO.isSome_eq {o:Option V} {u:Option Value} (r:RelO o u):o.isSome=u.isSome:=by
 cases o with
 | none=>cases u with
  | none=>rfl
  | some _=>exact (show False from r).elim
 | some _=>cases u with
  | none=>exact (show False from r).elim
  | some _=>rfl
theorem RelO.getD {o:Option V} {u:Option Value} {d:V} {d':Value} (r:RelO o u) (rd:RelV d d'):RelV (o.getD d) (u.getD d'):=by
 cases o with
 | none=>cases u with
  | none=>exact rd
  | some _=>exact (show False from r).elim
 | some _=>cases u with
  | none=>exact (show False from r).elim
  | some _=>exact r
theorem KV.val {kvs:List (κ × V)} {vs:List (κ × Value)} (r:KV kvs vs) (k:κ):RelO (valV kvs k) (valueAt vs k):=by
 unfold KV at r
 induction r with
 | nil=>exact True.intro
 | @cons p q ps qs h t ih =>
  obtain ⟨h1,h2⟩:=h
  by_cases e:p.1=k
  ·have e':q.1=k:=h1.symm.trans e
   have b:valueAt (q :: qs) k=some q.2:=by simp [valueAt,List.find?_cons,e']
   rw [valV_pos e,b]; exact h2
  ·have e':¬ q.1=k:=fun z=>e (h1.trans z)
   have b:valueAt (q :: qs) k=valueAt qs k:=by simp [valueAt,List.find?_cons,e']
   rw [valV_neg e,b]; exact ih
theorem KV.any {kvs:List (κ × V)} {vs:List (κ × Value)} (r:KV kvs vs) (k:κ):(kvs.any fun kv=>decide (kv.1=k))=vs.any fun kv=>decide (kv.1=k):=by
 unfold KV at r
 induction r with
 | nil=>rfl
 | cons h t ih=>rw [List.any_cons,List.any_cons,ih,h.1]
theorem KV.repl {kvs:List (κ × V)} {vs:List (κ × Value)} (r:KV kvs vs) (k:κ) {y:V} {u:Value} (ry:RelV y u) :
  KV (kvs.map fun kv=>if kv.1=k then (kv.1,y) else kv) (vs.map fun kv=>if kv.1=k then (kv.1,u) else kv):=by
 unfold KV at r ⊢
 induction r with
 | nil=>exact .nil
 | @cons p q ps qs h t ih =>
  rw [List.map_cons,List.map_cons]
  refine .cons ?_ ih
  obtain ⟨h1,h2⟩:=h
  by_cases e:p.1=k
  ·rw [if_pos e,if_pos (h1.symm.trans e)]; exact ⟨h1,ry⟩
  ·rw [if_neg e,if_neg (fun z=>e (h1.trans z))]; exact ⟨h1,h2⟩
theorem KV.put {kvs:List (κ × V)} {vs:List (κ × Value)} (r:KV kvs vs) (k:κ) {y:V} {u:Value} (ry:RelV y u):KV (putK kvs k y) (stored vs k u):=by
 unfold putK stored
 rw [r.any k]
 by_cases e:(vs.any fun kv=>decide (kv.1=k))=true
 ·rw [if_pos e,if_pos e]; exact r.repl k ry
 ·rw [if_neg e,if_neg e]; exact Paired.snoc r ⟨rfl,ry⟩
theorem KV.length {kvs:List (κ × V)} {vs:List (κ × Value)} (r:KV kvs vs):kvs.length=vs.length:=Paired.length r
end
theorem kV_is {P:Program} {w:World} {k:Key} {u:Value} (r:RelV (kV k) u):(mixKind P w).is k u=true:=by
 cases k with
 | inl i=>obtain ⟨t,e⟩:=(show ∃ t,u=Value.int i t from r); subst e; exact mixKind_int P w i t
 | inr x=>obtain ⟨t,e⟩:=(show ∃ t,u=Value.str x t from r); subst e; exact mixKind_str P w x t
theorem items_are {P:Program} {w:World}:∀ {ks:List Key} {us:List Value},Vals (ks.map kV) us→ItemsAre (mixKind P w) ks us
 | [],_,r=>by rw [List.map_nil] at r; cases r; exact .nil
 | k :: ks,_,r=>by
  rw [List.map_cons] at r
  cases r with
  | cons h t=>exact .cons (kV_is h) (items_are t)
noncomputable abbrev KT (H:Hp):List (List Key × V)→List (List Key × Addr × Value)→Prop:=Paired fun p q=>p.1=q.1∧H q.2.1=some (.tup (p.1.map kV))∧RelV p.2 q.2.2
theorem KT.val {H:Hp} {kvs:List (List Key × V)} {xs:List (List Key × Addr × Value)} (r:KT H kvs xs) (k:List Key):RelO (valV kvs k) ((atKey xs k).map (·.2)):=by
 induction r with
 | nil=>exact True.intro
 | @cons p q ps qs h t ih =>
  obtain ⟨h1,_,h2⟩:=h
  by_cases e:p.1=k
  ·have e':q.1=k:=h1.symm.trans e
   have b:atKey (q :: qs) k=some q.2:=by simp [atKey,List.find?_cons,e']
   rw [valV_pos e,b]; exact h2
  ·have e':¬ q.1=k:=fun z=>e (h1.trans z)
   have b:atKey (q :: qs) k=atKey qs k:=by simp [atKey,List.find?_cons,e']
   rw [valV_neg e,b]; exact ih
theorem KT.repl {H:Hp} {kvs:List (List Key × V)} {xs:List (List Key × Addr × Value)} (r:KT H kvs xs) (k:List Key) {y:V} {u:Value} (ry:RelV y u) :
  KT H (kvs.map fun kv=>if kv.1=k then (kv.1,y) else kv) (xs.map (putAt k u)):=by
 induction r with
 | nil=>exact .nil
 | @cons p q ps qs h t ih =>
  rw [List.map_cons,List.map_cons]
  refine .cons ?_ ih
  obtain ⟨h1,h2,h3⟩:=h
  unfold putAt
  by_cases e:p.1=k
  ·rw [if_pos e,if_pos (h1.symm.trans e)]; exact ⟨h1,h2,ry⟩
  ·rw [if_neg e,if_neg (fun z=>e (h1.trans z))]; exact ⟨h1,h2,h3⟩
theorem KT.put {H:Hp} {kvs:List (List Key × V)} {xs:List (List Key × Addr × Value)} (r:KT H kvs xs) (k:List Key) {b:Addr} {y:V} {u:Value} (hb:H b=some (.tup (k.map kV))) (ry:RelV y u) :
  KT H (putK kvs k y) (storedH xs k b u):=by
 have e:(kvs.any fun kv=>decide (kv.1=k))=(atKey xs k).isSome:=by
  rw [valV_any,(r.val k).isSome_eq,Option.isSome_map]
 unfold putK storedH
 rw [e]
 by_cases q:(atKey xs k).isSome=true
 ·rw [if_pos q,if_pos q]; exact r.repl k ry
 ·rw [if_neg q,if_neg q]; exact Paired.snoc r ⟨rfl,hb,ry⟩
theorem KT.keeps {H H':Hp} {kvs:List (List Key × V)} {xs:List (List Key × Addr × Value)} (r:KT H kvs xs) (ht:∀ b ys,H b=some (.tup ys)→H' b=some (.tup ys)):KT H' kvs xs :=
 Paired.mapP r fun _ _ z=>⟨z.1,ht _ _ z.2.1,z.2.2⟩
section
variable {P:Program} {w:World} {H:Hp} {h:Heap} {a:Addr}
theorem rd_of {u:HO} (ok:HOk P w H h) (e:Rd H a u):ObjOk P w H h a u:=e.ok ok
theorem dk_rd {kvs:List (Key × V)} (ok:HOk P w H h) (e:Rd H a (.dK kvs)):kvs.length≤sizeLine∧(a == sysModules)=false∧∃ vs,KV kvs vs∧h.DictOf (mixKind P w) a vs :=
 show ObjOk P w H h a (.dK kvs) from rd_of ok e
theorem dk_of {kvs:List (Key × V)} (ok:HOk P w H h) (e:H a=some (.dK kvs)):kvs.length≤sizeLine∧(a == sysModules)=false∧∃ vs,KV kvs vs∧h.DictOf (mixKind P w) a vs:=dk_rd ok (.inl e)
theorem key_of {ks:List Key} (ok:HOk P w H h) (e:H a=some (.tup (ks.map kV))):(tupleKind (mixKind P w)).is h ks a:=by
 obtain ⟨_,its,r,o,h1,h2,n,h3⟩:=(show ObjOk P w H h a (.tup (ks.map kV)) from ok a _ e)
 exact ⟨o,its.toArray,n,h1,h2,h3,by simpa using items_are r⟩
theorem dt_rd {kvs:List (List Key × V)} (ok:HOk P w H h) (e:Rd H a (.dT kvs)):kvs.length≤sizeLine∧(a == sysModules)=false ∧
  ∃ xs,KT H kvs xs∧h.DictOfH (tupleKind (mixKind P w)) a xs:=by
 obtain ⟨z,y,xs,r,o,es,ep,h1,h2,h3,h4,h5⟩:=(show ObjOk P w H h a (.dT kvs) from rd_of ok e)
 refine ⟨z,y,xs,r,o,es,ep,h1,h2,h3,h4,fun x hx=>?_,h5⟩
 have all:∀ {l:List (List Key × V)} {m:List (List Key × Addr × Value)},KT H l m→∀ x∈m,(tupleKind (mixKind P w)).is h x.1 x.2.1:=by
  intro l m q
  induction q with
  | nil=>intro x hx; exact nomatch hx
  | @cons p q ps qs hq t ih =>
   intro x hx
   rcases List.mem_cons.mp hx with e | hx
   ·subst e
    exact key_of ok (by rw [← hq.1]; exact hq.2.1)
   ·exact ih x hx
 exact all r x hx
theorem dt_of {kvs:List (List Key × V)} (ok:HOk P w H h) (e:H a=some (.dT kvs)):kvs.length≤sizeLine∧(a == sysModules)=false ∧
  ∃ xs,KT H kvs xs∧h.DictOfH (tupleKind (mixKind P w)) a xs:=dt_rd ok (.inl e)
end
noncomputable def DGet (H:Hp) (a:Addr) (y:V) (r:Option V):Prop :=
 (∃ kvs k,Rd H a (.dK kvs)∧y=kV k∧r=valV kvs k)∨∃ kvs k b,Rd H a (.dT kvs)∧y=.ref b∧H b=some (.tup (k.map kV))∧r=valV kvs k
noncomputable def DPut (H:Hp) (a:Addr) (y v:V) (H':Hp):Prop :=
 (∃ kvs k,H a=some (.dK kvs)∧y=kV k∧kvs.length < sizeLine∧H'=upd H a (.dK (putK kvs k v))) ∨
 ∃ kvs k b,H a=some (.dT kvs)∧y=.ref b∧H b=some (.tup (k.map kV))∧kvs.length < sizeLine∧H'=upd H a (.dT (putK kvs k v))
theorem DGet.k {H:Hp} {a:Addr} {kvs:List (Key × V)} {k:Key} (e:H a=some (.dK kvs)):DGet H a (kV k) (valV kvs k):=.inl ⟨kvs,k,.inl e,rfl,rfl⟩
theorem DPut.t {H:Hp} {a b:Addr} {kvs:List (List Key × V)} {k:List Key} {v:V} (e:H a=some (.dT kvs)) (eb:H b=some (.tup (k.map kV))) (hl:kvs.length < sizeLine) :
  DPut H a (.ref b) v (upd H a (.dT (putK kvs k v))):=.inr ⟨kvs,k,b,e,rfl,eb,hl,rfl⟩
section
variable {X:Cx} {pins:List (Addr × Obj)} {σ:St} {H:Hp} {s:Shared} {a:Addr} {y v:V} {u r:Value} {o:Option V} {A:Around} {E:Value→Shared→Prop}
theorem Inv.big (I:Inv X pins σ H s):sysModules < s.heap.objs.size:=by
 have h:mainGlobals < s.heap.objs.size:=(I.mod.glob.keeps I.bk).lt
 exact Nat.lt_trans (by decide) h
theorem d_getItem {Q:Value→Shared→Prop} (hu:A.units+1 < cLine) (I:Inv X pins σ H s) (g:DGet H a y (some v)) (ry:RelV y u) (h:∀ w' s',Inv X pins σ H s'→RelV v w'→Q w' s') :
  wpAny (model X.prog X.w) A (getItem (.ref a) u) Q E s:=by
 rcases g with ⟨kvs,k,e,ey,l⟩ | ⟨kvs,k,b,e,ey,eb,l⟩
 ·subst ey
  obtain ⟨z,hd,vs,rel,dd⟩:=dk_rd I.hok e
  obtain ⟨w',hw,rw'⟩:=RelO.some_of (v:=v) (o:=valueAt vs k) (by rw [l]; exact rel.val k)
  exact wpAny_getItem_of (kV_is ry) dd.mapOf hw (h w' _ (I.tok _) rw')
 ·subst ey
  cases (show u=Value.ref b from ry)
  obtain ⟨z,hd,xs,rel,dd⟩:=dt_rd I.hok e
  obtain ⟨w',hw,rw'⟩:=RelO.some_of (v:=v) (o:=(atKey xs k).map (·.2)) (by rw [l]; exact rel.val k)
  obtain ⟨p,hp,hp2⟩:=Option.map_eq_some_iff.mp hw
  refine wpAny_getItem_heap (tupleKind_room_in1 hu) (key_of I.hok eb) dd hp ?_
  rw [hp2]
  exact h w' _ (I.tok _) rw'
theorem d_in {Q:Value→Shared→Prop} (hu:A.units+1 < cLine) (I:Inv X pins σ H s) (g:DGet H a y o) (ry:RelV y u) (h:∀ s',Inv X pins σ H s'→Q (.bool o.isSome) s') :
  wpAny (model X.prog X.w) A (compareOp .In u (.ref a)) Q E s:=by
 rcases g with ⟨kvs,k,e,ey,l⟩ | ⟨kvs,k,b,e,ey,eb,l⟩
 ·subst ey
  obtain ⟨z,hd,vs,rel,dd⟩:=dk_rd I.hok e
  refine wpAny_in_of (kV_is ry) hd dd.mapOf ?_
  rw [← (rel.val k).isSome_eq,← l]
  exact h _ (I.tok _)
 ·subst ey
  cases (show u=Value.ref b from ry)
  obtain ⟨z,hd,xs,rel,dd⟩:=dt_rd I.hok e
  refine wpAny_in_heap (tupleKind_room_in1 hu) (key_of I.hok eb) hd dd ?_
  have q:=(rel.val k).isSome_eq
  rw [Option.isSome_map] at q
  rw [← q,← l]
  exact h _ (I.tok _)
theorem d_notIn {Q:Value→Shared→Prop} (hu:A.units+1 < cLine) (I:Inv X pins σ H s) (g:DGet H a y o) (ry:RelV y u) (h:∀ s',Inv X pins σ H s'→Q (.bool (!o.isSome)) s') :
  wpAny (model X.prog X.w) A (compareOp .NotIn u (.ref a)) Q E s:=by
 rcases g with ⟨kvs,k,e,ey,l⟩ | ⟨kvs,k,b,e,ey,eb,l⟩
 ·subst ey
  obtain ⟨z,hd,vs,rel,dd⟩:=dk_rd I.hok e
  refine wpAny_notIn_of (kV_is ry) hd dd.mapOf ?_
  rw [← (rel.val k).isSome_eq,← l]
  exact h _ (I.tok _)
 ·subst ey
  cases (show u=Value.ref b from ry)
  obtain ⟨z,hd,xs,rel,dd⟩:=dt_rd I.hok e
  refine wpAny_notIn_heap (tupleKind_room_in1 hu) (key_of I.hok eb) hd dd ?_
  have q:=(rel.val k).isSome_eq
  rw [Option.isSome_map] at q
  rw [← q,← l]
  exact h _ (I.tok _)
theorem d_write {h':Heap} {t':Nat} {ob:HO} (I:Inv X pins σ H s) (mu:Mut (H a)) (hs:Heap.SameBut a s.heap h') (he:∃ q,h'.get? a=some q) (new:ObjOk X.prog X.w (upd H a ob) h' a ob) :
  Inv X pins σ (upd H a ob) { s with heap:=h',toks:=t' } :=
 I.write (x:=a) (e:=a) mu (.inl rfl) (fun b q hb z=>(hs.2 b hb).trans z) he new
theorem dk_new {P:Program} {w:World} {H':Hp} {h':Heap} {kvs:List (Key × V)} {vs:List (Key × Value)} (z:kvs.length≤sizeLine) (hd:(a == sysModules)=false) (rel:KV kvs vs) (dd:h'.DictOf (mixKind P w) a vs) :
  ObjOk P w H' h' a (.dK kvs):=⟨z,hd,vs,rel,dd⟩
theorem d_setItem {H':Hp} {Q:Unit→Shared→Prop} (hu:A.units+1 < cLine) (I:Inv X pins σ H s) (g:DPut H a y v H') (ry:RelV y u) (rv:RelV v r) (h:∀ s',Inv X pins σ H' s'→Q () s') :
  wpAny (model X.prog X.w) A (setItem (.ref a) u r) Q E s:=by
 rcases g with ⟨kvs,k,e,ey,l,eH⟩ | ⟨kvs,k,b,e,ey,eb,l,eH⟩
 ·subst ey eH
  obtain ⟨z,hd,vs,rel,dd⟩:=dk_of I.hok e
  have hz:vs.length≤sizeLine:=by rw [← rel.length]; exact z
  have hl:(putK kvs k v).length≤sizeLine:=by have:=length_putK kvs k v; lia
  refine wpAny_setItem_pairs (hsz:=hz) (kV_is ry) dd fun h' dd' hs=>h _ ?_
  have he:∃ q,h'.get? a=some q:=let ⟨q,_,_,hq,_⟩:=dd'; ⟨q,hq⟩
  exact d_write I (by rw [e]; exact True.intro) hs he (dk_new hl hd (rel.put k rv) dd')
 ·subst ey eH
  cases (show u=Value.ref b from ry)
  obtain ⟨z,hd,xs,rel,dd⟩:=dt_of I.hok e
  have hz:xs.length≤sizeLine:=by rw [← Paired.length rel]; exact z
  have hl:(putK kvs k v).length≤sizeLine:=by have:=length_putK kvs k v; lia
  refine wpAny_setItem_heap (hsz:=hz) (tupleKind_room_in1 hu) (key_of I.hok eb) dd fun h' dd' hs=>h _ ?_
  obtain ⟨q,es,ep,hq,h2,h3,h4,_,h5⟩:=dd'
  refine d_write I (by rw [e]; exact True.intro) hs ⟨q,hq⟩ ⟨hl,hd,_,(rel.put k eb rv).keeps fun c ys ec=>?_,q,es,ep,hq,h2,h3,h4,h5⟩
  rw [upd_ne (ne_of ec e (fun z=>nomatch z))]
  exact ec
end
section
variable {X:Cx} {pins:List (Addr × Obj)} {σ:St} {H:Hp} {s:Shared} {a:Addr} {kvs:List (Key × V)} {k:Key} {u:Value} {A:Around} {E:Value→Shared→Prop}
end
noncomputable def NoSl (i:Expr):Prop:=∀ ov iv,subscripted i false ov iv=operate [ov,iv] (getItem ov iv)
theorem subD_of {prog:Program} {w:World} {A:Around} {E:Value→Shared→Prop} {s:Shared} {env:Env} {value slice:Expr} {pos:Pos} {T id:String} {Q:Value→Shared→Prop}
  (hl:typeLookup (.type T) "__getitem__" = pure (some (.builtin id))) (hs:NoSl slice)
  (h:wpAny (model prog w) A (eval value env) (fun o s₁=>wpAny (model prog w) A (eval slice env) (fun i s₂=>s₂.TypeIs o T∧wpAny (model prog w) A (getItem o i) Q E s₂) E s₁) E s) :
  wpAny (model prog w) A (eval (.Subscript value slice pos) env) Q E s:=by
 refine Subscript_ (wpAny_mono h (fun o s₁ h₁=>wpAny_mono h₁ (fun i s₂ h₂=>?_) fun _ _ x=>x) fun _ _ x=>x)
 obtain ⟨hT,h₂⟩:=h₂
 unfold subscriptTail
 refine wpAny_bind ?_
 rw [getitemInPython_of_ne hT.not_modules]
 refine wpAny_bind (wpAny_specialOf hT hl ?_)
 have fin:wpAny (model prog w) A (subscripted slice false o i) (fun r s₃=>wpAny (model prog w) A (letTemporaryGo value o r >>= fun _=>pure r) Q E s₃) E s₂:=by
  rw [hs o i]
  exact wpAny_operating (wpAny_mono h₂ (fun r s₃ h₃=>wpAny_bind (wpAny_letTemporaryGo (wpAny_pure h₃))) fun _ _ x=>x)
 first
  | exact wpAny_pure (wpAny_bind fin)
  | exact wpAny_bind (wpAny_pure (wpAny_bind fin))
  | exact wpAny_bind fin
theorem dict_typeIs {X:Cx} {pins:List (Addr × Obj)} {σ:St} {H:Hp} {s:Shared} {a:Addr} {y:V} {o:Option V} (I:Inv X pins σ H s) (g:DGet H a y o):s.TypeIs (.ref a) "dict" := by
 rcases g with ⟨kvs,k,e,_,_⟩ | ⟨kvs,k,b,e,_,_,_⟩
 ·obtain ⟨_,_,vs,_,dd⟩:=dk_rd I.hok e
  exact dd.typeIs
 ·obtain ⟨_,_,xs,_,dd⟩:=dt_rd I.hok e
  exact dd.typeIs
noncomputable def tDGet (td ty:TE):TE:=fun σ H Q=>td σ H fun x H1=>ty σ H1 fun y H2=>∃ a v,x=.ref a∧DGet H2 a y (some v)∧Q v H2
noncomputable def tDIn (ty td:TE):TE:=fun σ H Q=>ty σ H fun y H1=>td σ H1 fun x H2=>∃ a o,x=.ref a∧DGet H2 a y o∧Q (.bl o.isSome) H2
noncomputable def tDNotIn (ty td:TE):TE:=fun σ H Q=>ty σ H fun y H1=>td σ H1 fun x H2=>∃ a o,x=.ref a∧DGet H2 a y o∧Q (.bl (!o.isSome)) H2
noncomputable def sDPut (td ty tv:TE):TS:=fun D σ H=>tv σ H fun v H1=>td σ H1 fun x H2=>ty σ H2 fun y H3=>∃ a H4,x=.ref a∧DPut H3 a y v H4∧D.nx σ H4
section
variable {X:Cx} {o i e value:Expr} {pos pos' tpos:Pos} {td ty tv:TE}
theorem pe_dget (hu:X.A.units+1 < cLine) (ho:PE X o td) (hi:PE X i ty) (hs:NoSl i):PE X (.Subscript o i pos) (tDGet td ty):=by
 intro pins s σ H Q I h
 refine subD_of PySem.F.slot_dict_getitem.lookup hs (thn (ho pins s σ H _ I h) fun u s1 ⟨x,H1,I1,rx,q1⟩=>thn (hi pins s1 σ H1 _ I1 q1) fun iv s2 ⟨y,H2,I2,ry,a,v,ex,g,q2⟩=>?_)
 subst ex
 obtain rfl:u=Value.ref a:=rx
 exact ⟨dict_typeIs I2 g,d_getItem hu I2 g ry fun w' s3 I3 rw'=>⟨v,H2,I3,rw',q2⟩⟩
theorem pc_din (hu:X.A.units+1 < cLine) (hi:PE X i ty) (ho:PE X o td):PC X .In i o (tDIn ty td):=by
 intro pins s σ H Q I h
 refine thn (hi pins s σ H _ I h) fun iv s1 ⟨y,H1,I1,ry,q1⟩=>thn (ho pins s1 σ H1 _ I1 q1) fun u s2 ⟨x,H2,I2,rx,a,ov,ex,g,q2⟩=>?_
 subst ex
 obtain rfl:u=Value.ref a:=rx
 exact d_in hu I2 g ry fun s3 I3=>⟨.bl ov.isSome,H2,I3,rfl,q2⟩
theorem pc_dnotin (hu:X.A.units+1 < cLine) (hi:PE X i ty) (ho:PE X o td):PC X .NotIn i o (tDNotIn ty td):=by
 intro pins s σ H Q I h
 refine thn (hi pins s σ H _ I h) fun iv s1 ⟨y,H1,I1,ry,q1⟩=>thn (ho pins s1 σ H1 _ I1 q1) fun u s2 ⟨x,H2,I2,rx,a,ov,ex,g,q2⟩=>?_
 subst ex
 obtain rfl:u=Value.ref a:=rx
 exact d_notIn hu I2 g ry fun s3 I3=>⟨.bl (!ov.isSome),H2,I3,rfl,q2⟩
theorem ps_dput (hu:X.A.units+1 < cLine) (ho:PE X o td) (hi:PE X i ty) (hv:PE X value tv) (hs:swapsWith value (some (.Subscript o i pos')) pos.line X.env=pure false) :
  PS X (.Assign [.Subscript o i pos'] value pos) (sDPut td ty tv):=by
 intro pins s σ H D I h
 refine wpAny_Assign_Subscript (thn (hv pins s σ H _ I h) fun r s1 ⟨v,H1,I1,rv,q1⟩=>thn (ho pins s1 σ H1 _ I1 q1) fun u s2 ⟨x,H2,I2,rx,q2⟩=>thn (hi pins s2 σ H2 _ I2 q2) fun iv s3 ⟨y,H3,I3,ry,a,H4,ex,g,q3⟩=>?_) hs
 subst ex
 obtain rfl:u=Value.ref a:=rx
 exact d_setItem hu I3 g ry rv fun s4 I4=>⟨σ,H4,I4,q3⟩
end
theorem dt_empty {P:Program} {w:World} {H:Hp} (h:Heap) (hb:sysModules < h.objs.size):ObjOk P w H (h.push { cls:=.type "dict",data:=.dict #[] }) h.objs.size (.dT []) :=
 ⟨Nat.zero_le _,beq_eq_false_iff_ne.mpr (Ne.symm (Nat.ne_of_lt hb)),[],.nil,_,#[],0,Heap.get?_push_size _ rfl,⟨rfl,rfl,rfl⟩,rfl,rfl,List.nodup_nil⟩
noncomputable def tDNewT:TE:=fun _ H Q=>∀ p,H p=none→Q (.ref p) (upd H p (.dT []))
section
variable {X:Cx} {pos:Pos}
theorem pe_dnewT:PE X (.Dict [] [] pos) tDNewT:=fun pins s σ H Q I h =>
 wpAny_Dict_empty ⟨.ref s.heap.objs.size,_,I.laid (a:=s.heap.objs.size) (o:=.dT []) (t':=s.toks) (fun _ _ q=>Heap.get?_push_of_some _ q) (Nat.le_refl _) (dt_empty s.heap I.big),rfl,h _ (I.hok.fresh (Nat.le_refl _))⟩
end
structure M1 (X:Cx) (o:Expr) (m:Str) (apos:Pos) (e:Expr) (cpos:Pos):Prop where
 base:attributeBase o m X.env (eval o X.env)=eval o X.env
 few:((backTo cpos (starEach [e] X.env)).all (fun x=>!x.1) && (backToKw cpos (keywordEach [] X.env)).all (fun x=>x.1.isSome)
  && decide (([e]:List Expr).length+([]:List Keyword).length+(if ([]:List Keyword).isEmpty then 0 else 1) < 30))=true
 line:(apos.endLine == cpos.line)=true
 trees:backTo cpos (starEach [e] X.env)=[(false,eval e X.env)]
structure M2 (X:Cx) (o:Expr) (m:Str) (apos:Pos) (e f:Expr) (cpos:Pos):Prop where
 base:attributeBase o m X.env (eval o X.env)=eval o X.env
 few:((backTo cpos (starEach [e,f] X.env)).all (fun x=>!x.1) && (backToKw cpos (keywordEach [] X.env)).all (fun x=>x.1.isSome)
  && decide (([e,f]:List Expr).length+([]:List Keyword).length+(if ([]:List Keyword).isEmpty then 0 else 1) < 30))=true
 line:(apos.endLine == cpos.line)=true
 trees:backTo cpos (starEach [e,f] X.env)=[(false,eval e X.env),(false,eval f X.env)]
noncomputable def IsD (H:Hp) (a:Addr):Prop:=(∃ kvs,Rd H a (.dK kvs))∨∃ kvs,Rd H a (.dT kvs)
theorem isD_at {X:Cx} {pins:List (Addr × Obj)} {σ:St} {H:Hp} {s:Shared} {a:Addr} (I:Inv X pins σ H s) (d:IsD H a) :
  s.TypeIs (.ref a) "dict" ∧ (∀ b,Value.ref a=.ref b→∃ ob,s.heap.get? b=some ob∧ob.dict=none)∧(a == sysModules)=false:=by
 rcases d with ⟨kvs,e⟩ | ⟨kvs,e⟩
 ·obtain ⟨_,hd,vs,_,dd⟩:=dk_rd I.hok e
  refine ⟨dd.typeIs,fun b q=>?_,hd⟩
  cases q
  obtain ⟨ob,_,_,h1,h2,_⟩:=dd
  exact ⟨ob,h1,h2.2.1⟩
 ·obtain ⟨_,hd,xs,_,dd⟩:=dt_rd I.hok e
  refine ⟨dd.typeIs,fun b q=>?_,hd⟩
  cases q
  obtain ⟨ob,_,_,h1,h2,_⟩:=dd
  exact ⟨ob,h1,h2.2.1⟩
section
variable {X:Cx} {pins:List (Addr × Obj)} {σ:St} {H:Hp} {s:Shared} {a:Addr} {y d:V} {u r:Value} {o:Option V} {A:Around} {E:Value→Shared→Prop}
theorem d_get1 {Q:Value→Shared→Prop} (hu:A.units+1 < cLine) (I:Inv X pins σ H s) (g:DGet H a y o) (ry:RelV y u) (h:∀ w' s',Inv X pins σ H s'→RelV (o.getD .non) w'→Q w' s') :
  wpAny (model X.prog X.w) A (call (.builtin "dict.get") [.ref a,u]) Q E s:=by
 rcases g with ⟨kvs,k,e,ey,l⟩ | ⟨kvs,k,b,e,ey,eb,l⟩
 ·subst ey
  obtain ⟨z,hd,vs,rel,dd⟩:=dk_rd I.hok e
  refine call_meetsIn PySem.F.slot_dict_get dd.typeIs PySem.F.entry_dict_get (PySem.F.args_dict_get_2 _ _) (meets_dict_get (mixKind X.prog X.w) a (kV_is ry) hd) ⟨_,dd.mapOf,h _ _ (I.tok _) ?_⟩
  rw [l]
  exact (rel.val k).getD rfl
 ·subst ey
  cases (show u=Value.ref b from ry)
  obtain ⟨z,hd,xs,rel,dd⟩:=dt_rd I.hok e
  refine call_meetsIn PySem.F.slot_dict_get dd.typeIs PySem.F.entry_dict_get (PySem.F.args_dict_get_2 _ _) (meetsH_dict_get (tupleKind (mixKind X.prog X.w)) a b hd) ⟨tupleKind_room_in1 hu,k,xs,key_of I.hok eb,dd,h _ _ (I.tok _) ?_⟩
  rw [l]
  exact (rel.val k).getD rfl
end
noncomputable def tDGet1 (td ty:TE):TE:=fun σ H Q=>td σ H fun x H1=>∃ a,x=.ref a∧IsD H1 a∧ty σ H1 fun y H2=>∃ o,DGet H2 a y o∧Q (o.getD .non) H2
section
variable {X:Cx} {o e f:Expr} {apos cpos:Pos} {td ty tx:TE}
theorem pe_dget1 (hu:X.A.units+1 < cLine) (ho:PE X o td) (he:PE X e ty) (m:M1 X o "get" apos e cpos):PE X (.Call (.Attribute o "get" apos) [e] [] cpos) (tDGet1 td ty):=by
 intro pins s σ H Q I h
 refine wpAny_Call_method m.base m.few m.line PySem.F.plainAttrs_dict PySem.F.slot_dict_get PySem.F.type_dict_get (thn (ho pins s σ H _ I h) fun u s1 ⟨x,H1,I1,rx,a,ex,d,q1⟩=>?_)
 subst ex
 obtain rfl:u=Value.ref a:=rx
 obtain ⟨t1,t2,_⟩:=isD_at I1 d
 refine ⟨t1,t2,?_⟩
 rw [m.trees]
 refine Calls.callWith_builtin rfl (Calls.evalArgs_plain (Calls.spliced_cons (thn (he pins s1 σ H1 _ I1 q1) fun iv s2 ⟨y,H2,I2,ry,ov,g,q2⟩=>Calls.spliced_nil ?_)))
 exact d_get1 hu I2 g ry fun w' s3 I3 rw'=>⟨_,H2,I3,rw',q2⟩
end
section
variable {X:Cx} {pins:List (Addr × Obj)} {σ:St} {H:Hp} {s:Shared} {a:Addr} {kvs:List (Key × V)} {A:Around} {E:Value→Shared→Prop}
end
section
variable {X:Cx} {pins:List (Addr × Obj)} {σ:St} {H:Hp} {s:Shared} {a:Addr} {y:V} {u:Value} {A:Around} {E:Value→Shared→Prop}
end
end L2
namespace Att
open PySem PySem.W PySem.Calls PyProof.Rows
theorem ints_of_wellAll {P:Params} {h:Heap}:∀ (ns:List Int) (vs:List Value),WellAll P h vs (ns.map WData.int)→IntsAre vs ns:=by
 intro ns
 induction ns with
 | nil =>
  intro vs w
  rw [List.map_nil] at w
  cases w
  exact .nil
 | cons n ns ih =>
  intro vs w
  rw [List.map_cons] at w
  cases w with
  | cons a b =>
   cases a
   exact .cons _ _ (ih _ b)
theorem script_of {l:OpenLaw} {n:Nat} (hn:l.most=some n) {P:Params} {h:Heap} {args:List WData} {vals:List Value}
  (hpre:l.row.toRowW.claim.pre args=true) (hwl:WellAll P h vals args) :
  ∃ a vs ns,vals=[Value.ref a]∧args=[WData.list (ns.map WData.int)]∧h.get? a=some { cls:=.type "list",data:=.seq vs.toArray }∧IntsAre vs ns∧ns.length≤n:=by
 have hsh:WShape.hasAll [] args [.list .int]=true:=(pre_splitW hpre).1
 have hc:l.pre.holds [] { args:=args }=true:=(pre_splitW hpre).2
 obtain ⟨d,r,rfl,h1,h2⟩:=hasAllW_cons hsh
 obtain rfl:=hasAllW_nil h2
 obtain ⟨xs,rfl,h3⟩:=hasW_list h1
 obtain ⟨ns,rfl⟩:=items_int h3
 have hlen:ns.length≤n:=by
  unfold OpenLaw.pre at hc
  have h4:(WTm.not (.lt (.lit (.int (n:Int))) (.len (.arg 0)))).holds [] { args:=[.list (ns.map .int)] }=true:=by
   have h4:=(holds_andW hc).1
   rw [hn] at h4
   exact h4
  have h5:=condW_of h4 (w_not (w_lt w_lit (w_len_list (w_arg rfl))))
  rw [List.length_map] at h5
  refine Nat.le_of_not_lt fun q=>?_
  have q':(n:Int) < ((ns.length:Nat):Int):=by lia
  first
   | (rw [decide_eq_true q'] at h5; exact absurd h5 (by decide))
   | (simp at h5; lia)
 cases hwl with
 | cons w1 w2 =>
  cases w2
  cases w1 with
  | list ho hall=>exact ⟨_,_,ns,rfl,rfl,ho,ints_of_wellAll ns _ hall,hlen⟩
theorem post_true (l:OpenLaw) (args:List WData):l.row.toRowW.claim.post args (.bool true) args=true :=
 postW_of (r:=l.row.toRowW) (X:=(true == true))
  (show WShape.has [] (.bool true) .bool=true by first | rfl | decide | simp [WShape.has,WShape.arms,WShape.armsAll])
  (show (WTm.eq .res (.lit (.bool true))).value [] { args:=args,res:=some (.bool true),after:=args }=some (.bool (true == true)) from w_eq_bool (w_res rfl) w_lit) rfl
theorem attach_call {l:OpenLaw} {n:Nat} {q:Program} {loose:List Str} {XP:(Str→Option Value)→Heap→Prop} {YP:World→Heap→Prop} {d:DefRec}
  (hn:l.most=some n) (hdf:d.params.defaults=[])
  (call:∀ (w:World) (s₀ s₁:Shared) (mg mb:Str→Option Value) (fa:Addr) (o:Obj) (pm cd doc:Value) (a:Addr) (vs:List Value) (ns:List Int),
   Ground q loose [] XP w s₀ mg mb s₁.heap→YP w s₁.heap →
   s₁.heap.get? fa=some o→o.data=.func (docDef d.name d.params d.body d.scope pm cd doc)→s₁.heap.CodeRec cd d.name→mg d.name=some (.ref fa) →
   s₁.heap.get? a=some { cls:=.type "list",data:=.seq vs.toArray }→IntsAre vs ns→ns.length≤n→s₁.gens=#[] →
   codeAny (model l.prog w) callerA (.call (.ref fa) ⟨[.ref a],[]⟩) (fun r s'=>r=.ok (.ret (.bool true))∧OldK s₁.heap s'.heap∧s'.os=s₁.os∧AllBare s'.gens) s₁) :
  WalkO q loose XP YP l.row.toRowW d [] (fun f vs=>PySem.call f vs):=by
 intro w s₀ s₁ mg mb G Y fa o pm cd doc dV kV ho hd hcd hD hmg hg args vals as hpre hlay hrd hwl hlo
 obtain rfl:dV=.none:=Dflts.none hD hdf
 obtain rfl:kV=.none:=Dflts.noKw hD
 obtain ⟨a,vs,ns,rfl,rfl,hobj,hints,hlen⟩:=script_of hn hpre hwl
 refine enter_call (codeAny_mono (call w s₀ s₁ mg mb fa o pm cd doc a vs ns G Y ho (fd_plain hd) hcd hmg hobj hints hlen hg) fun r s' hq=>?_)
 obtain ⟨rfl,h2,h3,h4⟩:=hq
 exact ⟨.inl ⟨.bool true,.bool true,[],rfl,fun _=>rfl,.bool true,post_true l _,fun _=>⟨List.Pairwise.nil,fun _ hm=>(nomatch hm)⟩⟩,h2,h3,h4⟩
section
variable {prog:Program} {w:World} {A:Around} {E:Value→Shared→Prop} {s:Shared} {K:Frag}
end
end Att
namespace L2
open PySem PySem.Spec PyProof.Rows
theorem vals_ints:∀ {vs:List Value} {ns:List Int},IntsAre vs ns→Vals (ns.map V.int) vs
 | _,_,.nil=>.nil
 | _,_,.cons n t h=>.cons ⟨t,rfl⟩ (vals_ints h)
noncomputable def Only (H:Hp):Prop:=∀ b,H b=none∨∃ o xs,H b=some (.frz o (.lst xs))
theorem law_call {P:Program} {w:World} {K:PySem.W.Frag} {mg mb:Str→Option Value} {CX:CXT} {k:Nat} {fa a:Addr} {fd:FuncData} {x:Str} {sp:Sp} {s₁:Shared} {vs:List Value} {ns:List Int}
  (KX:K.In s₁.heap) (hns:s₁.heap.Ns mainGlobals mg) (hb:s₁.heap.Ns builtinsNs mb) (hbb:∀ x:Str,x≠"__name__" → mb x=bootBuiltins x) (hlim:s₁.heap.NoLimit) (hg:s₁.gens=#[])
  (ha:s₁.heap.get? a=some { cls:=.type "list",data:=.seq vs.toArray }) (hi:IntsAre vs ns) (hl:ns.length≤sizeLine) (hr:Room k callerA)
  (F:∀ base:Heap,K.In base→base.Ns mainGlobals mg→FnOk P w K mg base CX k fa fd [x] sp) (hbind:∀ (s:Shared) (u:Value),BindsTo s fd ⟨[u],[]⟩ [(x,u)])
  (hsp:∀ H:Hp,Only H→SqL K H a (ns.map V.int)→sp [.ref a] H (fun v _=>v=.bl true) fun _ _ _=>False)
  (hCX:∀ H e s',CX [] H s₁ (fun _ _ _=>False) e s'→False) :
  codeAny (model P w) callerA (.call (.ref fa) ⟨[.ref a],[]⟩) (fun r s'=>r=.ok (.ret (.bool true))∧OldK s₁.heap s'.heap∧s'.os=s₁.os∧AllBare s'.gens) s₁:=by
 have rv:=vals_ints hi
 have lenV:=hi.length
 have core:∀ H:Hp,Only H→SqL K H a (ns.map V.int)→HOk P w H s₁.heap→(∀ b,H b≠none→b=a)→(H a≠none→K.lookup a=none) →
   codeAny (model P w) callerA (.call (.ref fa) ⟨[.ref a],[]⟩) (fun r s'=>r=.ok (.ret (.bool true))∧OldK s₁.heap s'.heap∧s'.os=s₁.os∧AllBare s'.gens) s₁:=by
  intro H hO hS hok hA hK
  have base_of:∀ {b:Addr} {o:Obj},s₁.heap.get? b=some o→H b=none→(hidT s₁.heap H).get? b=some o:=fun e n=>hidT_get e n
  have noA:∀ {b:Addr} {o:Obj} {es:Array DictEntry} {ep:Nat},s₁.heap.get? b=some o→o.data=.dict es ep→H b=none:=fun {b o es ep} e d=>by
   cases q:H b with
   | none=>rfl
   | some u =>
    have e':b=a:=hA b (by rw [q]; simp)
    subst e'
    rw [ha] at e; cases e
    have d':Data.seq vs.toArray _=Data.dict es ep:=d
    cases d'
  have nsK:∀ {b:Addr} {m:Str→Option Value},s₁.heap.Ns b m→(hidT s₁.heap H).Ns b m:=fun {b m} ⟨o,es,ep,e,d,r⟩=>⟨o,es,ep,base_of e (noA e d),d,r⟩
  have hKb:K.In (hidT s₁.heap H):=fun b o e=>base_of (KX b o e) (by
   cases q:H b with
   | none=>rfl
   | some u =>
    have e':b=a:=hA b (by rw [q]; simp)
    subst e'
    rw [hK (by rw [q]; simp)] at e; cases e)
  have hM:Mod K mg (hidT s₁.heap H):=⟨hKb,nsK hns,⟨mb,nsK hb,hbb⟩,let ⟨mc,h1,h2⟩:=hlim; ⟨mc,nsK h1,h2⟩⟩
  have e0:Env0 P w K mg (hidT s₁.heap H) callerA [] s₁ H:=⟨rfl,hM,fun b o e=>of_hidT e,Nat.le_of_eq (hidT_size _ _),trivial,fun b hb=>absurd (show b∈([]:List Addr) from hb) (by simp),hok,.of_eq hg⟩
  refine codeAny_mono ((F _ hKb (nsK hns)).run callerA [] s₁ H ⟨[.ref a],[]⟩ [.ref a] [.ref a] _ _ hr e0 (hbind s₁ (.ref a)) (.cons rfl .nil) (hsp H hO hS)) fun r s' h=>?_
  cases r with
  | error e=>exact (hCX H e s' h).elim
  | ok fl =>
   cases fl with
   | next=>exact False.elim h
   | brk=>exact False.elim h
   | cont=>exact False.elim h
   | ret u =>
    obtain ⟨v,H',os,bare,un,hok',r',q⟩:=h
    have q':v=.bl true:=q
    subst q'
    obtain rfl:u=Value.bool true:=r'
    refine ⟨rfl,OldK.of_keep fun b o e=>?_,os,bare⟩
    cases q:H b with
    | none=>exact un.keep b o e q (by intro z; exact absurd (show b∈([]:List Addr) from z) (by simp)) (by simp)
    | some u =>
     rcases hO b with z | ⟨ob,xs,z⟩
     ·rw [q] at z; cases z
     ·have z2:=un.frzs b ob _ z
      obtain ⟨e1,_⟩:=hok b _ z
      obtain ⟨e2,_⟩:=hok' b _ z2
      rw [e] at e1; cases e1
      exact e2
 cases hk:K.lookup a with
 | some o =>
  have e:=KX a o hk
  rw [ha] at e
  cases e
  refine core (fun _=>none) (fun _=>.inl rfl) (.inr ⟨_,vs.toArray,_,hk,rfl,rfl,rfl,by rw [List.size_toArray,lenV]; exact hl,by simpa using rv⟩) (fun b u z=>by have z':(none:Option HO)=some u:=z; cases z') (fun b z=>absurd rfl z) fun z=>absurd rfl z
 | none =>
  refine core (fun b=>if b=a then some (.frz { cls:=.type "list",data:=.seq vs.toArray } (.lst (ns.map V.int))) else none) (fun b=>?_) (.inl (.inr ⟨{ cls:=.type "list",data:=.seq vs.toArray },if_pos rfl⟩)) (fun b u z=>?_) (fun b z=>?_) fun _=>hk
  ·by_cases hb:b=a
   ·exact .inr ⟨_,_,if_pos hb⟩
   ·exact .inl (if_neg hb)
  ·by_cases hb:b=a
   ·have z':=(if_pos hb).symm.trans z
    cases z'
    subst hb
    exact ⟨ha,by rw [List.length_map]; exact hl,vs,_,rv,ha⟩
   ·have z':=(if_neg hb).symm.trans z
    cases z'
  ·by_cases hb:b=a
   ·exact hb
   ·exact absurd (if_neg hb) z
end L2
namespace L2
open PySem PySem.Spec PyProof.Rows
theorem walk_of {l:PySem.W.OpenLaw} {n k:Nat} {q:Program} {loose:List Str} {XP:(Str→Option Value)→Heap→Prop} {YP:World→Heap→Prop} {d:DefRec} {K:Params→PySem.W.Frag} {CX:World→CXT} {sp:World→Sp} {x:Str}
  (hn:l.most=some n) (hn2:n≤sizeLine) (hdf:d.params.defaults=[]) (hr:Room k callerA)
  (hY:∀ (w:World) (h:Heap),YP w h→(K w.params).In h)
  (F:∀ (w:World) (mg:Str→Option Value) (fa:Addr) (h:Heap),(K w.params).In h→h.Ns mainGlobals mg→mg d.name=some (.ref fa) →
   ∃ fd:FuncData,(∀ (s:Shared) (u:Value),BindsTo s fd ⟨[u],[]⟩ [(x,u)]) ∧
    ∀ base:Heap,(K w.params).In base→base.Ns mainGlobals mg→FnOk l.prog w (K w.params) mg base (CX w) k fa fd [x] (sp w))
  (hsp:∀ (w:World) (H:Hp) (a:Addr) (ns:List Int),ns.length≤n→Only H→SqL (K w.params) H a (ns.map V.int)→sp w [.ref a] H (fun v _=>v=.bl true) fun _ _ _=>False)
  (hCX:∀ (w:World) (H:Hp) (s:Shared) (e:Value) (s':Shared),CX w [] H s (fun _ _ _=>False) e s'→False) :
  PySem.W.WalkO q loose XP YP l.row.toRowW d [] (fun f vs=>PySem.call f vs):=by
 refine Att.attach_call hn hdf fun w s₀ s₁ mg mb fa o pm cd doc a vs ns G Y ho hd hcd hmg hobj hints hlen hg=>?_
 have KX:=hY w _ Y
 obtain ⟨fd,hb,hF⟩:=F w mg fa _ KX G.T.g hmg
 exact law_call KX G.T.g G.T.b G.T.builtins G.T.nolimit hg hobj hints (Nat.le_trans hlen hn2) hr hF hb (fun H hO hS=>hsp w H a ns hlen hO hS) fun H e s'=>hCX w H s₁ e s'
end L2
namespace L2
open PySem PySem.Spec PyProof.Rows
noncomputable def defArgs (s:Stmt):Arguments:=match s with
 | .FunctionDef _ a _ _ _ _ _ _ _ _=>a
 | _=>{ posonlyargs:=[],args:=[],vararg:=none,kwonlyargs:=[],kw_defaults:=[],kwarg:=none,defaults:=[] }
noncomputable def defBody (s:Stmt):List Stmt:=match s with
 | .FunctionDef _ _ b _ _ _ _ _ _ _=>b
 | _=>[]
noncomputable def defScope (s:Stmt):Scope:=match s with
 | .FunctionDef _ _ _ _ _ _ sc _ _ _=>sc
 | _=>{ kind:=.function,names:=[],isGenerator:=false,isCoroutine:=false }
noncomputable abbrev CX0:CXT:=fun _ _ _ _ _ _=>False
noncomputable abbrev E0:XK:=fun _ _ _=>False
theorem pass0 {X:Cx}:Passes CX0 X E0:=fun _ _ _ _ _ _ _ h=>h.elim
structure Fun (K:PySem.W.Frag) (x qual:Str) (st:Stmt) (f:Addr) (fd:FuncData):Prop where
 ex:∃ (oc:Value) (od:Option Addr) (kV doc pm:Value) (an:Option Addr) (cdv ct:Value) (osl:Array (Option Value)),
  fd=PySem.W.fnOf x qual (defArgs st) (defBody st) (defScope st) .none kV doc pm an cdv ct∧K.lookup f=some ⟨oc,od,.func fd,osl⟩∧PySem.W.codeIn K cdv qual=true
 kp:PySem.W.keepIn K (.ref f)=true
section
variable {P:Program} {w:World} {K:PySem.W.Frag} {mg:Str→Option Value} {base:Heap}
theorem Fun.ok {x qual:Str} {st:Stmt} {f:Addr} {fd:FuncData} {N ps:List Str} {k:Nat} {sp:Sp} (F:Fun K x qual st f fd) (S:FnScope N ps (defScope st)) (len:∀ vs H Q E,sp vs H Q E→vs.length=ps.length)
  (hbody:∀ (cdv:Value) (A:Around) (outer:List Env) (s:Shared) (H:Hp) (vs:List V) (Q:VK) (E:XK),Room k (A.deeper (envOfC qual (defScope st) s.heap.objs.size f cdv))→sp vs H Q E →
   ∃ t,PSs (cxOf CX0 P w K mg base N qual (defScope st) f cdv A outer s H E).nox (defBody st) t∧t { nx:=fun _ H'=>Q .non H',rt:=Q } (start N vs) H):FnOk P w K mg base CX0 (k+1) f fd ps sp:=by
 obtain ⟨oc,od,kV,doc,pm,an,cdv,ct,osl,rfl,lk,hcd⟩:=F.ex
 refine fn_of lk hcd S len fun A outer s H vs Q E hr hsp=>?_
 obtain ⟨t,h,q⟩:=hbody cdv A outer s H vs Q E hr hsp
 exact ⟨t,h.nox,q⟩
theorem Fun.binds {x qual:Str} {st:Stmt} {f:Addr} {fd:FuncData} {ps:List Str} (F:Fun K x qual st f fd)
  (h:∀ (kV doc pm:Value) (an:Option Addr) (cdv ct:Value) (us:List Value),us.length=ps.length→bindArgs (PySem.W.fnOf x qual (defArgs st) (defBody st) (defScope st) .none kV doc pm an cdv ct) ⟨us,[]⟩=pure (ps.zip us)):Binds K fd ps []:=by
 obtain ⟨oc,od,kV,doc,pm,an,cdv,ct,osl,rfl,lk,hcd⟩:=F.ex
 exact .all (h kV doc pm an cdv ct)
theorem fun_mk {x qual:Str} {st:Stmt} {f:Addr} {oc:Value} {od an:Option Addr} {osl:Array (Option Value)} {kV doc pm cdv ct:Value} (l:K.lookup f=some ⟨oc,od,.func (PySem.W.fnOf x qual (defArgs st) (defBody st) (defScope st) .none kV doc pm an cdv ct),osl⟩)
  (c:PySem.W.codeIn K cdv qual=true) (k:PySem.W.keepIn K (.ref f)=true):Fun K x qual st f (PySem.W.fnOf x qual (defArgs st) (defBody st) (defScope st) .none kV doc pm an cdv ct):=⟨⟨oc,od,kV,doc,pm,an,cdv,ct,osl,rfl,l,c⟩,k⟩
end
section
variable {X:Cx}
end
theorem iteF {A B:Prop} (h:B):if false=true then A else B:=by
 rw [if_neg Bool.false_ne_true]
 exact h
theorem iteT {A B:Prop} (h:A):if true=true then A else B:=by
 rw [if_pos rfl]
 exact h
noncomputable def Same (H H':Hp):Prop:=∀ b o,H b=some o→H' b=some o
theorem Same.refl (H:Hp):Same H H:=fun _ _ h=>h
theorem Same.trans {H H1 H2:Hp} (a:Same H H1) (b:Same H1 H2):Same H H2:=fun c o h=>b c o (a c o h)
theorem Same.free {H H':Hp} (e:Same H H') {l:Addr} (h:H' l=Option.none):H l=Option.none:=by
 cases q:H l with
 | none=>rfl
 | some o =>
  rw [e l o q] at h
  cases h
theorem Same.seq {K:PySem.W.Frag} {H H':Hp} {a:Addr} {xs:List V} (e:Same H H') (h:SqL K H a xs):SqL K H' a xs:=by
 rcases h with (h | ⟨o,h⟩) | h
 ·exact .inl (.inl (e _ _ h))
 ·exact .inl (.inr ⟨o,e _ _ h⟩)
 ·exact .inr h
end L2
namespace L2
open PySem PySem.Spec PyProof.Rows
theorem line1000:1000≤sizeLine:=by decide
theorem same_upd {H:Hp} {l:Addr} (h:H l=none) (o:HO):Same H (upd H l o):=fun b u e=>by
 rw [upd_ne (ne_of_none e h)]
 exact e
theorem Same.put {H H':Hp} {p:Addr} {o:HO} (e:Same H H') (h:H p=none):Same H (upd H' p o):=fun b u q=>by
 rw [upd_ne (ne_of_none q h)]
 exact e b u q
theorem at_nat {α:Type} {xs:List α} {k:Int} (h0:0≤k) (h1:k < (xs.length:Int)):∃ v,atI xs k=some v∧xs[k.toNat]?=some v:=by
 have hk:k.toNat < xs.length:=by lia
 have e:xs[k.toNat]?=some xs[k.toNat]:=List.getElem?_eq_getElem hk
 refine ⟨xs[k.toNat],?_,e⟩
 have:=atI_nat e
 rw [Int.toNat_of_nonneg h0] at this
 exact this
theorem at_map {α β:Type} {f:α→β} {xs:List α} {k:Int} {v:α} (h:atI xs k=some v):atI (xs.map f) k=some (f v):=by
 unfold atI at h ⊢
 rw [List.length_map]
 cases e:ixN xs.length k with
 | none =>
  rw [e] at h
  cases h
 | some j =>
  rw [e] at h
  have h':xs[j]?=some v:=h
  show (xs.map f)[j]?=some (f v)
  rw [List.getElem?_map,h']
  rfl
noncomputable def cutL {α:Type} (xs:List α) (lo hi:Option Int):List α:=(xs.drop (HT.sIx xs.length 0 lo)).take (HT.sIx xs.length xs.length hi - HT.sIx xs.length 0 lo)
theorem cutV_map {α:Type} (f:α→V) (xs:List α) (lo hi:Option Int):cutV (xs.map f) lo hi=(cutL xs lo hi).map f:=by
 unfold cutV cutL
 rw [List.length_map,List.map_take,List.map_drop]
theorem cutL_last {α:Type} (xs:List α):cutL xs none (some (-1))=xs.dropLast:=by
 unfold cutL
 rw [HT.sIx_none]
 show (xs.drop 0).take ((if (-1:Int) < 0 then ((-1:Int)+(xs.length:Int)).toNat else min (-1:Int).toNat xs.length) - 0)=xs.dropLast
 rw [if_pos (by decide),List.drop_zero,List.dropLast_eq_take]
 congr 1
 lia
theorem cutL_take {α:Type} (xs:List α) (k:Nat):cutL xs none (some (k:Int))=xs.take k:=by
 unfold cutL
 rw [HT.sIx_none,HT.sIx_nat,List.drop_zero,Nat.sub_zero]
 by_cases h:k≤xs.length
 ·rw [Nat.min_eq_left h]
 ·rw [Nat.min_eq_right (by lia),List.take_length,List.take_of_length_le (by lia)]
noncomputable def Its (z:Str):It:=⟨fun i _=>i < z.cps.size,fun i H x H'=>H'=H∧∃ c,z.cps[i]?=some c∧x=.str ⟨#[c]⟩,fun i _=>z.cps.size≤i⟩
theorem turn_ascii {P:Program} {w:World} {K:PySem.W.Frag} {tg:Expr} (it:Addr) (z:Str) (t:Tok):Turn P w K tg (Its z) [it] it (fun i h=>h.IsStrIter it "str_ascii_iterator" z t i) where
 mem:=by simp
 obj:=fun i h st b hb=>by
  have e:b=it:=by simpa using hb
  subst e
  obtain ⟨o,e,c,d⟩:=st
  exact ⟨o,e,fun v z=>by rw [d] at z; cases z⟩
 keep:=fun i h h' st k=>by
  obtain ⟨o,e,r⟩:=st
  exact ⟨o,k it (by simp) o e,r⟩
 item:=by
  intro X hP hw hK hc i pins s σ H E I hf st hg
  subst hP hw hK
  obtain ⟨f0,f1,f2,f3,f4,f5⟩:=hf it (by simp)
  have hx:z.cps[i]?=some z.cps[i]:=Array.getElem?_eq_getElem hg
  refine wpAny_pyNext_ascii_item st hx fun h' st' sb=>?_
  have I1:Inv X pins σ H { s with heap:=h',toks:=s.toks+1 }:=I.turned (fun b o hb e=>(sb.2 b hb).trans e) f0 f1 f3 f4 f5
  obtain ⟨o,e,c,d⟩:=id st'
  exact ⟨_,rfl,go_of (s:={ s with heap:=h',toks:=s.toks+1 }) e c d (by decide) ⟨.str ⟨#[z.cps[i]]⟩,H,I1,⟨_,rfl⟩,⟨rfl,_,hx,rfl⟩,st',fun b hb=>(hf b hb).1⟩⟩
 done:=by
  intro X hP hw hK hc i pins s σ H E I hf st hg
  subst hP hw hK
  obtain ⟨f0,f1,f2,f3,f4,f5⟩:=hf it (by simp)
  exact wpAny_pyNext_ascii_end (I.ok.hd hc) st (Array.getElem?_eq_none hg) fun h' eb=>⟨rfl,I.turned (t':=s.toks) (fun b o hb e=>eb b o hb e) f0 f1 f3 f4 f5⟩
 self:=fun _ _ _ _ _ st h=>wpAny_pyIter_striter_ascii st h
theorem turn_wide {P:Program} {w:World} {K:PySem.W.Frag} {tg:Expr} (it:Addr) (z:Str) (t:Tok):Turn P w K tg (Its z) [it] it (fun i h=>h.IsStrIter it "str_iterator" z t i) where
 mem:=by simp
 obj:=fun i h st b hb=>by
  have e:b=it:=by simpa using hb
  subst e
  obtain ⟨o,e,c,d⟩:=st
  exact ⟨o,e,fun v z=>by rw [d] at z; cases z⟩
 keep:=fun i h h' st k=>by
  obtain ⟨o,e,r⟩:=st
  exact ⟨o,k it (by simp) o e,r⟩
 item:=by
  intro X hP hw hK hc i pins s σ H E I hf st hg
  subst hP hw hK
  obtain ⟨f0,f1,f2,f3,f4,f5⟩:=hf it (by simp)
  have hx:z.cps[i]?=some z.cps[i]:=Array.getElem?_eq_getElem hg
  refine wpAny_pyNext_wide_item st hx fun h' st' sb=>?_
  have I1:Inv X pins σ H { s with heap:=h',toks:=s.toks+1 }:=I.turned (fun b o hb e=>(sb.2 b hb).trans e) f0 f1 f3 f4 f5
  obtain ⟨o,e,c,d⟩:=id st'
  exact ⟨_,rfl,go_of (s:={ s with heap:=h',toks:=s.toks+1 }) e c d (by decide) ⟨.str ⟨#[z.cps[i]]⟩,H,I1,⟨_,rfl⟩,⟨rfl,_,hx,rfl⟩,st',fun b hb=>(hf b hb).1⟩⟩
 done:=by
  intro X hP hw hK hc i pins s σ H E I hf st hg
  subst hP hw hK
  obtain ⟨f0,f1,f2,f3,f4,f5⟩:=hf it (by simp)
  exact wpAny_pyNext_wide_end (I.ok.hd hc) st (Array.getElem?_eq_none hg) fun h' eb=>⟨rfl,I.turned (t':=s.toks) (fun b o hb e=>eb b o hb e) f0 f1 f3 f4 f5⟩
 self:=fun _ _ _ _ _ st h=>wpAny_pyIter_striter_wide st h
section
variable {X:Cx} {tg:Expr}
end
noncomputable def plainE:Expr→Bool
 | .Starred ..=>false
 | _=>true
theorem star_cons {e:Expr} {es:List Expr} {env:Env} (h:plainE e=true):starEach (e :: es) env=(false,eval e env) :: starEach es env:=by
 cases e <;> first | rfl | (exact absurd h Bool.false_ne_true)
theorem star_firsts {env:Env}:∀ {es:List Expr},es.all plainE=true→starEach es env=es.map fun e=>(false,eval e env)
 | [],_=>rfl
 | e :: es,h=>by
  rw [List.all_cons,Bool.and_eq_true] at h
  rw [star_cons h.1,star_firsts h.2,List.map_cons]
theorem star_none {es:List Expr} {env:Env} {pos:Pos} (h:es.all plainE=true):(backTo pos (starEach es env)).any (·.1)=false:=by
 rw [star_firsts h]
 unfold backTo
 rw [List.map_map,List.any_eq_false]
 intro p hp
 obtain ⟨e,_,rfl⟩:=List.mem_map.mp hp
 exact Bool.false_ne_true
theorem star_all {es:List Expr} {env:Env} {pos:Pos} (h:es.all plainE=true):(backTo pos (starEach es env)).all (fun x=>!x.1)=true:=by
 rw [star_firsts h]
 unfold backTo
 rw [List.map_map,List.all_eq_true]
 intro p hp
 obtain ⟨e,_,rfl⟩:=List.mem_map.mp hp
 rfl
section
variable {X:Cx} {x:Str} {p pos:Pos} {e:Expr} {es:List Expr} {te:TE} {t:TA} {id T:String} {r:List V→Hp→VK→Prop}
theorem pac (ha:PE X e te) (hr:PA X es t) (hs:plainE e=true:=by rfl):PA X (e :: es) (tCons te t):=pa_cons ha hr (star_cons hs)
theorem all2 {e:Expr} {es:List Expr} (h:(e :: es).all plainE=true):plainE e=true∧es.all plainE=true:=by
 rw [List.all_cons,Bool.and_eq_true] at h
 exact h
theorem pcb (hc:CallR X (.builtin id) r) (hg:Gl X x) (hm:X.mg x=none) (hv:bootBuiltins x=some (.builtin id)) (ha:PA X (e :: es) t) (hp:(e :: es).all plainE=true:=by rfl) (hn:x≠"__name__" := by decide) (hdb:(x == ("__debug__" : Str))=false:=by decide) :
  PE X (.Call (.Name x p) (e :: es) [] pos) (tCB r t):=pe_callB hc hg hm hv ha hn hdb (star_cons (all2 hp).1) (star_none (all2 hp).2)
theorem pct (hc:CallR X (.type T) r) (hg:Gl X x) (hm:X.mg x=none) (hv:bootBuiltins x=some (.type T)) (ha:PA X (e :: es) t) (hp:(e :: es).all plainE=true:=by rfl) (hn:x≠"__name__" := by decide) (hdb:(x == ("__debug__" : Str))=false:=by decide) :
  PE X (.Call (.Name x p) (e :: es) [] pos) (tCB r t):=pe_callTy hc hg hm hv ha hn hdb (star_cons (all2 hp).1) (star_none (all2 hp).2)
theorem pbm {o:Expr} {to:TE} {name:Str} {apos cpos:Pos} {r:V→List V→Hp→VK→Prop} (pa:PlainAttrs T) (slot:Slot T name id) (hty:typeOf (.builtin id)=pure (.type "method_descriptor")) (hm:MtR X id r) (ho:PE X o to) (ha:PA X (e :: es) t)
  (hp:(e :: es).all plainE=true:=by rfl) (hfew:decide ((e :: es).length < 30)=true:=by rfl) (hbase:attributeBase o name X.env (eval o X.env)=eval o X.env:=by rfl) (hline:(apos.endLine == cpos.line)=true:=by rfl) :
  PE X (.Call (.Attribute o name apos) (e :: es) [] cpos) (tBM X.K T r to t):=by
 refine pe_bm pa slot hty hm ho ha hbase ?_ hline (star_cons (all2 hp).1) (star_none (all2 hp).2)
 rw [star_all hp]
 exact hfew
theorem prng1 {tg a:Expr} {ta:TA} (hg:Gl X "range") (hm:X.mg "range" = none) (ha:PA X [a] ta) (hp:plainE a=true:=by rfl):PI X tg (.Call (.Name "range" p) [a] [] pos) (iRng1 ta):=pi_range1 hg hm ha (star_cons hp)
end
inductive Cal (P:Program) (w:World) (K:PySem.W.Frag) (mg:Str→Option Value) (base:Heap) (k:Nat) (x:Str) (ps:List Str) (sp:Sp):Prop where
 | mk {f:Addr} {fd:FuncData} (F:FnOk P w K mg base CX0 k f fd ps sp) (hm:mg x=some (.ref f)) (hk:PySem.W.keepIn K (.ref f)=true) (hb:Binds K fd ps [])
section
variable {X:Cx} {k:Nat} {ps:List Str} {sp:Sp} {x:Str} {p pos:Pos} {e:Expr} {es:List Expr} {t:TA}
theorem pe_cal (C:Cal X.prog X.w X.K X.mg X.base k x ps sp) (hr:Room k X.A) (hg:Gl X x) (ha:PA X (e :: es) t) (hp:(e :: es).all plainE=true:=by rfl) (hdb:(x == ("__debug__" : Str))=false:=by decide):PE X (.Call (.Name x p) (e :: es) [] pos) (tCall sp [] E0 t):=by
 cases C with
 | mk F hm hk hb=>exact pe_call F hr hg hm hk hb .nil pass0 ha hdb (star_cons (all2 hp).1) (star_none (all2 hp).2)
end
section
variable {X:Cx}
end
theorem kit_same {K:PySem.W.Frag} {T:String}:PySem.W.kitOne K (.type T) (.type T)=some true:=by
 unfold PySem.W.kitOne
 rw [if_pos (by simp)]
section
variable {X:Cx}
theorem strs_of:∀ {ys:List Str} {us:List Value},Vals (ys.map V.str) us→∃ l:List (Str × Tok),us=strValues l∧l.map (·.1)=ys
 | [],_,r=>by
  cases r
  exact ⟨[],rfl,rfl⟩
 | y :: ys,_,r=>by
  rw [List.map_cons] at r
  cases r with
  | cons r1 r2 =>
   obtain ⟨t,e⟩:=r1
   subst e
   obtain ⟨l,e1,e2⟩:=strs_of r2
   subst e1
   exact ⟨(y,t) :: l,rfl,by rw [List.map_cons,e2]⟩
noncomputable abbrev glue (sep:Str) (ys:List Str):Str:=Txt.join sep ys
theorem glue_len (sep:Str) (ys:List Str):(glue sep ys).length≤(ys.map (·.length)).sum+ys.length * sep.length:=by
 show (Builtin.Str.glued sep ys).length≤_
 rw [StrLaws.glued_eq_join]
 exact StrLaws.join_length_le sep ys
theorem mt_join:MtM X "str.join" (fun x vs H Q=>∃ (sep:Str) (l:Addr) (ys:List Str),x=.str sep∧vs=[.ref l]∧SqL X.K H l (ys.map V.str)∧(ys.map (·.length)).sum+ys.length * sep.length≤16777216∧Q (.str (glue sep ys)) H):=by
 intro pins s σ H x vs v us Q I rx rv h
 obtain ⟨sep,l,ys,rfl,rfl,hq,hz,q⟩:=h
 obtain ⟨t,rfl⟩:=rx
 obtain ⟨u,rfl,ru⟩:=rv.one
 cases ru
 obtain ⟨its,r,pl,_⟩:=I.list hq
 obtain ⟨ts,e1,e2⟩:=strs_of r
 subst e1
 refine SC.join pl.isList e2 ?_ fun t' k=>⟨.str (glue sep ys),H,I.tok k,⟨t',rfl⟩,q⟩
 unfold JoinOk
 rw [StrLaws.joinTotal]
 have:Builtin.Str.tooLong ((ys.map (·.length)).sum+ys.length * sep.length)=false:=by
  unfold Builtin.Str.tooLong
  rw [sizeLine_eq]
  exact decide_eq_false (by lia)
 rw [this]
 rfl
theorem part_of {v:Value} {o:Option Int} (p:IsPart v o):∃ l:Option (Int × Tok),v=partValue l∧l.map (·.1)=o:=by
 cases p with
 | none=>exact ⟨none,rfl,rfl⟩
 | int i t=>exact ⟨some (i,t),rfl,rfl⟩
theorem sl_str:SlR X (fun x lo hi H Q=>∃ z,x=.str z∧z.length≤sizeLine∧Q (.str (Txt.slice z lo hi)) H):=by
 intro pins s σ H x v vl vu lo hi sl Q I rx hs pl pu h
 obtain ⟨z,rfl,hz,q⟩:=h
 obtain ⟨t,rfl⟩:=rx
 obtain ⟨l,e1,e2⟩:=part_of pl
 obtain ⟨u,e3,e4⟩:=part_of pu
 subst e1 e2 e3 e4
 refine ⟨"str",_,F.slot_str_getitem.lookup,typeIs_str _ _ _,?_⟩
 refine wpAny_getItem_str_slice (l:=l) (u:=u) (st:=none) hs rfl ?_
 exact post_val_or_str ⟨Nat.le_trans (Txt.slice_le z _ _) hz,fun t' k=>⟨.str (Txt.slice z (l.map (·.1)) (u.map (·.1))),H,I.tok k,⟨t',rfl⟩,q⟩⟩
end
end L2
namespace HT
open PySem PyProof.Rows
section
variable {prog:Program} {w:World} {A:Around} {E:Value→Shared→Prop} {s:Shared}
theorem getItem_tuple_whole {t sl:Addr} {items:Array Value} {vl vu:Value} {lo hi:Option Int} {Q:Value→Shared→Prop} (ht:IsTup s.heap t items) (hs:s.heap.IsSliceOf sl vl vu .none) (pl:IsPart vl lo) (pu:IsPart vu hi)
  (hw:sIx items.size 0 lo=0∧sIx items.size items.size hi=items.size) (h:Q (.ref t) s):wpAny (model prog w) A (getItem (.ref t) (.ref sl)) Q E s:=by
 obtain ⟨os,hos,hcs,hds⟩:=id hs
 have hTs:s.TypeIs (.ref sl) "slice" := ⟨os,hos,hcs⟩
 unfold getItem
 try with_reducible refine wpAny_holding ?_
 first | refine wpAny_bind (wpAny_pure ?_) | skip
 refine wpAny_bind (wpAny_sequenceKey ht.typeIs (by decide) ?_)
 refine wpAny_bind (wpAny_callSpecial?_slot (name:=Str.ofString "__getitem__") ht.typeIs PyProof.Rows.slot_tuple_getitem
  (wpAny_call_entry PyProof.Rows.slot_tuple_getitem ht.typeIs entry_tuple_getitem ?_ (args_tuple_getitem _ _)))
 show wpAny _ _ (Builtin.Tuple.tupleItemsOf (.ref t) >>= _) _ _ s
 refine wpAny_bind (tupleItemsOf_ ht ?_)
 refine wpAny_bind (wpAny_typeOf hTs ?_)
 rw [if_pos (by decide)]
 refine wpAny_bind (sliceApplied_gen hs pl pu ?_)
 have hyes:(((sIx items.size 0 lo:Nat):Int) == 0 && (1:Int) == 1 && (sIx items.size items.size hi - sIx items.size 0 lo) == items.size)=true:=by
  rw [hw.1,hw.2]
  simp
 show wpAny _ _ (if (((sIx items.size 0 lo:Nat):Int) == 0 && (1:Int) == 1 && (sIx items.size items.size hi - sIx items.size 0 lo) == items.size)=true then _ else _) _ _ s
 rw [if_pos hyes]
 refine wpAny_bind (m:=Builtin.Tuple.tupleIsExact _) ?_
 unfold Builtin.Tuple.tupleIsExact
 refine wpAny_bind (wpAny_typeOf ht.typeIs (wpAny_pure ?_))
 rw [if_pos (by decide)]
 exact wpAny_bind (wpAny_rule (wpAny_pure ⟨_,rfl,wpAny_pure h⟩))
end
end HT
namespace L2
open PySem PySem.Spec PyProof.Rows
section
variable {X:Cx}
end
theorem lookup_relabel_any {env:Env} {x:Str} {k:NameKind}:∀ {names:List (Str × NameKind)},
  (names.map fun (n,k)=>if (k == NameKind.free && env.scope.kind == .function && env.kindOf n == some .cell) then (n,NameKind.cell) else (n,k)).lookup x=some k→names.lookup x=some k∨(names.lookup x=some .free∧k=.cell)
 | [],h=>by simp at h
 | (n,k0) :: r,h=>by
  have ih:=@lookup_relabel_any env x k r
  rw [List.map_cons] at h
  have h:List.lookup x ((if (k0 == NameKind.free && env.scope.kind == .function && env.kindOf n == some .cell)=true then (n,NameKind.cell) else (n,k0)) :: _)=some k:=h
  by_cases hc:(k0 == NameKind.free && env.scope.kind == .function && env.kindOf n == some .cell)=true
  ·rw [if_pos hc,List.lookup_cons] at h
   rw [List.lookup_cons]
   cases hx:x == n with
   | true =>
    rw [hx] at h
    have e:NameKind.cell=k:=Option.some.inj h
    subst e
    have e0:k0=.free:=by
     rw [Bool.and_eq_true,Bool.and_eq_true] at hc
     exact eq_of_beq hc.1.1
    subst e0
    exact .inr ⟨rfl,rfl⟩
   | false =>
    rw [hx] at h
    exact ih h
  ·rw [if_neg hc,List.lookup_cons] at h
   rw [List.lookup_cons]
   cases hx:x == n with
   | true =>
    rw [hx] at h
    exact .inl h
   | false =>
    rw [hx] at h
    exact ih h
theorem lookup_relabel {csc:Scope} {env:Env} {x:Str} {k:NameKind} (h:(relabel csc env).names.lookup x=some k):csc.names.lookup x=some k∨(csc.names.lookup x=some .free∧k=.cell):=lookup_relabel_any h
theorem closure_of {csc:Scope} {env:Env} (h:∀ y∈csc.names,y.2=.free→∃ c,env.cells.lookup y.1=some c) :
  ∃ cl,closureFor csc env=pure cl∧(∀ x c,cl.lookup x=some c→env.cells.lookup x=some c)∧∀ y∈csc.names,y.2=.free→∃ c,cl.lookup y.1=some c:=by
 have key:∀ (body:Str × NameKind→List (Str × Addr)→Sem (ForInStep (List (Str × Addr)))),
   (∀ n k acc,body (n,k) acc=if (k == .free)=true then (cellOf env n >>= fun c=>pure (ForInStep.yield ((n,c) :: acc))) else pure (ForInStep.yield acc)) →
   ∀ (l:List (Str × NameKind)) (acc:List (Str × Addr)),(∀ y∈l,y.2=.free→∃ c,env.cells.lookup y.1=some c)→(∀ x c,acc.lookup x=some c→env.cells.lookup x=some c) →
   ∃ cl,(forIn l acc body:Sem (List (Str × Addr)))=pure cl∧(∀ x c,cl.lookup x=some c→env.cells.lookup x=some c)∧(∀ y∈l,y.2=.free→∃ c,cl.lookup y.1=some c)∧∀ x c,acc.lookup x=some c→∃ c',cl.lookup x=some c':=by
  intro body hb l
  induction l with
  | nil =>
   intro acc _ ha
   exact ⟨acc,rfl,ha,fun y hy=>(nomatch hy),fun x c e=>⟨c,e⟩⟩
  | cons p r ih =>
   intro acc hl ha
   obtain ⟨n,k⟩:=p
   have hr:∀ y∈r,y.2=.free→∃ c,env.cells.lookup y.1=some c:=fun y hy=>hl y (List.mem_cons_of_mem _ hy)
   by_cases hk:k=.free
   ·subst hk
    obtain ⟨c,hc⟩:=hl (n,.free) List.mem_cons_self rfl
    have ha':∀ x d,((n,c) :: acc).lookup x=some d→env.cells.lookup x=some d:=fun x d e=>by
     rw [List.lookup_cons] at e
     cases hx:x == n with
     | true =>
      rw [hx] at e
      have e1:c=d:=Option.some.inj e
      subst e1
      rw [eq_of_beq hx]
      exact hc
     | false =>
      rw [hx] at e
      exact ha x d e
    obtain ⟨cl,e1,e2,e3,e4⟩:=ih ((n,c) :: acc) hr ha'
    refine ⟨cl,?_,e2,fun y hy hf=>?_,fun x d e=>?_⟩
    ·rw [List.forIn_cons,hb,if_pos (by rfl)]
     have ec:cellOf env n=pure c:=by
      unfold cellOf
      rw [hc]
     rw [ec]
     exact e1
    ·rcases List.mem_cons.mp hy with e | hy
     ·subst e
      exact e4 n c (by rw [List.lookup_cons,beq_self_eq_true])
     ·exact e3 y hy hf
    ·cases hx:x == n with
     | true=>exact e4 x c (by rw [List.lookup_cons,hx])
     | false=>exact e4 x d (by rw [List.lookup_cons,hx]; exact e)
   ·obtain ⟨cl,e1,e2,e3,e4⟩:=ih acc hr ha
    refine ⟨cl,?_,e2,fun y hy hf=>?_,e4⟩
    ·have hk':(k == NameKind.free)=false:=by simpa using hk
     rw [List.forIn_cons,hb,hk',if_neg Bool.false_ne_true]
     exact e1
    ·rcases List.mem_cons.mp hy with e | hy
     ·subst e
      exact absurd hf hk
     ·exact e3 y hy hf
 obtain ⟨cl,e1,e2,e3,_⟩:=key (fun p acc=>if (p.2 == .free)=true then (cellOf env p.1 >>= fun c=>pure (ForInStep.yield ((p.1,c) :: acc))) else pure (ForInStep.yield acc)) (fun n k acc=>rfl) csc.names [] h (fun x c e=>by simp at e)
 refine ⟨cl,?_,e2,e3⟩
 have e4:closureFor csc env=(forIn csc.names [] (fun p acc=>if (p.2 == .free)=true then (cellOf env p.1 >>= fun c=>pure (ForInStep.yield ((p.1,c) :: acc))) else pure (ForInStep.yield acc)) >>= fun cs=>pure cs):=rfl
 rw [e4,e1]
 rfl
structure CompScope (sc:Scope) (N NB M:List Str) (csc:Scope):Prop where
 kind:csc.kind=.function
 nocell:∀ y∈csc.names,y.2≠.cell
 locs:∀ y∈csc.names,y.2=.local→csc.names.lookup y.1=some .local
 free:∀ y∈csc.names,y.2=.free→sc.names.lookup y.1=some .cell∨sc.names.lookup y.1=some .free
 nd:NB.Nodup
 len:NB.length=N.length+M.length
 old:∀ p∈N.zip NB,csc.names.lookup p.2≠some .local∧(csc.names.lookup p.2=none∨p.1=p.2)
theorem CompScope.at {sc:Scope} {N NB M:List Str} {csc:Scope} (S:CompScope sc N NB M csc) {i:Nat} {x:Str} (e:NB[i]?=some x) (hi:i < N.length):csc.names.lookup x≠some .local∧(csc.names.lookup x≠none→N[i]?=some x):=by
 have e1:N[i]?=some N[i]:=List.getElem?_eq_getElem hi
 have hm:(N[i],x)∈N.zip NB:=by
  apply List.mem_of_getElem? (i:=i)
  rw [List.getElem?_zip_eq_some]
  exact ⟨e1,e⟩
 obtain ⟨h1,h2⟩:=S.old _ hm
 refine ⟨h1,fun hn=>?_⟩
 rcases h2 with h2 | h2
 ·exact absurd h2 hn
 ·rw [e1]
  exact congrArg some h2
noncomputable def cxC (X:Cx) (NB:List Str) (csc:Scope) (cl:List (Str × Addr)) (C:Addr) (s₀:Shared) (H₀:Hp) (fp:List Addr) (pn:List (Addr × Obj)):Cx where
 prog:=X.prog
 w:=X.w
 K:=X.K
 mg:=X.mg
 base:=X.base
 A:=X.A
 N:=NB
 s₀:=s₀
 H₀:=H₀
 env:=compEnvC csc cl C X.env
 outer:=X.stack
 stack:=X.stack
 ex:=fp
 fn:=fun _=>false
 calm:=X.calm
 pn:=pn
 xe:=fun _ _=>False
section
variable {X:Cx} {pins:List (Addr × Obj)} {σ:St} {H₀:Hp} {s₀:Shared} {NB M:List Str} {csc:Scope} {cl:List (Str × Addr)} {fp:List Addr}
theorem comp_start {h₁:Heap} {tk:Nat} {m:Str→Option Value} (S:CompScope X.env.scope X.N NB M csc) (I:Inv X pins σ H₀ s₀) (hf:∀ b∈fp,FpOk X pins H₀ b) (hlt:∀ b∈fp,b < s₀.heap.objs.size)
  (c1:∀ x c,cl.lookup x=some c→X.env.cells.lookup x=some c) (c2:∀ y∈csc.names,y.2=.free→∃ c,cl.lookup y.1=some c)
  (hn:h₁.Ns s₀.heap.objs.size m) (hk:∀ b o,s₀.heap.get? b=some o→h₁.get? b=some o) :
  Inv (cxC X NB csc cl s₀.heap.objs.size s₀ H₀ fp (X.pn++pins)) [] (σ++List.replicate M.length none) H₀ { s₀ with heap:=h₁,toks:=tk }:=by
 have kindB:∀ x,((relabel csc X.env).names.lookup x=some .cell∨(relabel csc X.env).names.lookup x=some .free)→csc.names.lookup x=some .free:=fun x hx=>by
  rcases hx with hx | hx
  ·rcases lookup_relabel hx with z | ⟨z,_⟩
   ·exact absurd rfl (S.nocell _ (PySem.mem_of_lookup z))
   ·exact z
  ·rcases lookup_relabel hx with z | ⟨z,_⟩
   ·exact z
   ·exact z
 have hasC:∀ x,csc.names.lookup x=some .free→∃ c,cl.lookup x=some c:=fun x hx=>c2 (x,.free) (PySem.mem_of_lookup hx) rfl
 refine ⟨⟨I.ok.mod,S.kind,I.ok.glob,I.ok.blt,Nat.le_refl _,fun x y c h1 h2=>I.ok.inj x y c (c1 x c h1) (c1 y c h2),fun x hx=>hasC x (kindB x hx),fun x c h _=>absurd h Bool.false_ne_true,I.ok.hd,I.ok.frames,.inl rfl,
   fun b hb=>⟨Nat.ne_of_lt (hlt b hb),fun x c e=>(hf b hb).2.2.2.2.1 x c (c1 x c e)⟩,I.bs,Nat.le_trans I.ok.bsz I.sz,fun b o e hb=>?_,fun b hb z=>?_,I.stack,I.stkFree⟩,
  rfl,I.bare,Un.kept hk,⟨m,hn,fun i x v e1 e2 e3=>?_⟩,fun x c e=>?_,I.fresh,fun x c e=>I.freeC x c (c1 x c e),fun p hp=>?_,I.hok.kept hk,?_⟩
 ·rcases (hf b hb).2.2.2.1 with z | z
  ·exact I.ok.noex b o e z
  ·exact absurd (Nat.lt_of_lt_of_le (Heap.lt_size e) (Nat.le_trans I.ok.bsz z)) (Nat.lt_irrefl _)
 ·rcases List.mem_cons.mp (I.stkSub b z) with e | e
  ·exact (hf b hb).2.1 e
  ·exact (hf b hb).2.2.1 e
 ·have hlen:=I.len
  have hi:i < X.N.length:=by
   apply Classical.byContradiction
   intro hi
   rw [List.getElem?_append_right (by lia),List.getElem?_replicate] at e2
   split at e2 <;> cases e2
  have e2':σ[i]?=some (some v):=by
   rw [List.getElem?_append_left (by lia)] at e2
   exact e2
  obtain ⟨nl,hN⟩:=S.at e1 hi
  have hfree:csc.names.lookup x=some .free:=by
   rcases e3 with z | z
   ·rcases lookup_relabel (show (relabel csc X.env).names.lookup x=some .local from z) with q | ⟨_,q⟩
    ·exact absurd q nl
    ·cases q
   ·exact kindB x z
  have hN':=hN (by rw [hfree]; intro z; cases z)
  have ok:=S.free (x,.free) (PySem.mem_of_lookup hfree) rfl
  obtain ⟨m',hn',hl⟩:=I.loc
  obtain ⟨u,r,l⟩:=hl i x v hN' e2' (.inr ok)
  rcases l with ⟨k,_⟩ | ⟨_,c,hc,hcell⟩
  ·have k':X.env.scope.names.lookup x=some .local:=k
   rcases ok with z | z
   ·rw [show X.env.scope.names.lookup x=some .cell from z] at k'
    cases k'
   ·rw [show X.env.scope.names.lookup x=some .free from z] at k'
    cases k'
  ·obtain ⟨c',hc'⟩:=hasC x hfree
   have ec:c'=c:=by
    have:=c1 x c' hc'
    rw [hc] at this
    exact (Option.some.inj this).symm
   subst ec
   obtain ⟨o,ho,hd⟩:=hcell
   refine ⟨u,r,.inr ⟨?_,c',hc',o,hk _ _ ho,hd⟩⟩
   rcases e3 with z | z
   ·rcases lookup_relabel (show (relabel csc X.env).names.lookup x=some .local from z) with q | ⟨_,q⟩
    ·exact absurd q nl
    ·cases q
   ·exact z
 ·obtain ⟨v,o,ho,hd⟩:=I.cell x c (c1 x c e)
  exact ⟨v,o,hk _ _ ho,hd⟩
 ·have hp':p∈(X.pn++pins)++[]:=hp
  rw [List.append_nil] at hp'
  obtain ⟨e,n,ne,nf,d⟩:=I.pin p hp'
  exact ⟨hk _ _ e,n,Nat.ne_of_lt (Heap.lt_size e),fun z=>(List.mem_cons.mp (I.stkSub _ z)).elim ne nf,d⟩
 ·rw [List.length_append,List.length_replicate,I.len]
  exact S.len.symm
theorem comp_end {τ:St} {H:Hp} {s:Shared} {pins':List (Addr × Obj)} (I:Inv X pins σ H₀ s₀) (hf:∀ b∈fp,FpOk X pins H₀ b) (B:Inv (cxC X NB csc cl s₀.heap.objs.size s₀ H₀ fp (X.pn++pins)) pins' τ H s) :
  Inv X pins σ H s∧FpOk X pins H s₀.heap.objs.size :=
 ⟨I.call' (ch:=fp) B.os B.base B.hok B.bare fun b hb=>⟨(hf b hb).2.2.2.1,(hf b hb).2.1,(hf b hb).2.2.2.2.1,(hf b hb).2.2.2.2.2⟩,I.fpOk (Nat.le_refl _) B.free⟩
end
theorem codeAny_compLoop_own {prog:Program} {w:World} {A:Around} {R:Result→Shared→Prop} {s:Shared} {elt target iter:Expr} {ifs:List Expr} {scope:Scope} {pos:Pos} {it acc:Value} {env:Env} (I:Nat→Shared→Prop)
  (turn:∀ n s,I n s→wpAny (model prog w) A (pyNext it) (fun r s₁=>match r with
   | none=>R (.ok .next) s₁
   | some v=>wpAny (model prog w) A (letOwnedTupleGo target it v) (fun _ s₁'=>wpAny (model prog w) A (assign target env v) (fun _ s₂ =>
     wpAny (model prog w) A (forIn ifs true fun c r=>if r=true then do let ok ← isTrue c env (eval c env); pure (ForInStep.yield ok) else pure (ForInStep.yield r)) (fun ok s₃ =>
      if ok=true then wpAny (model prog w) A (eval elt env) (fun x s₄ =>
       wpAny (model prog w) A (call (.builtin "list.append") [acc,x]) (fun _ s₅=>∃ m,m < n∧I m s₅) (notedBy (model prog w) A env fun e s'=>R (.error e) s') s₄) (notedBy (model prog w) A env fun e s'=>R (.error e) s') s₃
      else ∃ m,m < n∧I m s₃) (notedBy (model prog w) A env fun e s'=>R (.error e) s') s₂) (notedBy (model prog w) A env fun e s'=>R (.error e) s') s₁') (notedBy (model prog w) A env fun e s'=>R (.error e) s') s₁)
    (notedBy (model prog w) A env fun e s'=>R (.error e) s') s)
  (n:Nat) (h:I n s):codeAny (model prog w) A (.compLoop (.ListComp elt [⟨target,iter,ifs,0⟩] scope pos) 0 it acc env) R s:=by
 refine codeAny_loop rfl I (fun n s hI=>?_) n h
 show wpAny _ A ((compTurn (.ListComp elt [⟨target,iter,ifs,0⟩] scope pos) 0 it acc env).onRaise (fun x=>do noteFrame x env; theTreesLotGoes x)) _ _ s
 refine wpAny_noted ?_
 rw [compTurn_list]
 refine wpAny_bind (wpAny_standAt (wpAny_bind (wpAny_mono (turn n s hI) (fun r s₁ h₁=>?_) fun _ _ h'=>h')))
 cases r with
 | none=>exact wpAny_pure h₁
 | some v =>
  refine wpAny_bind (wpAny_mono h₁ (fun _ s₁' h₁'=>?_) fun _ _ h'=>h')
  refine wpAny_bind (wpAny_mono h₁' (fun _ s₂ h₂=>wpAny_bind (wpAny_mono h₂ (fun ok s₃ h₃=>?_) fun _ _ h'=>h')) fun _ _ h'=>h')
  cases ok with
  | false=>exact wpAny_pure ⟨rfl,h₃⟩
  | true =>
   exact wpAny_bind (wpAny_bind (wpAny_mono h₃ (fun x s₄ h₄=>wpAny_bind (wpAny_mono h₄ (fun _ s₅ h₅=>wpAny_pure (wpAny_pure ⟨rfl,h₅⟩)) fun _ _ h'=>h')) fun _ _ h'=>h'))
noncomputable abbrev TF:=St→Hp→(Hp→Prop)→(Hp→Prop)→Prop
noncomputable def PF (X:Cx) (ifs:List Expr) (t:TF):Prop :=
 ∀ (pins:List (Addr × Obj)) (s:Shared) (σ:St) (H:Hp) (Y N:Hp→Prop),Inv X pins σ H s→t σ H Y N →
  wpAny (model X.prog X.w) X.A (forIn ifs true fun c r=>if r=true then do let ok ← isTrue c X.env (eval c X.env); pure (ForInStep.yield ok) else pure (ForInStep.yield r)) (fun b s'=>∃ H',Inv X pins σ H' s'∧if b=true then Y H' else N H') X.xe s
noncomputable def fNil:TF:=fun _ H Y _=>Y H
noncomputable def fOne (tc:TT):TF:=fun σ H Y N=>tc σ H fun b H1=>if b=true then Y H1 else N H1
theorem pif_nil {X:Cx}:PF X [] fNil:=fun _ _ _ H _ _ I h=>wpAny_tests_nil ⟨H,I,iteT h⟩
theorem pif_one {X:Cx} {c:Expr} {tc:TT} (hc:PT X c tc):PF X [c] (fOne tc):=fun pins s σ H _ _ I h =>
 wpAny_tests_one (thn (hc pins s σ H _ I h) fun _ _ ⟨H1,I1,q⟩=>⟨H1,I1,q⟩)
noncomputable def tComp (wi:TI) (g:TG) (ti:TF) (te:TE) (k:Nat):TE:=fun σ H Q=>wi σ H fun J H1=>∀ p,H1 p=none→∃ W:Nat→Nat→St→List V→Hp→Prop,(∃ m,W 0 m (σ++List.replicate k none) [] (upd H1 p (.lst [])))∧∀ i m τ xs H,W i m τ xs H →
 (J.stop i H∧Q (.ref p) H)∨(J.go i H∧∀ x H',J.yld i H x H'→g x τ H' fun τ2 H2=>ti τ2 H2 (fun H3=>te τ2 H3 fun v H4=>H4 p=some (.lst xs)∧xs.length < sizeLine∧∃ m',m' < m∧W (i+1) m' τ2 (xs++[v]) (upd H4 p (.lst (xs++[v]))))
  (fun H3=>∃ m',m' < m∧W (i+1) m' τ2 xs H3))
noncomputable def PCp (X:Cx) (e:Expr) (t:TE):Prop:=∃ elt tg iter ifs csc pos,e=.ListComp elt [⟨tg,iter,ifs,0⟩] csc pos ∧
 ∀ (ppos:Pos) (use:Option (Value→Sem Unit)) (R:Value→Shared→Prop) (pins:List (Addr × Obj)) (s:Shared) (σ:St) (H:Hp) (Q:VK),Inv X pins σ H s→t σ H Q →
  (∀ (D C:Addr) (s':Shared) (H':Hp),Inv X pins σ H' s'→FpOk X pins H' C→(∃ m,s'.heap.Ns C m)→Q (.ref D) H'→compPost (model X.prog X.w) X.A X.xe use R (.ref D) C (.ok .next) s') →
  wpAny (model X.prog X.w) X.A (comprehension (.ListComp elt [⟨tg,iter,ifs,0⟩] csc pos) csc X.env ppos (newList []) false (eval iter X.env) use) R X.xe s
section
variable {X:Cx}
theorem pc_comp {tg iter elt:Expr} {ifs:List Expr} {csc:Scope} {pos:Pos} {NB M:List Str} {wi:TI} {g:TG} {ti:TF} {te:TE} (hi:PI X tg iter wi) (hc:X.calm=true) (S:CompScope X.env.scope X.N NB M csc)
  (hg:∀ cl C s₀ H₀ fp pn,PG (cxC X NB csc cl C s₀ H₀ fp pn) tg g) (hf:∀ cl C s₀ H₀ fp pn,PF (cxC X NB csc cl C s₀ H₀ fp pn) ifs ti) (he:∀ cl C s₀ H₀ fp pn,PE (cxC X NB csc cl C s₀ H₀ fp pn) elt te)
  (hs:∀ x,foldedSetIterable iter X.env x=pure x:=by intro _; rfl):PCp X (.ListComp elt [⟨tg,iter,ifs,0⟩] csc pos) (tComp wi g ti te M.length):=by
 refine ⟨elt,tg,iter,ifs,csc,pos,rfl,fun ppos use R pins s σ H Q I h fin=>?_⟩
 have hcell:∀ y∈csc.names,y.2=.free→∃ c,X.env.cells.lookup y.1=some c:=fun y hy hfr=>I.ok.has y.1 (S.free y hy hfr)
 obtain ⟨cl,hcl,c1,c2⟩:=closure_of hcell
 refine wpAny_comprehension_free rfl hs hcl S.kind S.locs ?_
 refine thn (hi pins s σ H _ I h) fun v s1 h1=>thn h1 fun itv s2 h2=>?_
 obtain ⟨it,fp,tn,J,H2,e,I2,T,st2,f2,h2⟩:=h2
 subst e
 have hlt2:∀ b∈fp,b < s2.heap.objs.size:=fun b hb=>let ⟨_,e,_⟩:=T.obj _ _ st2 b hb; Heap.lt_size e
 refine wpAny_newObj_type (wpAny_newFunctionEnv S.nocell (by intro y hy; simp at hy) (fun h₁ hns₁ hsb₁=>?_) S.kind)
 dsimp only at hns₁ hsb₁ ⊢
 have I0:Inv X pins σ (upd H2 s2.heap.objs.size (.lst [])) { s2 with heap:=s2.heap.push { cls:=.type "list",dict:=none,data:=.seq ([]:List Value).toArray } }:=I2.lnew (its:=[]) (t':=s2.toks) .nil (Nat.zero_le _)
 generalize hs0:({ s2 with heap:=s2.heap.push { cls:=.type "list",dict:=none,data:=.seq ([]:List Value).toArray } }:Shared)=s₀ at I0
 have hh:s2.heap.push { cls:=.type "list",dict:=none,data:=.seq ([]:List Value).toArray }=s₀.heap:=by rw [← hs0]
 rw [hh] at hns₁ hsb₁ ⊢
 have hsz:s2.heap.objs.size < s₀.heap.objs.size:=by rw [← hh,Heap.size_push]; exact Nat.lt_succ_self _
 have hDn:H2 s2.heap.objs.size=none:=I2.fresh
 have f0:∀ b∈fp,FpOk X pins (upd H2 s2.heap.objs.size (.lst [])) b:=fun b hb=>⟨by rw [upd_ne (Nat.ne_of_lt (hlt2 b hb))]; exact (f2 b hb).1,(f2 b hb).2⟩
 have hlt:∀ b∈fp,b < s₀.heap.objs.size:=fun b hb=>Nat.lt_trans (hlt2 b hb) hsz
 have hk:∀ b o,s₀.heap.get? b=some o→h₁.get? b=some o:=fun b o e=>hsb₁.extBut b o (Nat.ne_of_lt (Heap.lt_size e)) (Heap.get?_push_of_some _ e)
 have hk2:∀ b o,s2.heap.get? b=some o→h₁.get? b=some o:=fun b o e=>hk b o (by rw [← hh]; exact Heap.get?_push_of_some _ e)
 have st1:tn 0 h₁:=T.keep _ _ _ st2 fun b _ o e=>hk2 b o e
 obtain ⟨W,⟨m0,w0⟩,turn⟩:=h2 s2.heap.objs.size hDn
 have loop:∀ s₃:Shared,s₃={ s₀ with heap:=h₁,toks:=s2.toks+([]:List (Str × Value)).length } →
   codeAny (model X.prog X.w) X.A (.compLoop (.ListComp elt [⟨tg,iter,ifs,0⟩] csc pos) 0 (.ref it) (.ref s2.heap.objs.size) (compEnvC csc cl s₀.heap.objs.size X.env))
    (compPost (model X.prog X.w) X.A X.xe use R (.ref s2.heap.objs.size) s₀.heap.objs.size) s₃:=by
  rintro s₃ rfl
  have B0:=comp_start (cl:=cl) (tk:=s2.toks+([]:List (Str × Value)).length) S I0 f0 hlt c1 c2 hns₁ hk
  have fpB:∀ {H':Hp},(∀ b∈fp,H' b=none)→∀ b∈fp,FpOk (cxC X NB csc cl s₀.heap.objs.size s₀ (upd H2 s2.heap.objs.size (.lst [])) fp (X.pn++pins)) [] H' b:=fun {H'} hn b hb =>
   ⟨hn b hb,Nat.ne_of_lt (hlt b hb),B0.ok.exfs b hb,.inl hb,fun x c e=>(f0 b hb).2.2.2.2.1 x c (c1 x c e),fun p hp=>(f0 b hb).2.2.2.2.2 p (by
    have hp':p∈(X.pn++pins)++[]:=hp
    rw [List.append_nil] at hp'
    exact hp')⟩
  refine codeAny_compLoop_own (fun n s'=>∃ i τ xs H',Inv (cxC X NB csc cl s₀.heap.objs.size s₀ (upd H2 s2.heap.objs.size (.lst [])) fp (X.pn++pins)) [] τ H' s'∧tn i s'.heap∧(∀ b∈fp,H' b=none)∧W i n τ xs H') ?_ m0
   ⟨0,_,[],_,B0,st1,fun b hb=>(f0 b hb).1,w0⟩
  rintro n s3 ⟨i,τ,xs,H3,I3,st3,fr3,w3⟩
  rcases turn i n τ xs H3 w3 with ⟨stop,q⟩ | ⟨go,step⟩
  ·refine thn (T.done (cxC X NB csc cl s₀.heap.objs.size s₀ (upd H2 s2.heap.objs.size (.lst [])) fp (X.pn++pins)) rfl rfl rfl hc i [] s3 τ H3 _ I3 (fpB fr3) st3 stop) fun r s4 ⟨hr,I4⟩=>?_
   subst hr
   obtain ⟨IX,fpC⟩:=comp_end I0 f0 I4
   exact fin _ _ s4 H3 IX fpC (let ⟨m,hn,_⟩:=I4.loc; ⟨m,hn⟩) q
  ·refine thn (T.item (cxC X NB csc cl s₀.heap.objs.size s₀ (upd H2 s2.heap.objs.size (.lst [])) fp (X.pn++pins)) rfl rfl rfl hc i [] s3 τ H3 _ I3 (fpB fr3) st3 go) fun r s4 ⟨u,hr,h4⟩=>?_
   subst hr
   refine thn h4 fun _ s5 ⟨x,H5,I5,r5,y5,st5,fr5⟩=>?_
   have I5':=I5.pinned (fpB fr5) (T.obj _ _ st5)
   refine wpAny_mono (hg _ _ _ _ _ _ _ s5 τ H5 x u _ I5' r5 (step x H5 y5)) (fun _ s6 ⟨τ6,H6,I6,q6⟩=>?_) fun _ _ z=>False.elim z
   refine wpAny_mono (hf _ _ _ _ _ _ _ s6 τ6 H6 _ _ I6 q6) (fun b s7 ⟨H7,I7,q7⟩=>?_) fun _ _ z=>False.elim z
   have again:∀ {τ7:St} {H7:Hp} {s7:Shared} {ys:List V},Inv (cxC X NB csc cl s₀.heap.objs.size s₀ (upd H2 s2.heap.objs.size (.lst [])) fp (X.pn++pins)) ([]++pinsAt fp s5.heap) τ7 H7 s7→(∃ m',m' < n∧W (i+1) m' τ7 ys H7) →
     ∃ m,m < n∧∃ i τ xs H',Inv (cxC X NB csc cl s₀.heap.objs.size s₀ (upd H2 s2.heap.objs.size (.lst [])) fp (X.pn++pins)) [] τ H' s7∧tn i s7.heap∧(∀ b∈fp,H' b=none)∧W i m τ xs H':=fun {τ7 H7 s7 ys} I7 w7=>by
    obtain ⟨m',hm,w7⟩:=w7
    refine ⟨m',hm,i+1,τ7,ys,H7,I7.unpinned,T.keep _ _ _ st5 fun b hb o e=>(I7.pin (b,o) (List.mem_append_right _ (List.mem_append_right _ (mem_pinsAt hb e)))).1,fun b hb=>?_,w7⟩
    obtain ⟨o,e,d⟩:=T.obj _ _ st5 b hb
    exact (I7.pin (b,o) (List.mem_append_right _ (List.mem_append_right _ (mem_pinsAt hb e)))).2.1
   cases b with
   | false=>exact again I7 q7
   | true =>
    have q7':te τ6 H7 _:=q7
    refine wpAny_mono (he _ _ _ _ _ _ _ s7 τ6 H7 _ I7 q7') (fun y s8 ⟨v8,H8,I8,r8,hl8,hz8,w8⟩=>?_) fun _ _ z=>False.elim z
    refine wpAny_mono (mt_append (X:=(cxC X NB csc cl s₀.heap.objs.size s₀ (upd H2 s2.heap.objs.size (.lst [])) fp (X.pn++pins))) _ s8 τ6 H8 (.ref s2.heap.objs.size) [v8] (.ref s2.heap.objs.size) [y] (fun _ H9=>H9=upd H8 s2.heap.objs.size (.lst (xs++[v8]))) I8 rfl (.cons r8 .nil) ⟨_,xs,v8,rfl,rfl,hl8,hz8,rfl⟩) (fun _ s9 ⟨_,H9,I9,_,e9⟩=>?_) fun _ _ z=>False.elim z
    subst e9
    exact again I9 w8
 exact codeAny_compStart_list (loop _ (by rw [← hs0])) (T.self _ _ _ _ _ st1 (loop _ (by rw [← hs0])))
theorem PCp.pe {e:Expr} {t:TE} (h:PCp X e t):PE X e t:=by
 obtain ⟨elt,tg,iter,ifs,csc,pos,rfl,h⟩:=h
 intro pins s σ H Q I hw
 rw [eval_ListComp]
 refine h _ none (EP X pins σ Q) pins s σ H Q I hw fun D C s' H' IX fpC ⟨m,hn⟩ q=>⟨m,hn,fun h' hs=>?_⟩
 exact ⟨.ref D,H',IX.turned (t':=s'.toks) (fun b o hb e=>(hs.2 b hb).trans e) fpC.1 fpC.2.1 fpC.2.2.2.1 fpC.2.2.2.2.1 fpC.2.2.2.2.2,rfl,q⟩
end
end L2
namespace L2
open PySem PySem.Spec PyProof.Rows
structure QE (X:Cx) (e:Expr) (t:TE):Prop where
 u:PE X e t
structure QT (X:Cx) (e:Expr) (t:TT):Prop where
 u:PT X e t
structure QW (X:Cx) (e:Expr) (t:TT):Prop where
 u:PW X e t
structure QA (X:Cx) (es:List Expr) (t:TA):Prop where
 u:PA X es t
structure QS (X:Cx) (st:Stmt) (t:TS):Prop where
 u:PS X st t
structure QSs (X:Cx) (st:List Stmt) (t:TS):Prop where
 u:PSs X st t
structure QI (X:Cx) (tg iter:Expr) (t:TI):Prop where
 u:PI X tg iter t
structure QG (X:Cx) (tg:Expr) (t:TG):Prop where
 u:PG X tg t
structure QGs (X:Cx) (ts:List Expr) (t:TGs):Prop where
 u:PGs X ts t
structure QO (X:Cx) (e:Option Expr) (t:TO):Prop where
 u:PO X e t
structure QF (X:Cx) (ifs:List Expr) (t:TF):Prop where
 u:PF X ifs t
structure QC (X:Cx) (e:Expr) (t:TE):Prop where
 u:PCp X e t
section
variable {X:Cx} {st:Stmt} {rest:List Stmt} {t u:TS} {a b c e o i:Expr} {ta tb tc te to ti:TE} {es:List Expr} {tA:TA} {tT tU:TT} {pos pos' p p2 apos cpos:Pos} {x name:Str} {n:Nat}
theorem qss_nil:QSs X [] tNext:=⟨pss_nil⟩
theorem qss_one (h:QS X st t):QSs X [st] t:=⟨pss_one h.u⟩
theorem qss_cons (h:QS X st t) (r:QSs X rest u):QSs X (st :: rest) (tSeq t u):=⟨pss_cons h.u r.u⟩
theorem qs_expr (h:QE X e te) (hs:swapsWith e none pos.line X.env=pure false:=by rfl):QS X (.Expr e pos) (tDrop te):=⟨ps_expr h.u hs⟩
theorem qs_ret (h:QE X e te):QS X (.Return (some e) pos) (tRet te):=⟨ps_ret h.u⟩
theorem qs_if {a b:List Stmt} (hc:QT X c tT) (ha:QSs X a t) (hb:QSs X b u):QS X (.If c a b pos) (tIfS tT t u):=⟨ps_if hc.u ha.u hb.u⟩
theorem qs_set {i:Nat} (hN:X.N.Nodup) (hi:X.N[i]?=some x) (hx:Loc X.env.scope x) (h:QE X e te) (hs:swapsWith e (some (.Name x pos')) pos.line X.env=pure false:=by rfl)
  (hf:X.fn x=true∨X.env.scope.names.lookup x=some .local:=by first | exact .inl rfl | exact .inr rfl | assumption):QS X (.Assign [.Name x pos'] e pos) (tAsg te (gName i)):=⟨ps_set hN hi hx h.u hs hf⟩
theorem qs_asg {tg:Expr} {g:TG} (h:QE X e te) (hg:QG X tg g) (hs:swapsWithSole [tg] e pos.line X.env=pure false:=by rfl) (hw:swappedStores [tg] e X.env=pure none:=by rfl)
  (h1:(assignEach [tg] X.env).map (·.2)=[assign tg X.env]:=by rfl):QS X (.Assign [tg] e pos) (tAsg te g):=⟨ps_asg h.u hg.u hs hw h1⟩
theorem qs_for {tg iter:Expr} {body:List Stmt} {wi:TI} {g:TG} (hp:PassesOwn (model X.prog X.w) X.A X.env X.xe) (hc:X.calm=true) (hi:QI X tg iter wi) (hg:QG X tg g) (hb:QSs X body t)
  (hs:∀ x,foldedSetIterable iter X.env x=pure x:=by intro _; rfl):QS X (.For tg iter body [] pos) (tFor wi g t):=⟨ps_for hp hc hi.u hg.u hb.u hs⟩
theorem qe_int {k:Int} {j:Nat}:QE X (.Constant (.int k) j pos) (tC (.int k)):=⟨pe_int⟩
theorem qe_bl {k:Bool} {j:Nat}:QE X (.Constant (.bool k) j pos) (tC (.bl k)):=⟨pe_bl⟩
theorem qe_non {j:Nat}:QE X (.Constant .none j pos) (tC .non):=⟨pe_non⟩
theorem qe_str {z:Str} {j:Nat}:QE X (.Constant (.str z) j pos) (tC (.str z)):=⟨pe_str⟩
theorem qv (i:Nat) (hN:X.N[i]?=some x:=by rfl) (hv:Vis X.env.scope x:=by first | exact Or.inl rfl | exact Or.inr (Or.inl rfl) | exact Or.inr (Or.inr rfl)) (hd:(x == ("__debug__" : Str))=false:=by decide)
  (hcd:(x == ("__classdict__" : Str))=false:=by decide):QE X (.Name x pos) (tVar i):=⟨pe_var hN hv hd hcd⟩
theorem qe_bltn {v:V} {w:Value} (hg:Gl X x) (hm:X.mg x=none) (hv:bootBuiltins x=some w) (r:RelV v w) (hn:x≠"__name__" := by decide) (hd:(x == ("__debug__" : Str))=false:=by decide):QE X (.Name x pos) (tC v):=⟨pe_bltn hg hm hv r hn hd⟩
theorem qe_op {op:Operator} {r:R2} (ho:OpR X (binaryOp op) r) (ha:QE X a ta) (hb:QE X b tb):QE X (.BinOp a op b pos) (tOp r ta tb):=⟨pe_op ho ha.u hb.u⟩
theorem qe_un {op:UnaryOp} {r:V→Hp→VK→Prop} (ho:UnR X (unaryOp op) r) (ha:QE X a ta):QE X (.UnaryOp op a pos) (tUn r ta):=⟨pe_un ho ha.u⟩
theorem qe_cmpR {op:CmpOp} {r:R2} (ho:OpR X (compareOp op) r) (ha:QE X a ta) (hb:QE X b tb) (hm:behindInMarks op b=false):QE X (.Compare a [op] [b] pos) (tOp r ta tb):=⟨pe_cmpR ho ha.u hb.u hm⟩
theorem qe_one {op:BoolOp} (h:QE X a ta):QE X (.BoolOp op [a] pos) ta:=⟨pe_one h.u⟩
theorem qe_and (ha:QE X a ta) (hb:QE X (.BoolOp .And (b :: es) pos) tb):QE X (.BoolOp .And (a :: b :: es) pos) (tAndV ta tb):=⟨pe_and ha.u hb.u⟩
theorem qe_or (ha:QE X a ta) (hb:QE X (.BoolOp .Or (b :: es) pos) tb):QE X (.BoolOp .Or (a :: b :: es) pos) (tOrV ta tb):=⟨pe_or ha.u hb.u⟩
theorem qe_tup {k:Nat} (h:QA X es tA):QE X (.Tuple es k pos) (tTup tA):=⟨pe_tup h.u⟩
theorem qe_lst (h:QA X es tA):QE X (.List es pos) (tLst tA):=⟨pe_lst h.u⟩
theorem qe_slice {lo hi:Option Expr} {tl th:TO} {r:V→Option Int→Option Int→Hp→VK→Prop} (hr:SlR X r) (he:QE X e te) (hl:QO X lo tl) (hu:QO X hi th):QE X (.Subscript e (.Slice lo hi none p2) pos) (tSl r te tl th):=⟨pe_slice hr he.u hl.u hu.u⟩
theorem qe_ix {r:R2} (hr:IxR X r) (ha:QE X a ta) (hb:QE X b tb) (hs:PlainIx b):QE X (.Subscript a b pos) (tOp r ta tb):=⟨pe_ix hr ha.u hb.u hs⟩
theorem qo_none:QO X none tNoPart:=⟨po_none⟩
theorem qo_some (h:QE X e te):QO X (some e) (tPart te):=⟨po_some h.u⟩
theorem qa_nil:QA X [] tNil:=⟨pa_nil⟩
theorem qac (ha:QE X e te) (hr:QA X es tA) (hs:plainE e=true:=by rfl):QA X (e :: es) (tCons te tA):=⟨pac ha.u hr.u hs⟩
theorem qe_cal {k:Nat} {ps:List Str} {sp:Sp} (C:Cal X.prog X.w X.K X.mg X.base k x ps sp) (hr:Room k X.A) (hg:Gl X x) (ha:QA X (e :: es) tA) (hp:(e :: es).all plainE=true:=by rfl) (hdb:(x == ("__debug__" : Str))=false:=by decide) :
  QE X (.Call (.Name x p) (e :: es) [] pos) (tCall sp [] E0 tA):=⟨pe_cal C hr hg ha.u hp hdb⟩
theorem qcb {id:String} {r:List V→Hp→VK→Prop} (hc:CallR X (.builtin id) r) (hg:Gl X x) (hm:X.mg x=none) (hv:bootBuiltins x=some (.builtin id)) (ha:QA X (e :: es) tA) (hp:(e :: es).all plainE=true:=by rfl) (hn:x≠"__name__" := by decide)
  (hdb:(x == ("__debug__" : Str))=false:=by decide):QE X (.Call (.Name x p) (e :: es) [] pos) (tCB r tA):=⟨pcb hc hg hm hv ha.u hp hn hdb⟩
theorem qct {T:String} {r:List V→Hp→VK→Prop} (hc:CallR X (.type T) r) (hg:Gl X x) (hm:X.mg x=none) (hv:bootBuiltins x=some (.type T)) (ha:QA X (e :: es) tA) (hp:(e :: es).all plainE=true:=by rfl) (hn:x≠"__name__" := by decide)
  (hdb:(x == ("__debug__" : Str))=false:=by decide):QE X (.Call (.Name x p) (e :: es) [] pos) (tCB r tA):=⟨pct hc hg hm hv ha.u hp hn hdb⟩
theorem qbm {T id:String} {r:V→List V→Hp→VK→Prop} (pa:PlainAttrs T) (slot:Slot T name id) (hty:typeOf (.builtin id)=pure (.type "method_descriptor")) (hm:MtR X id r) (ho:QE X o to) (ha:QA X (e :: es) tA) (hp:(e :: es).all plainE=true:=by rfl)
  (hfew:decide ((e :: es).length < 30)=true:=by rfl) (hbase:attributeBase o name X.env (eval o X.env)=eval o X.env:=by rfl) (hline:(apos.endLine == cpos.line)=true:=by rfl) :
  QE X (.Call (.Attribute o name apos) (e :: es) [] cpos) (tBM X.K T r to tA):=⟨pbm pa slot hty hm ho.u ha.u hp hfew hbase hline⟩
theorem qt_cmpR {op:CmpOp} {r:R2} (ho:OpR X (compareOp op) r) (ha:QE X a ta) (hb:QE X b tb) (hm:behindInMarks op b=false):QT X (.Compare a [op] [b] pos) (tTest (tOp r ta tb)):=⟨pt_cmpR ho ha.u hb.u hm⟩
theorem qt_not (h:QT X a tT):QT X (.UnaryOp .Not a pos) (tNot tT):=⟨pt_not h.u⟩
theorem qt_val (h:QE X e te) (he:∀ whole,isTrue e X.env whole=(do let v ← whole; standAt e.pos; holding [v] (truthy v)):=by intro _; rfl):QT X e (tB te):=⟨pt_val h.u he⟩
theorem qw_and1 (h:QT X a tT):QW X (.BoolOp .And [a] pos) tT:=⟨pw_and1 h.u⟩
theorem qw_or1 (h:QT X a tT):QW X (.BoolOp .Or [a] pos) tT:=⟨pw_or1 h.u⟩
theorem qw_and (ha:QT X a tT) (hb:QW X (.BoolOp .And (b :: es) pos) tU):QW X (.BoolOp .And (a :: b :: es) pos) (tAnd tT tU):=⟨pw_and ha.u hb.u⟩
theorem qw_or (ha:QT X a tT) (hb:QW X (.BoolOp .Or (b :: es) pos) tU):QW X (.BoolOp .Or (a :: b :: es) pos) (tOr tT tU):=⟨pw_or ha.u hb.u⟩
theorem qw_t (h:QW X e tT):QT X e tT:=⟨h.u.pt⟩
theorem qrng1 {tg:Expr} (hg:Gl X "range") (hm:X.mg "range" = none) (ha:QA X [a] tA) (hp:plainE a=true:=by rfl):QI X tg (.Call (.Name "range" p) [a] [] pos) (iRng1 tA):=⟨prng1 hg hm ha.u hp⟩
theorem qg_name {i:Nat} (hN:X.N.Nodup) (hi:X.N[i]?=some x) (hx:Loc X.env.scope x) (hf:X.fn x=true∨X.env.scope.names.lookup x=some .local:=by first | exact .inl rfl | exact .inr rfl | assumption):QG X (.Name x pos) (gName i):=⟨pg_name hN hi hx hf⟩
theorem qgs_nil:QGs X [] gNil:=⟨pgs_nil⟩
theorem qgs_cons {g:TG} {gs:TGs} (h1:QG X e g) (h2:QGs X es gs) (hs:(assignEach (e :: es) X.env).map (·.2)=assign e X.env :: (assignEach es X.env).map (·.2):=by rfl):QGs X (e :: es) (gCons g gs):=⟨pgs_cons h1.u h2.u hs⟩
theorem qg_tup {k:Nat} {gs:TGs} {n:Nat} (hc:X.calm=true) (h:QGs X es gs) (hn:(assignEach es X.env).length=n:=by rfl) (hst:(assignEach es X.env).findIdx? (·.1)=none:=by rfl):QG X (.Tuple es k pos) (gTup X.K n gs):=⟨pg_tup hc h.u hn hst⟩
theorem qif_nil:QF X [] fNil:=⟨pif_nil⟩
theorem qif_one (h:QT X c tT):QF X [c] (fOne tT):=⟨pif_one h.u⟩
theorem qc_comp {tg iter elt:Expr} {ifs:List Expr} {csc:Scope} {NB M:List Str} {wi:TI} {g:TG} {ti:TF} (hi:QI X tg iter wi) (hc:X.calm=true) (S:CompScope X.env.scope X.N NB M csc)
  (hg:∀ cl C s₀ H₀ fp pn,QG (cxC X NB csc cl C s₀ H₀ fp pn) tg g) (hf:∀ cl C s₀ H₀ fp pn,QF (cxC X NB csc cl C s₀ H₀ fp pn) ifs ti) (he:∀ cl C s₀ H₀ fp pn,QE (cxC X NB csc cl C s₀ H₀ fp pn) elt te)
  (hs:∀ x,foldedSetIterable iter X.env x=pure x:=by intro _; rfl):QC X (.ListComp elt [⟨tg,iter,ifs,0⟩] csc pos) (tComp wi g ti te M.length) :=
 ⟨pc_comp hi.u hc S (fun cl C s₀ H₀ fp pn=>(hg cl C s₀ H₀ fp pn).u) (fun cl C s₀ H₀ fp pn=>(hf cl C s₀ H₀ fp pn).u) (fun cl C s₀ H₀ fp pn=>(he cl C s₀ H₀ fp pn).u) hs⟩
theorem qc_e (h:QC X e te):QE X e te:=⟨h.u.pe⟩
end
theorem Fun.okQ {P:Program} {w:World} {K:PySem.W.Frag} {mg:Str→Option Value} {base:Heap} {x qual:Str} {st:Stmt} {f:Addr} {fd:FuncData} {N ps:List Str} {k:Nat} {sp:Sp} (F:Fun K x qual st f fd) (S:FnScope N ps (defScope st)) (len:∀ vs H Q E,sp vs H Q E→vs.length=ps.length)
  (hbody:∀ (cdv:Value) (A:Around) (outer:List Env) (s:Shared) (H:Hp) (vs:List V) (Q:VK) (E:XK),Room k (A.deeper (envOfC qual (defScope st) s.heap.objs.size f cdv))→sp vs H Q E →
   ∃ t,QSs (cxOf CX0 P w K mg base N qual (defScope st) f cdv A outer s H E).nox (defBody st) t∧t { nx:=fun _ H'=>Q .non H',rt:=Q } (start N vs) H):FnOk P w K mg base CX0 (k+1) f fd ps sp :=
 F.ok S len fun cdv A outer s H vs Q E hr hsp=>let ⟨t,h,q⟩:=hbody cdv A outer s H vs Q E hr hsp; ⟨t,h.u,q⟩
end L2
namespace L2
open PySem PySem.Spec PyProof.Rows
noncomputable def FlT (h:Heap) (a:Addr) (C:Value) (T:Addr) (fl:Value):Prop :=
 ∃ oa vs oT ts,h.get? a=some oa∧(oa.cls=C∧oa.dict=none)∧oa.data=.fields vs∧vs[1]?=some (.ref T)∧T≠a∧h.get? T=some oT∧oT.data=.fields ts∧ts[3]?=some fl
structure Nk (fs ch:List Addr) (h g:Heap):Prop where
 keep:∀ b o,b∉fs→b∉ch→h.get? b=some o→g.get? b=some o
 slot:∀ b o,b∈fs→b∉ch→h.get? b=some o→∃ sl,g.get? b=some { o with slots:=sl }
 there:∀ b o,h.get? b=some o→∃ u,g.get? b=some u
section
variable {M:Model} {A:Around} {E:Value→Shared→Prop} {s:Shared} {base:Heap} {env:Env} {outer:List Env} {L a T:Addr} {C:Value}
end
section
variable {X:Cx} {pins:List (Addr × Obj)} {σ:St} {H:Hp} {s:Shared} {a:Addr} {ts:List Addr} {C:Addr}
noncomputable def FpN (X:Cx) (pins:List (Addr × Obj)) (H:Hp) (b:Addr):Prop :=
 H b=none∧b≠X.env.locals∧b∉X.fs∧X.s₀.heap.get? b=none∧(∀ x c,X.env.cells.lookup x=some c→c≠b)∧∀ p∈X.pn++pins,p.1≠b
end
noncomputable def CXR (P:Program) (w:World):CXT:=fun outer H s E e s'=>∃ a C H' T,e=.ref a∧s'.os=s.os∧AllBare s'.gens∧Un (frs outer) [] H H' s.heap s'.heap∧HOk P w H' s'.heap∧FlT s'.heap a (.ref C) T .none ∧
 s.heap.get? a=none∧s.heap.get? T=none∧H' a=none∧H' T=none∧E (.ref C) none H'
section
variable {P:Program} {w:World} {K:PySem.W.Frag} {mg:Str→Option Value} {base:Heap}
end
inductive CalX (P:Program) (w:World) (K:PySem.W.Frag) (mg:Str→Option Value) (base:Heap) (k:Nat) (x:Str) (ps:List Str) (sp:Sp):Prop where
 | mk {f:Addr} {fd:FuncData} (F:FnOk P w K mg base (CXR P w) k f fd ps sp) (hm:mg x=some (.ref f)) (hk:PySem.W.keepIn K (.ref f)=true) (hb:Binds K fd ps [])
section
variable {X:Cx} {k:Nat} {ps:List Str} {sp:Sp} {x:Str} {p pos:Pos} {e:Expr} {es:List Expr} {t:TA} {EX:St→XK}
end
section
variable {X:Cx} {pins:List (Addr × Obj)} {σ:St} {H:Hp} {s:Shared}
end
section
variable {X:Cx} {pins pins':List (Addr × Obj)} {σ:St} {H:Hp} {s:Shared} {E:Value→Shared→Prop} {e:Value}
end
noncomputable abbrev TH:=Value→TS
noncomputable def PH (X:Cx) (hs:List ExceptHandler) (th:TH):Prop :=
 ∀ (pins:List (Addr × Obj)) (s:Shared) (σ:St) (H:Hp) (D:Ends) (a C U:Addr),Inv X pins σ H s→FlT s.heap a (.ref C) U .none→FpN X pins H a→FpN X pins H U→th (.ref C) D σ H →
  wpAny (model X.prog X.w) X.A (handleBy (.ref a) X.env hs) (SP X pins D) X.xe s
structure QH (X:Cx) (hs:List ExceptHandler) (th:TH):Prop where
 u:PH X hs th
section
variable {X:Cx} {x:Str} {c:Value} {t:TS} {th:TH} {np pos:Pos} {b0:Stmt} {suite body:List Stmt} {rest:List ExceptHandler}
end
noncomputable def excO (a C:Addr):HO:=.ext fun h=>∃ o,h.get? a=some o∧(o.cls=.ref C∧o.dict=none)∧PySem.W.notCls o=true
section
variable {X:Cx} {pins:List (Addr × Obj)} {σ:St} {H:Hp} {s:Shared} {a C:Addr}
end
section
variable {X:Cx} {x n:Str} {i:Nat} {c:Value} {t:TS} {th:TH} {np pos:Pos} {b0:Stmt} {suite body:List Stmt} {rest:List ExceptHandler}
end
open PySem.W
structure ExcK (K:Frag) (C:Addr):Prop where
 ga:findIn K (.ref C) "__getattribute__" = some (some (.builtin "BaseException.__getattribute__"))
 gn:findIn K (.ref C) "__getattr__" = some none
 gc:findIn K (.ref C) "__class__" = some (some (.builtin "object.__class__"))
 mo:mroIn K C (.type "object")=some true
 mb:mroIn K C (.type "BaseException")=some true
 hd:hasDictIn K C=true
section
variable {prog:Program} {w:World} {A:Around} {E:Value→Shared→Prop} {h:Heap} {g:Array GenState} {d:Drawn} {t:Nat} {os:OsState} {K:Frag} {a C:Addr} {o:Obj}
end
section
variable {X:Cx}
end
structure RoomH (k:Nat) (A:Around):Prop where
 dp:A.depth+3 * k+5 < recursionLimit
 un:A.units+16 * k+200 < cLine
structure FnOkH (P:Program) (w:World) (K:Frag) (mg:Str→Option Value) (base:Heap) (CX:CXT) (k:Nat) (f:Addr) (fd:FuncData) (ps:List Str) (sp:Sp):Prop where
 len:∀ vs H Q E,sp vs H Q E→vs.length=ps.length
 run:∀ (A:Around) (outer:List Env) (s:Shared) (H:Hp) (args:Args) (us:List Value) (vs:List V) (Q:VK) (E:XK),RoomH k A→Env0 P w K mg base A outer s H→BindsTo s fd args (ps.zip us)→Vals vs us→sp vs H Q E →
  codeAny (model P w) A (.call (.ref f) args) (CR CX outer P w H s Q E) s
section
variable {P:Program} {w:World} {K:Frag} {mg:Str→Option Value} {base:Heap} {CX:CXT} {k:Nat} {f:Addr}
end
inductive CalH (P:Program) (w:World) (K:Frag) (mg:Str→Option Value) (base:Heap) (k:Nat) (x:Str) (ps:List Str) (sp:Sp):Prop where
 | mk {f:Addr} {fd:FuncData} (F:FnOkH P w K mg base CX0 k f fd ps sp) (hm:mg x=some (.ref f)) (hk:keepIn K (.ref f)=true) (hb:Binds K fd ps [])
section
variable {X:Cx} {k:Nat} {ps:List Str} {sp:Sp} {x:Str} {p pos:Pos} {e:Expr} {es:List Expr} {t:TA}
end
end L2
namespace L2
open PySem PySem.Spec PyProof.Rows
section
variable {X:Cx} {o i e f value a b:Expr} {pos pos' tpos apos cpos:Pos} {td ty tv tx:TE}
theorem qe_dget (hu:X.A.units+1 < cLine) (ho:QE X o td) (hi:QE X i ty) (hs:NoSl i:=by exact fun _ _=>rfl):QE X (.Subscript o i pos) (tDGet td ty):=⟨pe_dget hu ho.u hi.u hs⟩
theorem qe_din (hu:X.A.units+1 < cLine) (hi:QE X i ty) (ho:QE X o td) (hm:behindInMarks .In o=false:=by with_unfolding_all rfl):QE X (.Compare i [.In] [o] pos) (tDIn ty td):=⟨pe_cmp (pc_din hu hi.u ho.u) hm⟩
theorem qe_dnotin (hu:X.A.units+1 < cLine) (hi:QE X i ty) (ho:QE X o td) (hm:behindInMarks .NotIn o=false:=by with_unfolding_all rfl):QE X (.Compare i [.NotIn] [o] pos) (tDNotIn ty td):=⟨pe_cmp (pc_dnotin hu hi.u ho.u) hm⟩
theorem qt_din (hu:X.A.units+1 < cLine) (hi:QE X i ty) (ho:QE X o td) (hm:behindInMarks .In o=false:=by with_unfolding_all rfl):QT X (.Compare i [.In] [o] pos) (tB (tDIn ty td)):=⟨pt_cmp (pc_din hu hi.u ho.u) hm⟩
theorem qt_dnotin (hu:X.A.units+1 < cLine) (hi:QE X i ty) (ho:QE X o td) (hm:behindInMarks .NotIn o=false:=by with_unfolding_all rfl):QT X (.Compare i [.NotIn] [o] pos) (tB (tDNotIn ty td)):=⟨pt_cmp (pc_dnotin hu hi.u ho.u) hm⟩
theorem qs_dput (hu:X.A.units+1 < cLine) (ho:QE X o td) (hi:QE X i ty) (hv:QE X value tv) (hs:swapsWith value (some (.Subscript o i pos')) pos.line X.env=pure false:=by rfl) :
  QS X (.Assign [.Subscript o i pos'] value pos) (sDPut td ty tv):=⟨ps_dput hu ho.u hi.u hv.u hs⟩
theorem qe_dnewT:QE X (.Dict [] [] pos) tDNewT:=⟨pe_dnewT⟩
theorem qe_dget1 (hu:X.A.units+1 < cLine) (ho:QE X o td) (he:QE X e ty) (m:M1 X o "get" apos e cpos):QE X (.Call (.Attribute o "get" apos) [e] [] cpos) (tDGet1 td ty):=⟨pe_dget1 hu ho.u he.u m⟩
end
end L2
namespace L2
open PySem PySem.Spec PyProof.Rows
inductive D where
 | non
 | bl (b:Bool)
 | int (i:Int)
 | str (x:Str)
 | tup (xs:List D)
 | lst (xs:List D)
 | dT (ks:List (List Str)) (ds:List D)
 | dK (ks:List Str) (ds:List D)
 | scr (ns:List Int)
 | kt (ss:List Str)
 | exc (n:Str)
 | io (c:Addr) (ds:List D)
noncomputable def clsOf (K:PySem.W.Frag) (n:Str) (C:Addr):Prop:=PySem.W.nsIn K mainGlobals n=some (some (.ref C))
noncomputable def wK (ws:List Str):List Key:=ws.map Sum.inr
noncomputable def TupAt (K:PySem.W.Frag) (H:Hp) (a:Addr) (ds:List D) (xs:List V):Prop:=H a=some (.tup xs)∨(SqT K (fun _=>none) a xs∧D.str "" ∈ ds)
mutual
noncomputable def Rep (K:PySem.W.Frag) (H:Hp):D→V→Prop
 | .non,v=>v=.non
 | .bl b,v=>v=.bl b
 | .int i,v=>v=.int i
 | .str x,v=>v=.str x
 | .tup ds,v=>∃ a xs,v=.ref a∧TupAt K H a ds xs∧Reps K H ds xs
 | .lst ds,v=>∃ a xs,v=.ref a∧H a=some (.lst xs)∧Reps K H ds xs
 | .dT ks ds,v=>∃ a kvs,v=.ref a∧Rd H a (.dT kvs)∧kvs.map (·.1)=ks.map wK∧Reps K H ds (kvs.map (·.2))
 | .dK ks ds,v=>∃ a kvs,v=.ref a∧H a=some (.dK kvs)∧kvs.map (·.1)=ks.map Sum.inr∧Reps K H ds (kvs.map (·.2))
 | .scr ns,v=>∃ a,v=.ref a∧SqL K H a (ns.map V.int)
 | .kt ss,v=>∃ a,v=.ref a∧SqT K (fun _=>none) a (ss.map V.str)
 | .exc n,v=>∃ a C,v=.ref a∧H a=some (excO a C)∧clsOf K n C
 | .io c ds,v=>∃ xs,v=.ref c∧H c=some (.lst xs)∧Reps K H ds xs
noncomputable def Reps (K:PySem.W.Frag) (H:Hp):List D→List V→Prop
 | [],xs=>xs=[]
 | d :: ds,xs=>∃ x r,xs=x :: r∧Rep K H d x∧Reps K H ds r
end
noncomputable def eqD (d e:D):Bool:=@decide (d=e) (Classical.propDecidable _)
noncomputable def eqDs (d e:List D):Bool:=@decide (d=e) (Classical.propDecidable _)
theorem eqD_iff {d e:D}:eqD d e=true↔d=e:=@decide_eq_true_iff _ (Classical.propDecidable _)
theorem eqDs_iff {d e:List D}:eqDs d e=true↔d=e:=@decide_eq_true_iff _ (Classical.propDecidable _)
theorem eqD_eq {d e:D} (h:eqD d e=true):d=e:=eqD_iff.mp h
theorem eqDs_eq {d e:List D} (h:eqDs d e=true):d=e:=eqDs_iff.mp h
theorem eqD_refl (d:D):eqD d d=true:=eqD_iff.mpr rfl
theorem eqDs_refl (d:List D):eqDs d d=true:=eqDs_iff.mpr rfl
theorem bool_iff {a b:Bool} (h:a=true↔b=true):a=b:=by cases a <;> cases b <;> simp_all
theorem eqD_tup (ds es:List D):eqD (.tup ds) (.tup es)=eqDs ds es:=bool_iff (by rw [eqD_iff,eqDs_iff]; exact ⟨fun h=>D.tup.inj h,fun h=>h ▸ rfl⟩)
theorem eqD_lst (ds es:List D):eqD (.lst ds) (.lst es)=eqDs ds es:=bool_iff (by rw [eqD_iff,eqDs_iff]; exact ⟨fun h=>D.lst.inj h,fun h=>h ▸ rfl⟩)
noncomputable def dV:D→Option V
 | .non=>some .non
 | .bl b=>some (.bl b)
 | .int i=>some (.int i)
 | .str x=>some (.str x)
 | _=>none
theorem dV_inj {d e:D} {v:V} (h:dV d=some v) (h':dV e=some v):d=e:=by
 cases d <;> cases e <;> simp_all [dV] <;> (subst h; simp_all)
theorem eqD_scal {d e:D} {v z:V} (h:dV d=some v) (h':dV e=some z):eqD d e=decide (v=z):=bool_iff (by
 rw [eqD_iff,decide_eq_true_iff]
 exact ⟨fun q=>by subst q; exact Option.some.inj (h.symm.trans h'),fun q=>by subst q; exact dV_inj h h'⟩)
mutual
noncomputable def cmpD:D→D→Bool
 | .tup a,.tup b=>cmpDs a b
 | .lst a,.lst b=>cmpDs a b
 | .non,.non=>true | .non,.int _=>true | .int _,.non=>true | .non,.bl _=>true | .bl _,.non=>true | .non,.str _=>true | .str _,.non=>true
 | .int _,.int _=>true | .bl _,.bl _=>true | .str _,.str _=>true | .int _,.str _=>true | .str _,.int _=>true | .bl _,.str _=>true | .str _,.bl _=>true
 | _,_=>false
noncomputable def cmpDs:List D→List D→Bool
 | x :: xs,y :: ys=>cmpD x y && cmpDs xs ys
 | _,_=>true
end
mutual
noncomputable def depD:D→Nat
 | .tup a=>depDs a+1
 | .lst a=>depDs a+1
 | _=>0
noncomputable def depDs:List D→Nat
 | []=>0
 | x :: xs=>max (depD x) (depDs xs)
end
theorem Same.emp (H:Hp):Same (fun _=>none) H:=fun _ _ h=>by cases h
theorem Same.sqT {K:PySem.W.Frag} {H H':Hp} (sm:Same H H') {a:Addr} {xs:List V} (h:SqT K H a xs):SqT K H' a xs:=by
 rcases h with (h | ⟨o,h⟩) | h
 ·exact .inl (.inl (sm _ _ h))
 ·exact .inl (.inr ⟨o,sm _ _ h⟩)
 ·exact .inr h
theorem TupAt.sq {K:PySem.W.Frag} {H:Hp} {a:Addr} {ds:List D} {xs:List V} (h:TupAt K H a ds xs):SqT K H a xs:=h.elim SqT.of fun q=>(Same.emp H).sqT q.1
theorem TupAt.same {K:PySem.W.Frag} {H H':Hp} {a:Addr} {ds:List D} {xs:List V} (h:TupAt K H a ds xs) (sm:Same H H'):TupAt K H' a ds xs:=h.elim (fun q=>.inl (sm _ _ q)) .inr
section
variable {X:Cx} {pins:List (Addr × Obj)} {σ:St} {H:Hp} {s:Shared}
mutual
theorem Rep.inj (I:Inv X pins σ H s):∀ {d e:D} {v:V},Rep X.K H d v→Rep X.K H e v→cmpD d e=true→d=e
 | .non,e,v,h,h',hc=>by
  unfold Rep at h
  subst h
  cases e <;> unfold Rep at h' <;> first | rfl | (obtain ⟨_,_,z,_⟩:=h'; cases z; done) | (obtain ⟨_,z,_⟩:=h'; cases z; done) | (cases h'; done)
 | .bl i,e,v,h,h',hc=>by
  unfold Rep at h
  subst h
  cases e <;> unfold Rep at h' <;> first | rfl | (obtain ⟨_,_,z,_⟩:=h'; cases z; done) | (obtain ⟨_,z,_⟩:=h'; cases z; done) | (cases h'; rfl) | (cases h'; done)
 | .int i,e,v,h,h',hc=>by
  unfold Rep at h
  subst h
  cases e <;> unfold Rep at h' <;> first | rfl | (obtain ⟨_,_,z,_⟩:=h'; cases z; done) | (obtain ⟨_,z,_⟩:=h'; cases z; done) | (cases h'; rfl) | (cases h'; done)
 | .str i,e,v,h,h',hc=>by
  unfold Rep at h
  subst h
  cases e <;> unfold Rep at h' <;> first | rfl | (obtain ⟨_,_,z,_⟩:=h'; cases z; done) | (obtain ⟨_,z,_⟩:=h'; cases z; done) | (cases h'; rfl) | (cases h'; done)
 | .tup ds,e,v,h,h',hc=>by
  cases e with
  | tup es =>
   unfold Rep at h h'
   obtain ⟨a,xs,rfl,ha,hr⟩:=h
   obtain ⟨b,ys,z,hb,hs⟩:=h'
   cases z
   cases I.tuple_inj ha.sq hb.sq
   unfold cmpD at hc
   rw [Reps.inj I hr hs hc]
  | _=>unfold cmpD at hc; cases hc
 | .lst ds,e,v,h,h',hc=>by
  cases e with
  | lst es =>
   unfold Rep at h h'
   obtain ⟨a,xs,rfl,ha,hr⟩:=h
   obtain ⟨b,ys,z,hb,hs⟩:=h'
   cases z
   rw [ha] at hb
   cases hb
   unfold cmpD at hc
   rw [Reps.inj I hr hs hc]
  | _=>unfold cmpD at hc; cases hc
 | .dT _ _,e,_,_,_,h=>by cases e <;> (unfold cmpD at h; cases h)
 | .dK _ _,e,_,_,_,h=>by cases e <;> (unfold cmpD at h; cases h)
 | .scr _,e,_,_,_,h=>by cases e <;> (unfold cmpD at h; cases h)
 | .kt _,e,_,_,_,h=>by cases e <;> (unfold cmpD at h; cases h)
 | .exc _,e,_,_,_,h=>by cases e <;> (unfold cmpD at h; cases h)
 | .io _ _,e,_,_,_,h=>by cases e <;> (unfold cmpD at h; cases h)
theorem Reps.inj (I:Inv X pins σ H s):∀ {ds es:List D} {xs:List V},Reps X.K H ds xs→Reps X.K H es xs→cmpDs ds es=true→ds=es
 | [],es,xs,h,h',_=>by
  unfold Reps at h
  subst h
  cases es with
  | nil=>rfl
  | cons e es=>unfold Reps at h'; obtain ⟨_,_,z,_⟩:=h'; cases z
 | d :: ds,es,xs,h,h',hc=>by
  unfold Reps at h
  obtain ⟨x,r,rfl,h1,h2⟩:=h
  cases es with
  | nil=>unfold Reps at h'; cases h'
  | cons e es =>
   unfold Reps at h'
   obtain ⟨x',r',z,h3,h4⟩:=h'
   cases z
   unfold cmpDs at hc
   rw [Bool.and_eq_true] at hc
   rw [Rep.inj I h1 h3 hc.1,Reps.inj I h2 h4 hc.2]
end
end
mutual
theorem Rep.same {K:PySem.W.Frag} {H H':Hp} (sm:Same H H'):∀ {d:D} {v:V},Rep K H d v→Rep K H' d v
 | .non,_,h=>h
 | .bl _,_,h=>h
 | .int _,_,h=>h
 | .str _,_,h=>h
 | .tup _,_,h=>by
  unfold Rep at h ⊢
  obtain ⟨a,xs,e,ha,r⟩:=h
  exact ⟨a,xs,e,ha.same sm,Reps.same sm r⟩
 | .lst _,_,h=>by
  unfold Rep at h ⊢
  obtain ⟨a,xs,e,ha,r⟩:=h
  exact ⟨a,xs,e,sm _ _ ha,Reps.same sm r⟩
 | .dT _ _,_,h=>by
  unfold Rep at h ⊢
  obtain ⟨a,xs,e,ha,k,r⟩:=h
  exact ⟨a,xs,e,ha.elim (fun q=>.inl (sm _ _ q)) fun ⟨o,q⟩=>.inr ⟨o,sm _ _ q⟩,k,Reps.same sm r⟩
 | .dK _ _,_,h=>by
  unfold Rep at h ⊢
  obtain ⟨a,xs,e,ha,k,r⟩:=h
  exact ⟨a,xs,e,sm _ _ ha,k,Reps.same sm r⟩
 | .scr _,_,h=>by
  unfold Rep at h ⊢
  obtain ⟨a,e,ha⟩:=h
  exact ⟨a,e,sm.seq ha⟩
 | .kt _,_,h=>h
 | .exc _,_,h=>by
  unfold Rep at h ⊢
  obtain ⟨a,C,e,ha,hc⟩:=h
  exact ⟨a,C,e,sm _ _ ha,hc⟩
 | .io _ _,_,h=>by
  unfold Rep at h ⊢
  obtain ⟨xs,e,ha,r⟩:=h
  exact ⟨xs,e,sm _ _ ha,Reps.same sm r⟩
theorem Reps.same {K:PySem.W.Frag} {H H':Hp} (sm:Same H H'):∀ {ds:List D} {xs:List V},Reps K H ds xs→Reps K H' ds xs
 | [],_,h=>h
 | _ :: _,_,h=>by
  unfold Reps at h ⊢
  obtain ⟨x,r,e,h1,h2⟩:=h
  exact ⟨x,r,e,Rep.same sm h1,Reps.same sm h2⟩
end
theorem Reps.length {K:PySem.W.Frag} {H:Hp}:∀ {ds:List D} {xs:List V},Reps K H ds xs→ds.length=xs.length
 | [],xs,h=>by unfold Reps at h; rw [h]; rfl
 | d :: ds,xs,h=>by
  unfold Reps at h
  obtain ⟨x,r,rfl,h1,h2⟩:=h
  rw [List.length_cons,List.length_cons,Reps.length h2]
theorem Reps.at {K:PySem.W.Frag} {H:Hp}:∀ {ds:List D} {xs:List V} {j:Nat} {d:D},Reps K H ds xs→ds[j]?=some d→∃ x,xs[j]?=some x∧Rep K H d x
 | [],xs,j,d,h,e=>by simp at e
 | d0 :: ds,xs,0,d,h,e=>by
  unfold Reps at h
  obtain ⟨x,r,rfl,h1,h2⟩:=h
  have e':d0=d:=by simpa using e
  subst e'
  exact ⟨x,rfl,h1⟩
 | d0 :: ds,xs,j+1,d,h,e=>by
  unfold Reps at h
  obtain ⟨x,r,rfl,h1,h2⟩:=h
  obtain ⟨y,h3,h4⟩:=Reps.at (j:=j) (d:=d) h2 (by simpa using e)
  exact ⟨y,by simpa using h3,h4⟩
theorem eqDs_range:∀ (ds es:List D),((List.range (min ds.length es.length)).all (fun j=>eqD (ds.getD j .non) (es.getD j .non)) && ds.length == es.length)=eqDs ds es:=by
 intro ds es
 cases h:eqDs ds es with
 | true =>
  have e:=eqDs_eq h
  subst e
  rw [Bool.and_eq_true]
  refine ⟨?_,by simp⟩
  rw [List.all_eq_true]
  intro j _
  exact eqD_refl _
 | false =>
  apply Classical.byContradiction
  intro hn
  have ht:=eq_true_of_ne_false hn
  rw [Bool.and_eq_true,List.all_eq_true] at ht
  obtain ⟨h1,h2⟩:=ht
  have hl:ds.length=es.length:=by simpa using h2
  have e:ds=es:=by
   apply List.ext_getElem hl
   intro i hi1 hi2
   have:=eqD_eq (h1 i (by rw [List.mem_range]; lia))
   simpa [List.getD_eq_getElem?_getD,hi1,hi2] using this
  rw [e,eqDs_refl] at h
  cases h
theorem cmpDs_at:∀ {ds es:List D} {j:Nat} {d e:D},cmpDs ds es=true→ds[j]?=some d→es[j]?=some e→cmpD d e=true
 | [],_,j,d,e,_,h,_=>by simp at h
 | _ :: _,[],j,d,e,_,_,h=>by simp at h
 | d0 :: ds,e0 :: es,0,d,e,h,h1,h2=>by
  unfold cmpDs at h
  rw [Bool.and_eq_true] at h
  have q1:d0=d:=by simpa using h1
  have q2:e0=e:=by simpa using h2
  subst q1 q2
  exact h.1
 | d0 :: ds,e0 :: es,j+1,d,e,h,h1,h2=>by
  unfold cmpDs at h
  rw [Bool.and_eq_true] at h
  exact cmpDs_at (j:=j) h.2 (by simpa using h1) (by simpa using h2)
theorem depDs_at:∀ {ds:List D} {j:Nat} {d:D},ds[j]?=some d→depD d≤depDs ds
 | [],j,d,h=>by simp at h
 | d0 :: ds,0,d,h=>by
  have q:d0=d:=by simpa using h
  subst q
  unfold depDs
  exact Nat.le_max_left _ _
 | d0 :: ds,j+1,d,h=>by
  have:=depDs_at (j:=j) (d:=d) (ds:=ds) (by simpa using h)
  unfold depDs
  exact Nat.le_trans this (Nat.le_max_right _ _)
section
variable {X:Cx} {pins:List (Addr × Obj)} {σ:St} {H:Hp} {s:Shared}
theorem rep_scal {d:D} {v:V} (h:Rep X.K H d v) {z:V} (e:dV d=some z):v=z:=by
 cases d <;> first | (unfold Rep at h; subst h; exact Option.some.inj e) | (cases e; done)
theorem scal_of {d e:D} (h:cmpD d e=true) (h0:∀ ds,d≠.tup ds) (h1:∀ ds,d≠.lst ds):∃ v z,dV d=some v∧dV e=some z∧scal v z=true:=by
 cases d <;> cases e <;> first | exact ⟨_,_,rfl,rfl,rfl⟩ | exact absurd rfl (h0 _) | exact absurd rfl (h1 _) | (unfold cmpD at h; cases h; done)
theorem flat_dV {d:D} {v:V} (h:dV d=some v):flatV v=true:=by
 cases d <;> first | (cases h; rfl) | (cases h; done)
theorem eqV_scal {v z:V} (h:scal v z=true) (hv:flatV v=true):eqV v z=decide (v=z):=by
 cases v <;> cases z <;> first | (cases h; done) | (cases hv; done) | rfl | (simp [eqV]; done) | (unfold eqV; exact bool_iff (by simp))
theorem items_D {A':Around} {ds es:List D} {xs ys:List V} {its its2:List Value} (r1:Reps X.K H ds xs) (r2:Reps X.K H es ys) (v1:Vals xs its) (v2:Vals ys its2) (hc:cmpDs ds es=true)
  (ih:∀ d∈ds,∀ (e:D) (v z:V) (u w:Value),Rep X.K H d v→Rep X.K H e z→RelV v u→RelV z w→cmpD d e=true→SeqAt.EqAt A' s u w (eqD d e)) :
  ∀ j (h1:j < its.toArray.size) (h2:j < its2.toArray.size),SeqAt.EqAt A' s its.toArray[j] its2.toArray[j] (eqD (ds.getD j .non) (es.getD j .non)):=fun j h1 h2=>by
 have l1:j < ds.length:=by rw [r1.length,v1.length]; simpa using h1
 have l2:j < es.length:=by rw [r2.length,v2.length]; simpa using h2
 have q1:ds[j]?=some ds[j]:=List.getElem?_eq_getElem l1
 have q2:es[j]?=some es[j]:=List.getElem?_eq_getElem l2
 obtain ⟨x,hx,rx⟩:=r1.at q1
 obtain ⟨y,hy,ry⟩:=r2.at q2
 obtain ⟨ux,hux,rux⟩:=v1.get hx
 obtain ⟨uy,huy,ruy⟩:=v2.get hy
 have e1:its.toArray[j]=ux:=by
  have:its[j]?=some its.toArray[j]:=by simp
  rw [hux] at this
  exact (Option.some.inj this).symm
 have e2:its2.toArray[j]=uy:=by
  have:its2[j]?=some its2.toArray[j]:=by simp
  rw [huy] at this
  exact (Option.some.inj this).symm
 have e3:ds.getD j .non=ds[j]:=by simp [List.getD_eq_getElem?_getD,l1]
 have e4:es.getD j .non=es[j]:=by simp [List.getD_eq_getElem?_getD,l2]
 rw [e1,e2,e3,e4]
 exact ih ds[j] (List.getElem_mem l1) es[j] x y ux uy rx ry rux ruy (cmpDs_at hc q1 q2)
theorem rc_tup {A:Around} (I:Inv X pins σ H s) {a b:Addr} {ds es:List D} {xs ys:List V} (ha:SqT X.K H a xs) (hb:SqT X.K H b ys) (r1:Reps X.K H ds xs) (r2:Reps X.K H es ys) (hc:cmpDs ds es=true) (hu:A.units < cLine)
  (ih:∀ d∈ds,∀ (e:D) (v z:V) (u w:Value),Rep X.K H d v→Rep X.K H e z→RelV v u→RelV z w→cmpD d e=true→SeqAt.EqAt A.in1 s u w (eqD d e)):SeqAt.RcAt A s (.ref a) (.ref b) (eqD (.tup ds) (.tup es)):=by
 obtain ⟨its,v1,p1,_⟩:=I.tuple ha
 obtain ⟨its2,v2,p2,_⟩:=I.tuple hb
 have:=SeqAt.RcAt.tuples (A:=A) (s:=s) (e:=fun j=>eqD (ds.getD j .non) (es.getD j .non)) (show s.heap.IsTuple a its.toArray from p1) (show s.heap.IsTuple b its2.toArray from p2) hu (items_D r1 r2 v1 v2 hc ih)
 rw [List.size_toArray,List.size_toArray,← v1.length,← v2.length,← r1.length,← r2.length,eqDs_range] at this
 rw [eqD_tup]
 exact this
theorem rc_lst {A:Around} (I:Inv X pins σ H s) {a b:Addr} {ds es:List D} {xs ys:List V} (ha:H a=some (.lst xs)) (hb:H b=some (.lst ys)) (r1:Reps X.K H ds xs) (r2:Reps X.K H es ys) (hc:cmpDs ds es=true) (hu:A.units < cLine)
  (ih:∀ d∈ds,∀ (e:D) (v z:V) (u w:Value),Rep X.K H d v→Rep X.K H e z→RelV v u→RelV z w→cmpD d e=true→SeqAt.EqAt A.in1 s u w (eqD d e)):SeqAt.RcAt A s (.ref a) (.ref b) (eqD (.lst ds) (.lst es)):=by
 obtain ⟨its,v1,p1,_⟩:=I.list (SqL.of ha)
 obtain ⟨its2,v2,p2,_⟩:=I.list (SqL.of hb)
 have er:=eqDs_range ds es
 rw [eqD_lst]
 by_cases hl:ds.length=es.length
 ·have hz:its.toArray.size=its2.toArray.size:=by rw [List.size_toArray,List.size_toArray,← v1.length,← v2.length,← r1.length,← r2.length,hl]
  have:=SeqAt.RcAt.lists (A:=A) (s:=s) (e:=fun j=>eqD (ds.getD j .non) (es.getD j .non)) p1.isList p2.isList hz hu (items_D r1 r2 v1 v2 hc ih)
  rw [List.size_toArray,← v1.length,← r1.length] at this
  rw [← hl,Nat.min_self] at er
  have e2:(ds.length == ds.length)=true:=by simp
  rw [e2,Bool.and_true] at er
  rw [er] at this
  exact this
 ·have e2:(ds.length == es.length)=false:=by simpa using hl
  rw [e2,Bool.and_false] at er
  rw [← er]
  refine SeqAt.RcAt.lists_lengths p1.isList p2.isList ?_ hu
  rw [List.size_toArray,List.size_toArray,← v1.length,← v2.length,← r1.length,← r2.length]
  simpa using hl
theorem depD_mem {ds:List D} {d:D} (h:d∈ds):depD d≤depDs ds:=by
 obtain ⟨j,hj⟩:=List.mem_iff_getElem?.mp h
 exact depDs_at hj
theorem eqAt_D (I:Inv X pins σ H s):∀ (n:Nat) (A:Around) (d e:D) (v z:V) (u w:Value),sizeOf d≤n→Rep X.K H d v→Rep X.K H e z→RelV v u→RelV z w→cmpD d e=true→A.units+depD d < cLine→SeqAt.EqAt A s u w (eqD d e)
 | 0,_,d,_,_,_,_,_,hn,_,_,_,_,_,_=>by cases d <;> simp at hn
 | n+1,A,d,e,v,z,u,w,hn,hd,he,ru,rw',hc,hu=>by
  have un:A.in1.units=A.units+1:=rfl
  cases d with
  | tup ds =>
   cases e with
   | tup es =>
    have hd':=hd
    have he':=he
    unfold Rep at hd he
    obtain ⟨a,xs,rfl,ha,r1⟩:=hd
    obtain ⟨b,ys,rfl,hb,r2⟩:=he
    cases ru
    cases rw'
    unfold depD at hu
    by_cases hab:a=b
    ·subst hab
     rw [Rep.inj I hd' he' hc,eqD_refl]
     exact SeqAt.EqAt.same _
    ·unfold cmpD at hc
     refine SeqAt.EqAt.of_refs hab (rc_tup I ha.sq hb.sq r1 r2 hc (by lia) fun d hd e v z u w h1 h2 h3 h4 h5=>eqAt_D I n A.in1 d e v z u w ?_ h1 h2 h3 h4 h5 ?_)
     ·have:=List.sizeOf_lt_of_mem hd
      simp at hn
      lia
     ·have:=depD_mem hd
      lia
   | _=>unfold cmpD at hc; cases hc
  | lst ds =>
   cases e with
   | lst es =>
    have hd':=hd
    have he':=he
    unfold Rep at hd he
    obtain ⟨a,xs,rfl,ha,r1⟩:=hd
    obtain ⟨b,ys,rfl,hb,r2⟩:=he
    cases ru
    cases rw'
    unfold depD at hu
    by_cases hab:a=b
    ·subst hab
     rw [Rep.inj I hd' he' hc,eqD_refl]
     exact SeqAt.EqAt.same _
    ·unfold cmpD at hc
     refine SeqAt.EqAt.of_refs hab (rc_lst I ha hb r1 r2 hc (by lia) fun d hd e v z u w h1 h2 h3 h4 h5=>eqAt_D I n A.in1 d e v z u w ?_ h1 h2 h3 h4 h5 ?_)
     ·have:=List.sizeOf_lt_of_mem hd
      simp at hn
      lia
     ·have:=depD_mem hd
      lia
   | _=>unfold cmpD at hc; cases hc
  | _ =>
   obtain ⟨v',z',q1,q2,q3⟩:=scal_of hc (fun _ h=>by cases h) (fun _ h=>by cases h)
   have e1:=rep_scal hd q1
   have e2:=rep_scal he q2
   subst e1 e2
   rw [eqD_scal q1 q2,← eqV_scal q3 (flat_dV q1)]
   exact eqAt_V ru rw' (flat_dV q1) (flat_dV q2)
noncomputable def rEqD (K:PySem.W.Frag) (g:Bool→Bool):R2:=fun x y H Q=>∃ d e,Rep K H d x∧Rep K H e y∧cmpD d e=true∧depD d≤50∧Q (.bl (g (eqD d e))) H
theorem op_eqD (hu:X.A.units+60 < cLine):OpR X (compareOp .Eq) (rEqD X.K id):=by
 intro pins s σ H x y v u Q I rx ry h
 obtain ⟨d,e,hd,he,hc,hn,q⟩:=h
 have fin:EP X pins σ Q (.bool (eqD d e)) s:=⟨.bl (eqD d e),H,I,rfl,q⟩
 have un:X.A.in1.units=X.A.units+1:=rfl
 cases d with
 | tup ds =>
  cases e with
  | tup es =>
   unfold Rep at hd he
   obtain ⟨a,xs,rfl,ha,r1⟩:=hd
   obtain ⟨b,ys,rfl,hb,r2⟩:=he
   cases rx
   cases ry
   unfold cmpD at hc
   unfold depD at hn
   exact rc_tup I ha.sq hb.sq r1 r2 hc (by lia) (fun d hd e v z u w h1 h2 h3 h4 h5=>eqAt_D I _ X.A.in1 d e v z u w (Nat.le_refl _) h1 h2 h3 h4 h5 (by have:=depD_mem hd; lia)) _ _ _ _ fin
  | _=>unfold cmpD at hc; cases hc
 | lst ds =>
  cases e with
  | lst es =>
   unfold Rep at hd he
   obtain ⟨a,xs,rfl,ha,r1⟩:=hd
   obtain ⟨b,ys,rfl,hb,r2⟩:=he
   cases rx
   cases ry
   unfold cmpD at hc
   unfold depD at hn
   exact rc_lst I ha hb r1 r2 hc (by lia) (fun d hd e v z u w h1 h2 h3 h4 h5=>eqAt_D I _ X.A.in1 d e v z u w (Nat.le_refl _) h1 h2 h3 h4 h5 (by have:=depD_mem hd; lia)) _ _ _ _ fin
  | _=>unfold cmpD at hc; cases hc
 | _ =>
  obtain ⟨v',z',q1,q2,q3⟩:=scal_of hc (fun _ h=>by cases h) (fun _ h=>by cases h)
  have e1:=rep_scal hd q1
  have e2:=rep_scal he q2
  subst e1 e2
  have q':Q (.bl (eqD _ _)) H:=q
  rw [eqD_scal q1 q2] at q'
  exact op_eq pins s σ H _ _ v u Q I rx ry ⟨q3,q'⟩
end
end L2
namespace L2
open PySem PySem.Spec PyProof.Rows
inductive R where
 | val (d:D)
 | own (d:D)
 | peek (d:D)
 | exc (n:Str)
noncomputable def R.d:R→D
 | .val d=>d
 | .own d=>d
 | .peek d=>d
 | .exc _=>.scr []
noncomputable abbrev VSt:=List (Option R)
noncomputable def OwnAt (K:PySem.W.Frag) (B H:Hp) (d:D) (a:Addr):Prop:=match d with
 | .lst ds=>∃ xs,H a=some (.lst xs)∧Reps K B ds xs
 | .dT ks ds=>∃ kvs,H a=some (.dT kvs)∧kvs.map (·.1)=ks.map wK∧Reps K B ds (kvs.map (·.2))
 | .dK ks ds=>∃ kvs,H a=some (.dK kvs)∧kvs.map (·.1)=ks.map Sum.inr∧Reps K B ds (kvs.map (·.2))
 | .io c ds=>∃ xs,H a=some (.lst xs)∧a=c∧Reps K B ds xs
 | _=>False
noncomputable def Pk (K:PySem.W.Frag) (B H:Hp) (r:R) (v:V):Prop:=match r with
 | .val d=>Rep K B d v
 | .own d=>∃ a,v=.ref a∧B a=none∧OwnAt K B H d a
 | .peek d=>∃ a,v=.ref a∧B a=none∧OwnAt K B H d a
 | .exc _=>False
noncomputable def RepR (K:PySem.W.Frag) (B H0 H:Hp) (r:R) (v:V):Prop:=match r with
 | .val d=>Rep K B d v
 | .own d=>∃ a,v=.ref a∧H0 a=none∧B a=none∧OwnAt K B H d a
 | .peek d=>∃ a,v=.ref a∧B a=none∧OwnAt K B H d a
 | .exc _=>False
structure Stp (B H B' H':Hp):Prop where
 b:Same B B'
 h:Same H H'
 s:Same B' H'
 d:∀ a,B' a≠none→B a≠none∨H a=none∨∃ xs,H a=some (.tup xs)
theorem Stp.refl {B H:Hp} (s:Same B H):Stp B H B H:=⟨Same.refl _,Same.refl _,s,fun _ h=>.inl h⟩
theorem Stp.trans {B H B1 H1 B2 H2:Hp} (p:Stp B H B1 H1) (q:Stp B1 H1 B2 H2):Stp B H B2 H2 :=
 ⟨p.b.trans q.b,p.h.trans q.h,q.s,fun a h=>by
  rcases q.d a h with z | z | ⟨xs,z⟩
  ·exact p.d a z
  ·exact .inr (.inl (p.h.free z))
  ·cases e:H a with
   | none=>exact .inr (.inl rfl)
   | some o =>
    rw [p.h _ _ e] at z
    exact .inr (.inr ⟨xs,z⟩)⟩
theorem Stp.keep {B H B' H':Hp} (p:Stp B H B' H') {a:Addr} (hb:B a=none) (hh:H a≠none) (nt:∀ xs,H a≠some (.tup xs)):B' a=none:=by
 cases e:B' a with
 | none=>rfl
 | some o =>
  rcases p.d a (by rw [e]; exact fun z=>by cases z) with z | z | ⟨xs,z⟩
  ·exact absurd hb z
  ·exact absurd z hh
  ·exact absurd z (nt xs)
theorem Stp.grow {B H H':Hp} (s:Same B H) (h:Same H H'):Stp B H B H':=⟨Same.refl _,h,s.trans h,fun _ z=>.inl z⟩
theorem Stp.new {B H:Hp} {p:Addr} {o:HO} (s:Same B H) (hp:H p=none):Stp B H (upd B p o) (upd H p o) :=
 ⟨same_upd (s.free hp) o,same_upd hp o,fun b u e=>by
  unfold upd at e ⊢
  by_cases z:b=p
  ·rw [if_pos z] at e ⊢
   exact e
  ·rw [if_neg z] at e ⊢
   exact s _ _ e,fun a h=>by
  by_cases z:a=p
  ·exact .inr (.inl (z ▸ hp))
  ·rw [upd_ne z] at h
   exact .inl h⟩
section
variable {K:PySem.W.Frag} {B H B' H' H0:Hp} {d:D} {a:Addr} {r:R} {v:V}
theorem OwnAt.some (h:OwnAt K B H d a):H a≠none:=by
 unfold OwnAt at h
 split at h
 ·obtain ⟨xs,e,_⟩:=h; rw [e]; exact fun z=>by cases z
 ·obtain ⟨xs,e,_⟩:=h; rw [e]; exact fun z=>by cases z
 ·obtain ⟨xs,e,_⟩:=h; rw [e]; exact fun z=>by cases z
 ·obtain ⟨xs,e,_⟩:=h; rw [e]; exact fun z=>by cases z
 ·exact h.elim
theorem OwnAt.nt (h:OwnAt K B H d a):∀ xs,H a≠Option.some (.tup xs):=by
 intro ys
 unfold OwnAt at h
 split at h
 ·obtain ⟨xs,e,_⟩:=h; rw [e]; exact fun z=>by cases z
 ·obtain ⟨xs,e,_⟩:=h; rw [e]; exact fun z=>by cases z
 ·obtain ⟨xs,e,_⟩:=h; rw [e]; exact fun z=>by cases z
 ·obtain ⟨xs,e,_⟩:=h; rw [e]; exact fun z=>by cases z
 ·exact h.elim
theorem OwnAt.step (h:OwnAt K B H d a) (b:Same B B') (e:H' a=H a):OwnAt K B' H' d a:=by
 unfold OwnAt at h ⊢
 split at h
 ·obtain ⟨xs,q,r⟩:=h; exact ⟨xs,by rw [e,q],r.same b⟩
 ·obtain ⟨xs,q,k,r⟩:=h; exact ⟨xs,by rw [e,q],k,r.same b⟩
 ·obtain ⟨xs,q,k,r⟩:=h; exact ⟨xs,by rw [e,q],k,r.same b⟩
 ·obtain ⟨xs,q,k,r⟩:=h; exact ⟨xs,by rw [e,q],k,r.same b⟩
 ·exact h.elim
theorem Same.at {a:Addr} (h:Same H H') (n:H a≠none):H' a=H a:=by
 cases e:H a with
 | none=>exact absurd e n
 | some o=>exact h _ _ e
theorem Pk.step (h:Pk K B H r v) (p:Stp B H B' H'):Pk K B' H' r v:=by
 cases r with
 | val d=>exact Rep.same p.b h
 | own d =>
  obtain ⟨a,e,q,o⟩:=h
  exact ⟨a,e,p.keep q o.some o.nt,o.step p.b (p.h.at o.some)⟩
 | peek d =>
  obtain ⟨a,e,q,o⟩:=h
  exact ⟨a,e,p.keep q o.some o.nt,o.step p.b (p.h.at o.some)⟩
 | exc n=>exact h.elim
theorem RepR.pk (h:RepR K B H0 H r v):Pk K B H r v:=by
 cases r with
 | val d=>exact h
 | own d =>
  obtain ⟨a,e,_,q,o⟩:=h
  exact ⟨a,e,q,o⟩
 | peek d=>exact h
 | exc n=>exact h
theorem OwnAt.rep (s:Same B H) (h:OwnAt K B H d a):Rep K H d (.ref a):=by
 unfold OwnAt at h
 split at h
 ·obtain ⟨xs,q,r⟩:=h; unfold Rep; exact ⟨a,xs,rfl,q,r.same s⟩
 ·obtain ⟨xs,q,k,r⟩:=h; unfold Rep; exact ⟨a,xs,rfl,.inl q,k,r.same s⟩
 ·obtain ⟨xs,q,k,r⟩:=h; unfold Rep; exact ⟨a,xs,rfl,q,k,r.same s⟩
 ·obtain ⟨xs,q,rfl,r⟩:=h; unfold Rep; exact ⟨xs,rfl,q,r.same s⟩
 ·exact h.elim
theorem Pk.rep (s:Same B H) (h:Pk K B H r v):Rep K H r.d v:=by
 cases r with
 | val d=>exact Rep.same s h
 | own d =>
  obtain ⟨a,rfl,_,o⟩:=h
  exact o.rep s
 | peek d =>
  obtain ⟨a,rfl,_,o⟩:=h
  exact o.rep s
 | exc n=>exact h.elim
theorem OwnAt.pub (h:OwnAt K B H d a) (hb:B a=none):∃ o,H a=Option.some o∧Rep K (upd B a o) d (.ref a):=by
 unfold OwnAt at h
 split at h
 ·obtain ⟨xs,q,r⟩:=h
  refine ⟨_,q,?_⟩
  unfold Rep
  exact ⟨a,xs,rfl,upd_same,r.same (same_upd hb _)⟩
 ·obtain ⟨xs,q,k,r⟩:=h
  refine ⟨_,q,?_⟩
  unfold Rep
  exact ⟨a,xs,rfl,.inl upd_same,k,r.same (same_upd hb _)⟩
 ·obtain ⟨xs,q,k,r⟩:=h
  refine ⟨_,q,?_⟩
  unfold Rep
  exact ⟨a,xs,rfl,upd_same,k,r.same (same_upd hb _)⟩
 ·obtain ⟨xs,q,rfl,r⟩:=h
  refine ⟨_,q,?_⟩
  unfold Rep
  exact ⟨xs,rfl,upd_same,r.same (same_upd hb _)⟩
 ·exact h.elim
theorem same_updL {o:HO} (s:Same B H) (e:H a=Option.some o):Same (upd B a o) H:=fun b u q=>by
 unfold upd at q
 by_cases z:b=a
 ·rw [if_pos z] at q
  rw [z,e]
  exact q
 ·rw [if_neg z] at q
  exact s _ _ q
noncomputable def pubR:R→(D→Prop)→Prop
 | .val d,Q=>Q d
 | .own d,Q=>Q d
 | .peek _,_=>False
 | .exc _,_=>False
noncomputable def exR:R→(R→Prop)→Prop→Prop
 | .exc n,Q,_=>Q (.exc n)
 | .val _,_,k=>k
 | .own _,_,k=>k
 | .peek _,_,k=>k
theorem pub {Q:D→Prop} (p:Stp B H B' H') (h:RepR K B' H H' r v) (q:pubR r Q):∃ d B2,Stp B H B2 H'∧Same B' B2∧Rep K B2 d v∧Q d:=by
 cases r with
 | val d=>exact ⟨d,B',p,Same.refl _,h,q⟩
 | own d =>
  obtain ⟨a,rfl,h0,hb,o⟩:=h
  obtain ⟨u,e,rp⟩:=o.pub hb
  refine ⟨d,upd B' a u,⟨p.b.trans (same_upd hb _),p.h,same_updL p.s e,fun c z=>?_⟩,same_upd hb _,rp,q⟩
  by_cases w:c=a
  ·exact .inr (.inl (w ▸ h0))
  ·rw [upd_ne w] at z
   exact p.d c z
 | peek d=>exact q.elim
 | exc n=>exact q.elim
noncomputable def FzAt (K:PySem.W.Frag) (B:Hp) (d:D) (v:V):Prop:=∃ a ks ds kvs o,d=.dT ks ds∧v=.ref a∧B a=some (.frz o (.dT kvs))∧kvs.map (·.1)=ks.map wK∧Reps K B ds (kvs.map (·.2))
theorem FzAt.same (h:FzAt K B d v) (s:Same B B'):FzAt K B' d v:=by
 obtain ⟨a,ks,ds,kvs,o,e1,e2,e3,e4,e5⟩:=h
 exact ⟨a,ks,ds,kvs,o,e1,e2,s _ _ e3,e4,e5.same s⟩
theorem FzAt.rep (h:FzAt K B d v):Rep K B d v:=by
 obtain ⟨a,ks,ds,kvs,o,rfl,e2,e3,e4,e5⟩:=h
 unfold Rep
 exact ⟨a,kvs,e2,.inr ⟨o,e3⟩,e4,e5⟩
structure Slots (K:PySem.W.Frag) (H0 B H:Hp) (τ:VSt) (σ:St):Prop where
 len:σ.length=τ.length
 val:∀ (i:Nat) (d:D),τ[i]?=some (some (R.val d))→∃ v,σ[i]?=some (some v)∧Rep K B d v
 fz:∀ (i:Nat) (d:D),τ[i]?=some (some (R.peek d))→∃ v,σ[i]?=some (some v)∧FzAt K B d v
 own:∀ (i:Nat) (d:D),τ[i]?=some (some (R.own d))→∃ a,σ[i]?=some (some (.ref a))∧H0 a=none∧B a=none∧OwnAt K B H d a
 sep:∀ (i j:Nat) (d e:D) (a:Addr),τ[i]?=some (some (R.own d))→τ[j]?=some (some (R.own e))→σ[i]?=some (some (.ref a))→σ[j]?=some (some (.ref a))→i=j
variable {τ:VSt} {σ:St}
theorem Slots.step (S:Slots K H0 B H τ σ) (p:Stp B H B' H'):Slots K H0 B' H' τ σ where
 len:=S.len
 val:=fun i d e=>let ⟨v,q,r⟩:=S.val i d e; ⟨v,q,r.same p.b⟩
 fz:=fun i d e=>let ⟨v,q,r⟩:=S.fz i d e; ⟨v,q,r.same p.b⟩
 own:=fun i d e=>let ⟨a,q,h0,hb,o⟩:=S.own i d e; ⟨a,q,h0,p.keep hb o.some o.nt,o.step p.b (p.h.at o.some)⟩
 sep:=S.sep
theorem getSet {α:Type} {xs:List α} {i j:Nat} {x y:α} (h:(xs.set i x)[j]?=some y):(i=j∧x=y∧i < xs.length)∨(i≠j∧xs[j]?=some y):=by
 by_cases e:i=j
 ·subst e
  by_cases l:i < xs.length
  ·rw [List.getElem?_set_self l] at h
   exact .inl ⟨rfl,Option.some.inj h,l⟩
  ·rw [List.getElem?_eq_none (by rw [List.length_set]; lia)] at h
   cases h
 ·rw [List.getElem?_set_ne e] at h
  exact .inr ⟨e,h⟩
theorem Slots.setVal (S:Slots K H0 B H τ σ) (i:Nat) (h:Rep K B d v):Slots K H0 B H (τ.set i (some (.val d))) (σ.set i (some v)) where
 len:=by rw [List.length_set,List.length_set,S.len]
 val:=fun j e q=>by
  rcases getSet q with ⟨rfl,z,l⟩ | ⟨n,q⟩
  ·cases z
   exact ⟨v,List.getElem?_set_self (by rw [S.len]; exact l),h⟩
  ·obtain ⟨w,q,r⟩:=S.val j e q
   exact ⟨w,by rw [List.getElem?_set_ne n]; exact q,r⟩
 fz:=fun j e q=>by
  rcases getSet q with ⟨rfl,z,l⟩ | ⟨n,q⟩
  ·cases z
  ·obtain ⟨w,q,r⟩:=S.fz j e q
   exact ⟨w,by rw [List.getElem?_set_ne n]; exact q,r⟩
 own:=fun j e q=>by
  rcases getSet q with ⟨rfl,z,l⟩ | ⟨n,q⟩
  ·cases z
  ·obtain ⟨w,q,r⟩:=S.own j e q
   exact ⟨w,by rw [List.getElem?_set_ne n]; exact q,r⟩
 sep:=fun j k e f c q1 q2 q3 q4=>by
  rcases getSet q1 with ⟨rfl,z,l⟩ | ⟨n,q1⟩
  ·cases z
  rcases getSet q2 with ⟨rfl,z,l⟩ | ⟨n2,q2⟩
  ·cases z
  rw [List.getElem?_set_ne n] at q3
  rw [List.getElem?_set_ne n2] at q4
  exact S.sep j k e f c q1 q2 q3 q4
theorem Slots.setOwn (S:Slots K H0 B H τ σ) (i:Nat) (h0:H0 a=none) (hb:B a=none) (o:OwnAt K B H d a) (nw:∀ (j:Nat) (e:D),τ[j]?=some (some (.own e))→σ[j]?≠some (some (.ref a))) :
  Slots K H0 B H (τ.set i (some (.own d))) (σ.set i (some (.ref a))) where
 len:=by rw [List.length_set,List.length_set,S.len]
 val:=fun j e q=>by
  rcases getSet q with ⟨rfl,z,l⟩ | ⟨n,q⟩
  ·cases z
  ·obtain ⟨w,q,r⟩:=S.val j e q
   exact ⟨w,by rw [List.getElem?_set_ne n]; exact q,r⟩
 fz:=fun j e q=>by
  rcases getSet q with ⟨rfl,z,l⟩ | ⟨n,q⟩
  ·cases z
  ·obtain ⟨w,q,r⟩:=S.fz j e q
   exact ⟨w,by rw [List.getElem?_set_ne n]; exact q,r⟩
 own:=fun j e q=>by
  rcases getSet q with ⟨rfl,z,l⟩ | ⟨n,q⟩
  ·cases z
   exact ⟨a,List.getElem?_set_self (by rw [S.len]; exact l),h0,hb,o⟩
  ·obtain ⟨w,q,r⟩:=S.own j e q
   exact ⟨w,by rw [List.getElem?_set_ne n]; exact q,r⟩
 sep:=fun j k e f c q1 q2 q3 q4=>by
  rcases getSet q1 with ⟨rfl,z,l⟩ | ⟨n,q1⟩
  ·rcases getSet q2 with ⟨rfl,z,l2⟩ | ⟨n2,q2⟩
   ·rfl
   ·rw [List.getElem?_set_self (by rw [S.len]; exact l)] at q3
    cases q3
    rw [List.getElem?_set_ne n2] at q4
    exact absurd q4 (nw k f q2)
  ·rcases getSet q2 with ⟨rfl,z,l2⟩ | ⟨n2,q2⟩
   ·rw [List.getElem?_set_self (by rw [S.len]; exact l2)] at q4
    cases q4
    rw [List.getElem?_set_ne n] at q3
    exact absurd q3 (nw j e q1)
   ·rw [List.getElem?_set_ne n] at q3
    rw [List.getElem?_set_ne n2] at q4
    exact S.sep j k e f c q1 q2 q3 q4
theorem Slots.upd (S:Slots K H0 B H τ σ) {i:Nat} {e:D} {o:HO} (hi:τ[i]?=some (some (.own e))) (ha:σ[i]?=some (some (.ref a))) (n:OwnAt K B (upd H a o) d a) :
  Slots K H0 B (upd H a o) (τ.set i (some (.own d))) σ where
 len:=by rw [List.length_set,S.len]
 val:=fun j f q=>by
  rcases getSet q with ⟨rfl,z,l⟩ | ⟨n,q⟩
  ·cases z
  ·exact S.val j f q
 fz:=fun j f q=>by
  rcases getSet q with ⟨rfl,z,l⟩ | ⟨n,q⟩
  ·cases z
  ·exact S.fz j f q
 own:=fun j f q=>by
  rcases getSet q with ⟨rfl,z,l⟩ | ⟨ne,q⟩
  ·cases z
   obtain ⟨c,q1,h0,hb,_⟩:=S.own i e hi
   rw [ha] at q1
   cases q1
   exact ⟨a,ha,h0,hb,n⟩
  ·obtain ⟨c,q1,h0,hb,w⟩:=S.own j f q
   refine ⟨c,q1,h0,hb,w.step (Same.refl _) (upd_ne fun z=>?_)⟩
   subst z
   exact ne (S.sep i j e f c hi q ha q1)
 sep:=fun j k e' f c q1 q2 q3 q4=>by
  have hj:∃ e',τ[j]?=some (some (.own e')):=by
   rcases getSet q1 with ⟨rfl,z,l⟩ | ⟨_,q⟩
   ·exact ⟨e,hi⟩
   ·exact ⟨_,q⟩
  have hk:∃ e',τ[k]?=some (some (.own e')):=by
   rcases getSet q2 with ⟨rfl,z,l⟩ | ⟨_,q⟩
   ·exact ⟨e,hi⟩
   ·exact ⟨_,q⟩
  obtain ⟨_,hj⟩:=hj
  obtain ⟨_,hk⟩:=hk
  exact S.sep j k _ _ c hj hk q3 q4
theorem Stp.upd (p:Stp B H B' H') {o:HO} (h0:H a=none) (hb:B' a=none):Stp B H B' (L2.upd H' a o) :=
 ⟨p.b,p.h.put h0,fun b u q=>by
  rw [upd_ne (fun z=>by rw [z,hb] at q; cases q)]
  exact p.s _ _ q,p.d⟩
noncomputable def frz (i:Nat) (τ:VSt):VSt:=match τ[i]? with
 | some (some (.own d))=>τ.set i (some (.val d))
 | _=>τ
theorem Slots.frz (S:Slots K H0 B' H' τ σ) (p:Stp B H0 B' H') (i:Nat):∃ B2,Stp B H0 B2 H'∧Same B' B2∧Slots K H0 B2 H' (frz i τ) σ:=by
 unfold L2.frz
 split
 ·rename_i d e
  obtain ⟨a,q,h0,hb,o⟩:=S.own i d e
  obtain ⟨u,eu,rp⟩:=o.pub hb
  refine ⟨L2.upd B' a u,⟨p.b.trans (same_upd hb _),p.h,same_updL p.s eu,fun c z=>?_⟩,same_upd hb _,?_⟩
  ·by_cases w:c=a
   ·exact .inr (.inl (w ▸ h0))
   ·rw [upd_ne w] at z
    exact p.d c z
  ·refine ⟨by rw [List.length_set,S.len],fun j f q'=>?_,fun j f q'=>?_,fun j f q'=>?_,fun j k f g c q1 q2 q3 q4=>?_⟩
   ·rcases getSet q' with ⟨rfl,z,l⟩ | ⟨n,q'⟩
    ·cases z
     exact ⟨_,q,rp⟩
    ·obtain ⟨w,q1,r⟩:=S.val j f q'
     exact ⟨w,q1,r.same (same_upd hb _)⟩
   ·rcases getSet q' with ⟨rfl,z,l⟩ | ⟨n,q'⟩
    ·cases z
    ·obtain ⟨w,q1,r⟩:=S.fz j f q'
     exact ⟨w,q1,r.same (same_upd hb _)⟩
   ·rcases getSet q' with ⟨rfl,z,l⟩ | ⟨n,q'⟩
    ·cases z
    ·obtain ⟨c,q1,h0',hb',w⟩:=S.own j f q'
     have ne:c≠a:=fun z=>by subst z; exact n (S.sep i j d f c e q' q q1)
     exact ⟨c,q1,h0',by rw [upd_ne ne]; exact hb',w.step (same_upd hb _) rfl⟩
   ·rcases getSet q1 with ⟨rfl,z,l⟩ | ⟨n,q1⟩
    ·cases z
    rcases getSet q2 with ⟨rfl,z,l⟩ | ⟨n2,q2⟩
    ·cases z
    exact S.sep j k f g c q1 q2 q3 q4
 ·exact ⟨B',p,Same.refl _,S⟩
end
end L2
namespace L2
open PySem PySem.Spec PyProof.Rows
noncomputable abbrev TV:=VSt→(R→Prop)→Prop
noncomputable abbrev TVT:=VSt→(Bool→Prop)→Prop
inductive AR where
 | ok (ds:List D)
 | exc (n:Str)
noncomputable abbrev TVA:=VSt→(AR→Prop)→Prop
noncomputable abbrev TVG:=D→VSt→(VSt→Prop)→Prop
structure VEnds where
 nx:VSt→Prop
 rt:R→Prop
 bk:VSt→Prop:=fun _=>False
 ct:VSt→Prop:=fun _=>False
 xc:VSt→Str→Prop:=fun _ _=>False
 ro:VSt→R→Prop:=fun _ _=>False
noncomputable abbrev TVS:=VEnds→VSt→Prop
section
variable (K:PySem.W.Frag) (EX:St→XK)
noncomputable def RfE (te:TE) (t:TV):Prop:=∀ (H0 B H:Hp) (τ:VSt) (σ:St) (Q:VK) (Qd:R→Prop),Same B H→Slots K H0 B H τ σ→t τ Qd→(∀ n C B' H',Stp B H B' H'→clsOf K n C→Qd (.exc n)→EX σ (.ref C) none H')→(∀ r v B' H',Stp B H B' H'→RepR K B' H H' r v→Qd r→Q v H')→te σ H Q
noncomputable def RfT (te:TT) (t:TVT):Prop:=∀ (H0 B H:Hp) (τ:VSt) (σ:St) (Q:Bool→Hp→Prop) (Qd:Bool→Prop),Same B H→Slots K H0 B H τ σ→t τ Qd→(∀ b B' H',Stp B H B' H'→Qd b→Q b H')→te σ H Q
noncomputable def RfA (te:TA) (t:TVA):Prop:=∀ (H0 B H:Hp) (τ:VSt) (σ:St) (Q:List V→Hp→Prop) (Qd:AR→Prop),Same B H→Slots K H0 B H τ σ→t τ Qd→(∀ n C B' H',Stp B H B' H'→clsOf K n C→Qd (.exc n)→EX σ (.ref C) none H')→(∀ ds vs B' H',Stp B H B' H'→Reps K B' ds vs→Qd (.ok ds)→Q vs H')→te σ H Q
noncomputable def RfO (r:R2) (rd:R→R→(R→Prop)→Prop):Prop:=∀ (B H:Hp) (x y:V) (rx ry:R) (Q:VK) (Qd:R→Prop),Same B H→Pk K B H rx x→Pk K B H ry y→rd rx ry Qd→(∀ r v B' H',Stp B H B' H'→RepR K B' H H' r v→Qd r→Q v H')→r x y H Q
noncomputable def RfC (r:List V→Hp→VK→Prop) (rd:R→(R→Prop)→Prop):Prop:=∀ (B H:Hp) (x:V) (rx:R) (Q:VK) (Qd:R→Prop),Same B H→Pk K B H rx x→rd rx Qd→(∀ r v B' H',Stp B H B' H'→RepR K B' H H' r v→Qd r→Q v H')→r [x] H Q
noncomputable def Kp (τ:VSt) (σ:St) (τ':VSt) (σ':St):Prop:=∀ (j:Nat) (e:D),τ'[j]?=some (some (R.own e))→τ[j]?=some (some (R.own e))∧σ'[j]?=σ[j]?
noncomputable def RfG (g:TG) (t:TVG):Prop:=∀ (H0 B H:Hp) (τ:VSt) (σ:St) (x:V) (d:D) (Q:St→Hp→Prop) (Qd:VSt→Prop),Same B H→Slots K H0 B H τ σ→Rep K B d x→t d τ Qd→(∀ τ' σ',Slots K H0 B H τ' σ'→Kp τ σ τ' σ'→Qd τ'→Q σ' H)→g x σ H Q
noncomputable def RfGs (g:TGs) (t:List D→VSt→(VSt→Prop)→Prop):Prop:=∀ (H0 B H:Hp) (τ:VSt) (σ:St) (xs:List V) (ds:List D) (Q:St→Hp→Prop) (Qd:VSt→Prop),Same B H→Slots K H0 B H τ σ→Reps K B ds xs→t ds τ Qd→(∀ τ' σ',Slots K H0 B H τ' σ'→Kp τ σ τ' σ'→Qd τ'→Q σ' H)→g xs σ H Q
noncomputable def ItOk (B:Hp) (J:It) (ds:List D):Prop:=∀ (i:Nat) (B2 H:Hp),Same B B2→Same B2 H→(∀ d,ds[i]?=some d→J.go i H∧∀ x H',J.yld i H x H'→∃ B3,Stp B2 H B3 H'∧Rep K B3 d x)∧(ds[i]?=none→J.stop i H)
noncomputable def RfI (wi:TI) (vi:TVA):Prop:=∀ (H0 B H:Hp) (τ:VSt) (σ:St) (Q:It→Hp→Prop) (Qd:AR→Prop),Same B H→Slots K H0 B H τ σ→vi τ Qd→(∀ n C B' H',Stp B H B' H'→clsOf K n C→Qd (.exc n)→EX σ (.ref C) none H')→(∀ J ds B' H',Stp B H B' H'→ItOk K B' J ds→Qd (.ok ds)→Q J H')→wi σ H Q
noncomputable def RfF (ti:TF) (t:TVT):Prop:=∀ (H0 B H:Hp) (τ:VSt) (σ:St) (Y N:Hp→Prop) (Qd:Bool→Prop),Same B H→Slots K H0 B H τ σ→t τ Qd→(∀ b B' H',Stp B H B' H'→Qd b→if b=true then Y H' else N H')→ti σ H Y N
structure EndsOk (B0 H0:Hp) (Dv:VEnds) (Dh:Ends):Prop where
 nx:∀ B H τ σ,Stp B0 H0 B H→Slots K H0 B H τ σ→Dv.nx τ→Dh.nx σ H
 rt:∀ r v B H,Stp B0 H0 B H→RepR K B H0 H r v→Dv.rt r→Dh.rt v H
 bk:∀ B H τ σ,Stp B0 H0 B H→Slots K H0 B H τ σ→Dv.bk τ→Dh.bk σ H
 ct:∀ B H τ σ,Stp B0 H0 B H→Slots K H0 B H τ σ→Dv.ct τ→Dh.ct σ H
 xc:∀ B H τ σ n C,Stp B0 H0 B H→Slots K H0 B H τ σ→clsOf K n C→Dv.xc τ n→EX σ (.ref C) none H
 ro:∀ r v B H τ σ,Stp B0 H0 B H→Slots K H0 B H τ σ→RepR K B H0 H r v→(∀ (d:D) (i:Nat) (c:Addr) (ds:List D),r=R.own d→τ[i]?=some (some (R.own (.io c ds)))→v≠.ref c)→Dv.ro τ r→Dh.rt v H
noncomputable def RfS (ts:TS) (t:TVS):Prop:=∀ (B0 H0 B H:Hp) (τ:VSt) (σ:St) (Dv:VEnds) (Dh:Ends),Stp B0 H0 B H→Slots K H0 B H τ σ→t Dv τ→EndsOk K EX B0 H0 Dv Dh→ts Dh σ H
end
section
structure VE (X:Cx) (EX:St→XK) (e:Expr) (t:TV):Prop where
 u:∃ te,QE X e te∧RfE X.K EX te t
structure VC (X:Cx) (EX:St→XK) (e:Expr) (t:TV):Prop where
 u:∃ te,QC X e te∧RfE X.K EX te t
structure VT (X:Cx) (EX:St→XK) (e:Expr) (t:TVT):Prop where
 u:∃ te,QT X e te∧RfT X.K te t
structure VW (X:Cx) (EX:St→XK) (e:Expr) (t:TVT):Prop where
 u:∃ te,QW X e te∧RfT X.K te t
structure VA (X:Cx) (EX:St→XK) (es:List Expr) (t:TVA):Prop where
 u:∃ te,QA X es te∧RfA X.K EX te t
structure VI (X:Cx) (EX:St→XK) (tg e:Expr) (t:TVA):Prop where
 u:∃ wi,QI X tg e wi∧RfI X.K EX wi t
structure VFs (X:Cx) (EX:St→XK) (ifs:List Expr) (t:TVT):Prop where
 u:∃ ti,QF X ifs ti∧RfF X.K ti t
structure VS (X:Cx) (EX:St→XK) (st:Stmt) (t:TVS):Prop where
 u:∃ ts,QS X st ts∧RfS X.K EX ts t
structure VSs (X:Cx) (EX:St→XK) (st:List Stmt) (t:TVS):Prop where
 u:∃ ts,QSs X st ts∧RfS X.K EX ts t
end
section
variable (X:Cx)
structure VO (f:Value→Value→Sem Value) (rd:R→R→(R→Prop)→Prop):Prop where
 u:∃ r,OpR X f r∧RfO X.K r rd
structure VX (rd:R→R→(R→Prop)→Prop):Prop where
 u:∃ r,IxR X r∧RfO X.K r rd
structure VF (f:Value) (rd:R→(R→Prop)→Prop):Prop where
 u:∃ r,CallR X f r∧RfC X.K r rd
structure VG (tg:Expr) (t:TVG):Prop where
 u:∃ g,QG X tg g∧RfG X.K g t
structure VGs (ts:List Expr) (t:List D→VSt→(VSt→Prop)→Prop):Prop where
 u:∃ g,QGs X ts g∧RfGs X.K g t
end
section
variable {X:Cx} {EX:St→XK} {K:PySem.W.Frag} {a b c e o i:Expr} {es:List Expr} {pos pos' p p2 apos cpos:Pos} {x:Str} {ta tb tc te:TV} {tA:TVA} {tT tU:TVT} {B H B' H' H0 H1 H2:Hp} {r:R} {v:V}
theorem RepR.back (h:RepR K B H1 H2 r v) (s:Same H H1):RepR K B H H2 r v:=by
 cases r with
 | val d=>exact h
 | own d =>
  obtain ⟨a,e,h0,q⟩:=h
  exact ⟨a,e,s.free h0,q⟩
 | peek d=>exact h
 | exc n=>exact h
theorem Pk.scal {z:V} (h:Pk K B H r v) (e:dV r.d=some z):v=z:=by
 cases r with
 | val d =>
  have e':dV d=some z:=e
  have h':Rep K B d v:=h
  cases d <;> first | (unfold Rep at h'; subst h'; exact Option.some.inj e') | (cases e'; done)
 | own d =>
  obtain ⟨a,_,_,q⟩:=h
  have e':dV d=some z:=e
  cases d <;> first | (cases e'; done) | exact q.elim
 | peek d =>
  obtain ⟨a,_,_,q⟩:=h
  have e':dV d=some z:=e
  cases d <;> first | (cases e'; done) | exact q.elim
 | exc n=>exact h.elim
theorem Pk.tup {ds:List D} (h:Pk K B H r v) (e:r.d=.tup ds):∃ a xs,v=.ref a∧TupAt K B a ds xs∧Reps K B ds xs:=by
 cases r with
 | val d =>
  cases (show d=_ from e)
  have h':Rep K B (.tup ds) v:=h
  unfold Rep at h'
  exact h'
 | own d=>cases (show d=_ from e); obtain ⟨_,_,_,q⟩:=h; exact q.elim
 | peek d=>cases (show d=_ from e); obtain ⟨_,_,_,q⟩:=h; exact q.elim
 | exc n=>exact h.elim
theorem Pk.lst {ds:List D} (s:Same B H) (h:Pk K B H r v) (e:r.d=.lst ds):∃ a xs,v=.ref a∧H a=some (.lst xs)∧Reps K B ds xs:=by
 cases r with
 | val d =>
  cases (show d=_ from e)
  have h':Rep K B (.lst ds) v:=h
  unfold Rep at h'
  obtain ⟨a,xs,rfl,q,rp⟩:=h'
  exact ⟨a,xs,rfl,s _ _ q,rp⟩
 | own d=>cases (show d=_ from e); obtain ⟨a,rfl,_,xs,q,rp⟩:=h; exact ⟨a,xs,rfl,q,rp⟩
 | peek d=>cases (show d=_ from e); obtain ⟨a,rfl,_,xs,q,rp⟩:=h; exact ⟨a,xs,rfl,q,rp⟩
 | exc n=>exact h.elim
theorem Pk.scr {ns:List Int} (s:Same B H) (h:Pk K B H r v) (e:r.d=.scr ns):∃ a,v=.ref a∧SqL K H a (ns.map V.int):=by
 cases r with
 | val d =>
  cases (show d=_ from e)
  have h':Rep K B (.scr ns) v:=h
  unfold Rep at h'
  obtain ⟨a,rfl,q⟩:=h'
  exact ⟨a,rfl,s.seq q⟩
 | own d=>cases (show d=_ from e); obtain ⟨_,_,_,q⟩:=h; exact q.elim
 | peek d=>cases (show d=_ from e); obtain ⟨_,_,_,q⟩:=h; exact q.elim
 | exc n=>exact h.elim
theorem rep_dV {d:D} {z:V} (e:dV d=some z):Rep K B d z:=by
 cases d <;> first | (cases e; done) | (unfold Rep; exact (Option.some.inj e).symm)
theorem repV {d:D} {z:V} (e:dV d=some z):RepR K B H0 H (.val d) z:=rep_dV e
theorem xst {B1:Hp} {σ:St} {P:Str→Prop} (x:∀ n C B' H',Stp B H B' H'→clsOf K n C→P n→EX σ (.ref C) none H') (p:Stp B H B1 H1):∀ n C B' H',Stp B1 H1 B' H'→clsOf K n C→P n→EX σ (.ref C) none H':=fun n C B' H' q c h=>x n C B' H' (p.trans q) c h
theorem xno {σ:St} {P:Str→Prop} (h:∀ n,¬ P n):∀ n C B' H',Stp B H B' H'→clsOf K n C→P n→EX σ (.ref C) none H':=fun n _ _ _ _ _ q=>absurd q (h n)
noncomputable def vVar (i:Nat):TV:=fun τ Q=>match τ[i]? with
 | some (some (.val d))=>Q (.val d)
 | some (some (.own d))=>Q (.peek d)
 | some (some (.peek d))=>Q (.val d)
 | _=>False
theorem rf_var {i:Nat}:RfE K EX (tVar i) (vVar i):=fun H0 B H τ σ Q Qd s S h _ k=>by
 unfold vVar at h
 split at h
 ·rename_i d e
  obtain ⟨v,q,rp⟩:=S.val i d e
  exact ⟨v,q,k (.val d) v B H (.refl s) rp h⟩
 ·rename_i d e
  obtain ⟨a,q,_,hb,ow⟩:=S.own i d e
  exact ⟨.ref a,q,k (.peek d) (.ref a) B H (.refl s) ⟨a,rfl,hb,ow⟩ h⟩
 ·rename_i d e
  obtain ⟨v,q,rp⟩:=S.fz i d e
  exact ⟨v,q,k (.val d) v B H (.refl s) rp.rep h⟩
 ·exact h.elim
theorem vv (i:Nat) (hN:X.N[i]?=some x:=by rfl) (hv:Vis X.env.scope x:=by first | exact Or.inl rfl | exact Or.inr (Or.inl rfl) | exact Or.inr (Or.inr rfl)) (hd:(x == ("__debug__" : Str))=false:=by decide)
  (hcd:(x == ("__classdict__" : Str))=false:=by decide):VE X EX (.Name x pos) (vVar i):=⟨_,qv i hN hv hd hcd,rf_var⟩
noncomputable def vC (d:D):TV:=fun _ Q=>Q (.val d)
theorem rf_c {d:D} {z:V} (e:dV d=some z):RfE K EX (tC z) (vC d):=fun _ B H _ _ _ _ s _ h _ k=>k (.val d) z B H (.refl s) (rep_dV e) h
theorem ve_int {k:Int} {j:Nat}:VE X EX (.Constant (.int k) j pos) (vC (.int k)):=⟨_,qe_int,rf_c rfl⟩
theorem ve_bl {k:Bool} {j:Nat}:VE X EX (.Constant (.bool k) j pos) (vC (.bl k)):=⟨_,qe_bl,rf_c rfl⟩
theorem ve_non {j:Nat}:VE X EX (.Constant .none j pos) (vC .non):=⟨_,qe_non,rf_c rfl⟩
theorem ve_str {z:Str} {j:Nat}:VE X EX (.Constant (.str z) j pos) (vC (.str z)):=⟨_,qe_str,rf_c rfl⟩
theorem RepR.ok {Q:R→Prop} {k:Prop} (h:RepR K B H0 H r v) (q:exR r Q k):k:=by
 cases r with
 | exc n=>exact h.elim
 | val d=>exact q
 | own d=>exact q
 | peek d=>exact q
noncomputable def vOp (rd:R→R→(R→Prop)→Prop) (ta tb:TV):TV:=fun τ Q=>ta τ fun rx=>exR rx Q (tb τ fun ry=>exR ry Q (rd rx ry Q))
theorem rf_op {rr:R2} {rd:R→R→(R→Prop)→Prop} {ea eb:TE} (hr:RfO K rr rd) (ha:RfE K EX ea ta) (hb:RfE K EX eb tb):RfE K EX (tOp rr ea eb) (vOp rd ta tb):=fun H0 B H τ σ Q Qd s S h xc k =>
 ha H0 B H τ σ _ _ s S h xc fun rx x B1 H1 p1 q1 h1=>hb H0 B1 H1 τ σ _ _ p1.s (S.step p1) (q1.ok h1) (xst xc p1) fun ry y B2 H2 p2 q2 h2 =>
  hr B2 H2 x y rx ry _ _ p2.s (q1.pk.step p2) q2.pk (q2.ok h2) fun r v B3 H3 p3 q3 h3=>k r v B3 H3 (p1.trans (p2.trans p3)) (q3.back (p1.trans p2).h) h3
theorem ve_op {op:Operator} {rd:R→R→(R→Prop)→Prop} (hr:VO X (binaryOp op) rd) (ha:VE X EX a ta) (hb:VE X EX b tb):VE X EX (.BinOp a op b pos) (vOp rd ta tb) :=
 let ⟨_,h1,h2⟩:=hr.u; let ⟨_,a1,a2⟩:=ha.u; let ⟨_,b1,b2⟩:=hb.u; ⟨_,qe_op h1 a1 b1,rf_op h2 a2 b2⟩
theorem ve_cmp {op:CmpOp} {rd:R→R→(R→Prop)→Prop} (hr:VO X (compareOp op) rd) (ha:VE X EX a ta) (hb:VE X EX b tb) (hm:behindInMarks op b=false:=by with_unfolding_all rfl):VE X EX (.Compare a [op] [b] pos) (vOp rd ta tb) :=
 let ⟨_,h1,h2⟩:=hr.u; let ⟨_,a1,a2⟩:=ha.u; let ⟨_,b1,b2⟩:=hb.u; ⟨_,qe_cmpR h1 a1 b1 hm,rf_op h2 a2 b2⟩
theorem ve_ix {rd:R→R→(R→Prop)→Prop} (hr:VX X rd) (ha:VE X EX a ta) (hb:VE X EX b tb) (hs:PlainIx b:=by exact fun _ _=>rfl):VE X EX (.Subscript a b pos) (vOp rd ta tb) :=
 let ⟨_,h1,h2⟩:=hr.u; let ⟨_,a1,a2⟩:=ha.u; let ⟨_,b1,b2⟩:=hb.u; ⟨_,qe_ix h1 a1 b1 hs,rf_op h2 a2 b2⟩
noncomputable def vBl (t:TV):TVT:=fun τ Q=>t τ fun r=>match r.d with
 | .bl b=>Q b
 | _=>False
theorem rf_bl {ea:TE} (ha:RfE K EX ea ta):RfT K (tB ea) (vBl ta):=fun H0 B H τ σ Q Qd s S h k=>ha H0 B H τ σ _ _ s S h (xno fun _ q=>q) fun r v B' H' p q h1=>by
 split at h1
 ·rename_i bb e
  exact ⟨bb,q.pk.scal (by rw [e]; rfl),k bb B' H' p h1⟩
 ·exact h1.elim
theorem vt_val (ha:VE X EX e ta) (he:∀ whole,isTrue e X.env whole=(do let v ← whole; standAt e.pos; holding [v] (truthy v)):=by intro _; rfl):VT X EX e (vBl ta) :=
 let ⟨_,a1,a2⟩:=ha.u; ⟨_,qt_val a1 he,rf_bl a2⟩
theorem vt_cmp {op:CmpOp} {rd:R→R→(R→Prop)→Prop} (hr:VO X (compareOp op) rd) (ha:VE X EX a ta) (hb:VE X EX b tb) (hm:behindInMarks op b=false:=by with_unfolding_all rfl):VT X EX (.Compare a [op] [b] pos) (vBl (vOp rd ta tb)) :=
 let ⟨_,h1,h2⟩:=hr.u; let ⟨_,a1,a2⟩:=ha.u; let ⟨_,b1,b2⟩:=hb.u; ⟨_,qt_cmpR h1 a1 b1 hm,rf_bl (rf_op h2 a2 b2)⟩
noncomputable def vAndT (t u:TVT):TVT:=fun τ Q=>t τ fun c=>if c=true then u τ Q else Q false
noncomputable def vOrT (t u:TVT):TVT:=fun τ Q=>t τ fun c=>if c=true then Q true else u τ Q
noncomputable def vNotT (t:TVT):TVT:=fun τ Q=>t τ fun c=>Q (!c)
theorem rf_not {e1:TT} (h1:RfT K e1 tT):RfT K (tNot e1) (vNotT tT):=fun H0 B H τ σ Q Qd s S h k=>h1 H0 B H τ σ _ _ s S h fun b B' H' p q=>k _ B' H' p q
theorem rf_and {e1 e2:TT} (h1:RfT K e1 tT) (h2:RfT K e2 tU):RfT K (tAnd e1 e2) (vAndT tT tU):=fun H0 B H τ σ Q Qd s S h k=>h1 H0 B H τ σ _ _ s S h fun b B' H' p q=>by
 cases b with
 | true=>exact iteT (h2 H0 B' H' τ σ _ _ p.s (S.step p) (by rw [if_pos rfl] at q; exact q) fun b2 B2 H2 p2 q2=>k b2 B2 H2 (p.trans p2) q2)
 | false=>exact iteF (k false B' H' p (by rw [if_neg Bool.false_ne_true] at q; exact q))
theorem rf_or {e1 e2:TT} (h1:RfT K e1 tT) (h2:RfT K e2 tU):RfT K (tOr e1 e2) (vOrT tT tU):=fun H0 B H τ σ Q Qd s S h k=>h1 H0 B H τ σ _ _ s S h fun b B' H' p q=>by
 cases b with
 | true=>exact iteT (k true B' H' p (by rw [if_pos rfl] at q; exact q))
 | false=>exact iteF (h2 H0 B' H' τ σ _ _ p.s (S.step p) (by rw [if_neg Bool.false_ne_true] at q; exact q) fun b2 B2 H2 p2 q2=>k b2 B2 H2 (p.trans p2) q2)
theorem vt_not (h:VT X EX a tT):VT X EX (.UnaryOp .Not a pos) (vNotT tT):=let ⟨_,a1,a2⟩:=h.u; ⟨_,qt_not a1,rf_not a2⟩
theorem vw_and1 (h:VT X EX a tT):VW X EX (.BoolOp .And [a] pos) tT:=let ⟨_,a1,a2⟩:=h.u; ⟨_,qw_and1 a1,a2⟩
theorem vw_or1 (h:VT X EX a tT):VW X EX (.BoolOp .Or [a] pos) tT:=let ⟨_,a1,a2⟩:=h.u; ⟨_,qw_or1 a1,a2⟩
theorem vw_and (ha:VT X EX a tT) (hb:VW X EX (.BoolOp .And (b :: es) pos) tU):VW X EX (.BoolOp .And (a :: b :: es) pos) (vAndT tT tU):=let ⟨_,a1,a2⟩:=ha.u; let ⟨_,b1,b2⟩:=hb.u; ⟨_,qw_and a1 b1,rf_and a2 b2⟩
theorem vw_or (ha:VT X EX a tT) (hb:VW X EX (.BoolOp .Or (b :: es) pos) tU):VW X EX (.BoolOp .Or (a :: b :: es) pos) (vOrT tT tU):=let ⟨_,a1,a2⟩:=ha.u; let ⟨_,b1,b2⟩:=hb.u; ⟨_,qw_or a1 b1,rf_or a2 b2⟩
theorem vw_t (h:VW X EX e tT):VT X EX e tT:=let ⟨_,a1,a2⟩:=h.u; ⟨_,qw_t a1,a2⟩
noncomputable def vAndE (ta tb:TV):TV:=fun τ Q=>ta τ fun r=>match r.d with
 | .bl c=>if c=true then tb τ Q else Q (.val (.bl false))
 | _=>False
noncomputable def vOrE (ta tb:TV):TV:=fun τ Q=>ta τ fun r=>match r.d with
 | .bl c=>if c=true then Q (.val (.bl true)) else tb τ Q
 | _=>False
noncomputable def vNotE (ta:TV):TV:=fun τ Q=>ta τ fun r=>match r.d with
 | .bl c=>Q (.val (.bl (!c)))
 | _=>False
theorem ve_one {op:BoolOp} (h:VE X EX a ta):VE X EX (.BoolOp op [a] pos) ta:=let ⟨_,a1,a2⟩:=h.u; ⟨_,qe_one a1,a2⟩
theorem ve_and (ha:VE X EX a ta) (hb:VE X EX (.BoolOp .And (b :: es) pos) tb):VE X EX (.BoolOp .And (a :: b :: es) pos) (vAndE ta tb) :=
 let ⟨_,a1,a2⟩:=ha.u; let ⟨_,b1,b2⟩:=hb.u; ⟨_,qe_and a1 b1,fun H0 B H τ σ Q Qd s S h xc k=>a2 H0 B H τ σ _ _ s S h (xno fun _ q=>q) fun r v B' H' p q h1=>by
  split at h1
  ·rename_i c e
   refine ⟨c,q.pk.scal (by rw [e]; rfl),?_⟩
   cases c with
   | true=>exact iteT (b2 H0 B' H' τ σ _ _ p.s (S.step p) (by rw [if_pos rfl] at h1; exact h1) (xst xc p) fun r2 v2 B2 H2 p2 q2 h2=>k r2 v2 B2 H2 (p.trans p2) (q2.back p.h) h2)
   | false=>exact iteF (k (.val (.bl false)) _ B' H' p (repV (d:=.bl false) rfl) (by rw [if_neg Bool.false_ne_true] at h1; exact h1))
  ·exact h1.elim⟩
theorem ve_or (ha:VE X EX a ta) (hb:VE X EX (.BoolOp .Or (b :: es) pos) tb):VE X EX (.BoolOp .Or (a :: b :: es) pos) (vOrE ta tb) :=
 let ⟨_,a1,a2⟩:=ha.u; let ⟨_,b1,b2⟩:=hb.u; ⟨_,qe_or a1 b1,fun H0 B H τ σ Q Qd s S h xc k=>a2 H0 B H τ σ _ _ s S h (xno fun _ q=>q) fun r v B' H' p q h1=>by
  split at h1
  ·rename_i c e
   refine ⟨c,q.pk.scal (by rw [e]; rfl),?_⟩
   cases c with
   | true=>exact iteT (k (.val (.bl true)) _ B' H' p (repV (d:=.bl true) rfl) (by rw [if_pos rfl] at h1; exact h1))
   | false=>exact iteF (b2 H0 B' H' τ σ _ _ p.s (S.step p) (by rw [if_neg Bool.false_ne_true] at h1; exact h1) (xst xc p) fun r2 v2 B2 H2 p2 q2 h2=>k r2 v2 B2 H2 (p.trans p2) (q2.back p.h) h2)
  ·exact h1.elim⟩
noncomputable def vIfE (tT:TVT) (ta tb:TV):TV:=fun τ Q=>tT τ fun c=>if c=true then ta τ Q else tb τ Q
noncomputable def exA:AR→(R→Prop)→(List D→Prop)→Prop
 | .ok ds,_,k=>k ds
 | .exc n,Q,_=>Q (.exc n)
noncomputable def vNil:TVA:=fun _ Q=>Q (.ok [])
noncomputable def moreA (d:D):AR→AR
 | .ok ds=>.ok (d :: ds)
 | .exc n=>.exc n
noncomputable def excA:R→(AR→Prop)→Prop→Prop
 | .exc n,Q,_=>Q (.exc n)
 | .val _,_,k=>k
 | .own _,_,k=>k
 | .peek _,_,k=>k
theorem RepR.okA {Q:AR→Prop} {k:Prop} (h:RepR K B H0 H r v) (q:excA r Q k):k:=by
 cases r with
 | exc n=>exact h.elim
 | val d=>exact q
 | own d=>exact q
 | peek d=>exact q
noncomputable def vCons (te:TV) (tA:TVA):TVA:=fun τ Q=>te τ fun r=>excA r Q (pubR r fun d=>tA τ fun a=>Q (moreA d a))
theorem va_nil:VA X EX [] vNil:=⟨_,qa_nil,fun _ B H _ _ _ _ s _ h _ k=>k [] [] B H (.refl s) (by unfold Reps; rfl) h⟩
theorem vac (ha:VE X EX e te) (hr:VA X EX es tA) (hs:plainE e=true:=by rfl):VA X EX (e :: es) (vCons te tA) :=
 let ⟨_,a1,a2⟩:=ha.u; let ⟨_,b1,b2⟩:=hr.u; ⟨_,qac a1 b1 hs,fun H0 B H τ σ Q Qd s S h xc k=>a2 H0 B H τ σ _ _ s S h xc fun r v B1 H1 p q h1=>by
  obtain ⟨d,B2,p2,_,rp,h2⟩:=pub p q (q.okA h1)
  exact b2 H0 B2 H1 τ σ _ _ p2.s (S.step p2) h2 (xst xc p2) fun ds vs B3 H3 p3 q3 h3=>k (d :: ds) (v :: vs) B3 H3 (p2.trans p3) (by unfold Reps; exact ⟨v,vs,rfl,rp.same p3.b,q3⟩) h3⟩
noncomputable def vTup (tA:TVA):TV:=fun τ Q=>tA τ fun a=>exA a Q fun ds=>ds.length≤sizeLine∧Q (.val (.tup ds))
noncomputable def vLst (tA:TVA):TV:=fun τ Q=>tA τ fun a=>exA a Q fun ds=>ds.length≤sizeLine∧Q (.own (.lst ds))
theorem rep_newT {ds:List D} {xs:List V} {q:Addr} (h:Reps K B ds xs) (hb:B q=none):Rep K (upd B q (.tup xs)) (.tup ds) (.ref q):=by
 unfold Rep
 exact ⟨q,xs,rfl,.inl upd_same,h.same (same_upd hb _)⟩
theorem own_newL {ds:List D} {xs:List V} {q:Addr} (h:Reps K B ds xs):OwnAt K B (upd H q (.lst xs)) (.lst ds) q:=⟨xs,upd_same,h⟩
theorem ve_tup {k:Nat} (h:VA X EX es tA):VE X EX (.Tuple es k pos) (vTup tA) :=
 let ⟨_,a1,a2⟩:=h.u; ⟨_,qe_tup a1,fun H0 B H τ σ Q Qd s S h xc k=>a2 H0 B H τ σ _ _ s S h xc fun ds vs B1 H1 p q h1 =>
  ⟨by rw [← q.length]; exact h1.1,fun ad had=>k (.val (.tup ds)) _ (upd B1 ad (.tup vs)) _ (p.trans (.new p.s had)) (rep_newT q (p.s.free had)) h1.2⟩⟩
theorem ve_lst (h:VA X EX es tA):VE X EX (.List es pos) (vLst tA) :=
 let ⟨_,a1,a2⟩:=h.u; ⟨_,qe_lst a1,fun H0 B H τ σ Q Qd s S h xc k=>a2 H0 B H τ σ _ _ s S h xc fun ds vs B1 H1 p q h1 =>
  ⟨by rw [← q.length]; exact h1.1,fun ad had=>k (.own (.lst ds)) _ B1 _ (p.trans (.grow p.s (same_upd had _))) ⟨ad,rfl,p.h.free had,p.s.free had,own_newL q⟩ h1.2⟩⟩
noncomputable abbrev DP:=List D→(R→Prop)→Prop
noncomputable def spOf (K:PySem.W.Frag) (g:DP):Sp:=fun vs H Q E=>∃ ds B Qd,Same B H∧Reps K B ds vs∧g ds Qd∧(∀ n C B' H',Qd (.exc n)→Stp B H B' H'→clsOf K n C→E (.ref C) none H')∧∀ r v B' H',Qd r→Stp B H B' H'→RepR K B' H H' r v→Q v H'
noncomputable def vCall (g:DP) (tA:TVA):TV:=fun τ Q=>tA τ fun a=>exA a Q fun ds=>g ds Q
noncomputable def vCallN (g:DP) (tA:TVA):TV:=fun τ Q=>tA τ fun a=>exA a Q fun ds=>g ds fun r=>exR r (fun _=>False) (Q r)
theorem ve_cal {k:Nat} {ps:List Str} {g:DP} (C:Cal X.prog X.w X.K X.mg X.base k x ps (spOf X.K g)) (hr:Room k X.A) (hg:Gl X x) (ha:VA X EX (e :: es) tA) (hp:(e :: es).all plainE=true:=by rfl) (hdb:(x == ("__debug__" : Str))=false:=by decide) :
  VE X EX (.Call (.Name x p) (e :: es) [] pos) (vCallN g tA) :=
 let ⟨_,a1,a2⟩:=ha.u; ⟨_,qe_cal C hr hg a1 hp hdb,fun H0 B H τ σ Q Qd s S h xc k=>a2 H0 B H τ σ _ _ s S h xc fun ds vs B1 H1 p q h1 =>
  ⟨ds,B1,_,p.s,by rw [List.append_nil]; exact q,h1,fun n C B' H' hq _ _=>hq.elim,fun r v B2 H2 hq p2 q2=>k r v B2 H2 (p.trans p2) (q2.back p.h) (q2.ok hq)⟩⟩
noncomputable def vF1 (rd:R→(R→Prop)→Prop) (te:TV):TV:=fun τ Q=>te τ fun r=>exR r Q (rd r Q)
theorem rf_f1 {rr:List V→Hp→VK→Prop} {rd:R→(R→Prop)→Prop} {ea:TE} (hr:RfC K rr rd) (ha:RfE K EX ea te):RfE K EX (tCB rr (tCons ea tNil)) (vF1 rd te):=fun H0 B H τ σ Q Qd s S h xc k =>
 ha H0 B H τ σ _ _ s S h xc fun rx x B1 H1 p1 q1 h1=>hr B1 H1 x rx _ _ p1.s q1.pk (q1.ok h1) fun r v B2 H2 p2 q2 h2=>k r v B2 H2 (p1.trans p2) (q2.back p1.h) h2
theorem ve_fb {id:String} {rd:R→(R→Prop)→Prop} (hc:VF X (.builtin id) rd) (hg:Gl X x) (hm:X.mg x=none) (hv:bootBuiltins x=some (.builtin id)) (ha:VE X EX e te) (hp:plainE e=true:=by rfl) (hn:x≠"__name__" := by decide)
  (hdb:(x == ("__debug__" : Str))=false:=by decide):VE X EX (.Call (.Name x p) [e] [] pos) (vF1 rd te) :=
 let ⟨_,c1,c2⟩:=hc.u; let ⟨_,a1,a2⟩:=ha.u; ⟨_,qcb c1 hg hm hv (qac a1 qa_nil hp) (by simp [hp]) hn hdb,rf_f1 c2 a2⟩
theorem ve_ft {T:String} {rd:R→(R→Prop)→Prop} (hc:VF X (.type T) rd) (hg:Gl X x) (hm:X.mg x=none) (hv:bootBuiltins x=some (.type T)) (ha:VE X EX e te) (hp:plainE e=true:=by rfl) (hn:x≠"__name__" := by decide)
  (hdb:(x == ("__debug__" : Str))=false:=by decide):VE X EX (.Call (.Name x p) [e] [] pos) (vF1 rd te) :=
 let ⟨_,c1,c2⟩:=hc.u; let ⟨_,a1,a2⟩:=ha.u; ⟨_,qct c1 hg hm hv (qac a1 qa_nil hp) (by simp [hp]) hn hdb,rf_f1 c2 a2⟩
end
end L2
namespace L2
open PySem PySem.Spec PyProof.Rows
section
variable {X:Cx} {EX:St→XK} {K:PySem.W.Frag} {B H B' H' H0:Hp}
theorem op_catP:OpR X (binaryOp .Add) (fun x y H Q=>∃ a b xs ys,x=.ref a∧y=.ref b∧SqT X.K H a xs∧SqT X.K H b ys∧xs.length+ys.length≤sizeLine∧(xs=[]→Q (.ref b) H)∧(xs≠[]→ys=[]→Q (.ref a) H) ∧
  (xs≠[]→ys≠[]→∀ p,H p=none→Q (.ref p) (upd H p (.tup (xs++ys))))):=by
 intro pins s σ H x y v u Q I rx ry h
 obtain ⟨a,b,xs,ys,rfl,rfl,ha,hb,hz,q1,q2,q3⟩:=h
 by_cases hx:xs=[]
 ·subst hx
  cases rx
  cases ry
  obtain ⟨its,r1,p1,_⟩:=I.tuple ha
  obtain ⟨its2,r2,p2,_⟩:=I.tuple hb
  obtain ⟨⟨cls,dd,data,sl⟩,ho,hc,n,hd⟩:=id p1
  obtain ⟨⟨cls2,dd2,data2,sl2⟩,ho2,hc2,n2,hd2⟩:=id p2
  simp only at hc hd hc2 hd2
  subst hc hd hc2 hd2
  have e1:its=[]:=r1.nil_iff.mpr rfl
  exact concat_meets ⟨_,ho,rfl⟩ ⟨_,ho2,rfl⟩ noFill_tuple_add seq_tuple_add PySem.F.slot_tuple_add PySem.F.entry_tuple_add (PySem.F.args_tuple_add_2 _ _)
   (tuple_addW0 a b its.toArray its2.toArray n n2 dd dd2 sl sl2 (by simp [e1])) ⟨ho,ho2,⟨.ref b,H,I,rfl,q1 rfl⟩⟩
 ·exact op_catT pins s σ H (.ref a) (.ref b) v u Q I rx ry ⟨a,b,xs,ys,rfl,rfl,ha,hb,hx,hz,fun e=>q2 hx e,fun e p hp=>q3 hx e p hp⟩
theorem sl_tupP:SlR X (fun x lo hi H Q=>∃ a xs,x=.ref a∧SqT X.K H a xs∧((HT.sIx xs.length 0 lo=0∧HT.sIx xs.length xs.length hi=xs.length)→Q (.ref a) H) ∧
  (¬ (HT.sIx xs.length 0 lo=0∧HT.sIx xs.length xs.length hi=xs.length)→∀ p,H p=none→Q (.ref p) (upd H p (.tup (cutV xs lo hi))))):=by
 intro pins s σ H x v vl vu lo hi sl Q I rx hs pl pu h
 obtain ⟨a,xs,rfl,hx,q1,q2⟩:=h
 by_cases hw:HT.sIx xs.length 0 lo=0∧HT.sIx xs.length xs.length hi=xs.length
 ·cases rx
  obtain ⟨its,r,ht,hz⟩:=I.tuple hx
  have hlen:its.toArray.size=xs.length:=by rw [List.size_toArray]; exact r.length.symm
  refine ⟨"tuple",_,PyProof.Rows.slot_tuple_getitem.lookup,ht.typeIs,?_⟩
  exact HT.getItem_tuple_whole ht hs pl pu (by rw [hlen]; exact hw) ⟨.ref a,H,I,rfl,q1 hw⟩
 ·exact sl_tup pins s σ H (.ref a) v vl vu lo hi sl Q I rx hs pl pu ⟨a,xs,rfl,hx,hw,q2 hw⟩
theorem Reps.append {ds es:List D} {xs ys:List V} (h1:Reps K B ds xs) (h2:Reps K B es ys):Reps K B (ds++es) (xs++ys):=by
 induction ds generalizing xs with
 | nil=>unfold Reps at h1; subst h1; exact h2
 | cons d ds ih =>
  unfold Reps at h1
  obtain ⟨x,r,rfl,q1,q2⟩:=h1
  show Reps K B (d :: (ds++es)) (x :: (r++ys))
  unfold Reps
  exact ⟨x,r++ys,rfl,q1,ih q2⟩
theorem Reps.nil:Reps K B [] []:=by unfold Reps; rfl
theorem Reps.cons {d:D} {ds:List D} {x:V} {xs:List V} (h1:Rep K B d x) (h2:Reps K B ds xs):Reps K B (d :: ds) (x :: xs):=by unfold Reps; exact ⟨x,xs,rfl,h1,h2⟩
theorem Reps.one {d:D} {x:V} (h:Rep K B d x):Reps K B [d] [x]:=.cons h .nil
theorem Reps.drop:∀ (n:Nat) {ds:List D} {xs:List V},Reps K B ds xs→Reps K B (ds.drop n) (xs.drop n)
 | 0,_,_,h=>h
 | n+1,[],_,h=>by unfold Reps at h; subst h; exact .nil
 | n+1,d :: ds,_,h=>by
  unfold Reps at h
  obtain ⟨x,r,rfl,q1,q2⟩:=h
  exact Reps.drop n q2
theorem Reps.take:∀ (n:Nat) {ds:List D} {xs:List V},Reps K B ds xs→Reps K B (ds.take n) (xs.take n)
 | 0,_,_,_=>.nil
 | n+1,[],_,h=>by unfold Reps at h; subst h; exact .nil
 | n+1,d :: ds,_,h=>by
  unfold Reps at h
  obtain ⟨x,r,rfl,q1,q2⟩:=h
  exact .cons q1 (Reps.take n q2)
theorem Reps.cut {ds:List D} {xs:List V} (lo hi:Option Int) (h:Reps K B ds xs):Reps K B (cutL ds lo hi) (cutV xs lo hi):=by
 unfold cutL cutV
 rw [h.length]
 exact (h.drop _).take _
theorem Reps.ints (ns:List Int):Reps K B (ns.map D.int) (ns.map V.int):=by
 induction ns with
 | nil=>exact .nil
 | cons n ns ih=>exact .cons (rep_dV (d:=.int n) rfl) ih
theorem Reps.strs:∀ {ss:List Str} {xs:List V},Reps K B (ss.map D.str) xs→xs=ss.map V.str
 | [],_,h=>by unfold Reps at h; exact h
 | s :: ss,_,h=>by
  have h':Reps K B (.str s :: ss.map D.str) _:=h
  unfold Reps at h'
  obtain ⟨x,r,rfl,q1,q2⟩:=h'
  unfold Rep at q1
  rw [q1,Reps.strs q2]
  rfl
theorem Reps.atI {ds:List D} {xs:List V} {i:Int} {d:D} (h:Reps K B ds xs) (e:L2.atI ds i=some d):∃ x,L2.atI xs i=some x∧Rep K B d x:=by
 unfold L2.atI at e ⊢
 rw [← h.length]
 cases q:ixN ds.length i with
 | none=>rw [q] at e; cases e
 | some j =>
  rw [q] at e
  exact h.at e
noncomputable def vAdd (rx ry:R) (Q:R→Prop):Prop:=match rx.d,ry.d with
 | .int i,.int j=>Q (.val (.int (i+j)))
 | .str a,.str b=>a.length+b.length≤sizeLine∧Q (.val (.str (a++b)))
 | .tup a,.tup b=>a.length+b.length≤sizeLine∧Q (.val (.tup (a++b)))
 | .lst a,.lst b=>a.length+b.length≤sizeLine∧Q (.own (.lst (a++b)))
 | _,_=>False
theorem vo_add:VO X (binaryOp .Add) vAdd:=by
 refine ⟨_,op_add.or (op_add_str.or (op_catP.or op_cat)),fun B H x y rx ry Q Qd s px py h k=>?_⟩
 unfold vAdd at h
 split at h
 ·rename_i i j e1 e2
  exact .inl ⟨i,j,px.scal (by rw [e1]; rfl),py.scal (by rw [e2]; rfl),k _ _ B H (.refl s) (repV rfl) h⟩
 ·rename_i i j e1 e2
  exact .inr (.inl ⟨i,j,px.scal (by rw [e1]; rfl),py.scal (by rw [e2]; rfl),h.1,k _ _ B H (.refl s) (repV rfl) h.2⟩)
 ·rename_i ds es e1 e2
  obtain ⟨a,xs,rfl,h1,r1⟩:=px.tup e1
  obtain ⟨b,ys,rfl,h2,r2⟩:=py.tup e2
  refine .inr (.inr (.inl ⟨a,b,xs,ys,rfl,rfl,s.sqT h1.sq,s.sqT h2.sq,by rw [← r1.length,← r2.length]; exact h.1,fun z=>?_,fun _ z=>?_,fun _ _ p hp=>?_⟩))
  ·refine k _ _ B H (.refl s) ?_ h.2
   show Rep X.K B (.tup (ds++es)) _
   have e:ds=[]:=List.eq_nil_of_length_eq_zero (by rw [r1.length,z]; rfl)
   unfold Rep
   exact ⟨b,ys,rfl,by rw [e]; exact h2,by rw [e]; exact r2⟩
  ·refine k _ _ B H (.refl s) ?_ h.2
   show Rep X.K B (.tup (ds++es)) _
   have e:es=[]:=List.eq_nil_of_length_eq_zero (by rw [r2.length,z]; rfl)
   unfold Rep
   exact ⟨a,xs,rfl,by rw [e,List.append_nil]; exact h1,by rw [e,List.append_nil]; exact r1⟩
  ·exact k (.val (.tup (ds++es))) _ (upd B p (.tup (xs++ys))) _ (.new s hp) (rep_newT (r1.append r2) (s.free hp)) h.2
 ·rename_i ds es e1 e2
  obtain ⟨a,xs,rfl,h1,r1⟩:=px.lst s e1
  obtain ⟨b,ys,rfl,h2,r2⟩:=py.lst s e2
  exact .inr (.inr (.inr ⟨a,b,xs,ys,rfl,rfl,h1,h2,by rw [← r1.length,← r2.length]; exact h.1,fun p hp=>k (.own (.lst (ds++es))) _ B _ (.grow s (same_upd hp _)) ⟨p,rfl,hp,s.free hp,own_newL (r1.append r2)⟩ h.2⟩))
 ·exact h.elim
noncomputable def vI2 (C:Int→Int→Prop) (f:Int→Int→D) (rx ry:R) (Q:R→Prop):Prop:=match rx.d,ry.d with
 | .int i,.int j=>C i j∧Q (.val (f i j))
 | _,_=>False
noncomputable def vI2' (f:Int→Int→D) (rx ry:R) (Q:R→Prop):Prop:=match rx.d,ry.d with
 | .int i,.int j=>Q (.val (f i j))
 | _,_=>False
theorem vo_i2 {g:Value→Value→Sem Value} {C:Int→Int→Prop} {f:Int→Int→D} {f':Int→Int→V} (hf:∀ i j,dV (f i j)=some (f' i j)) (h:OpR X g (rI C f')):VO X g (vI2 C f):=by
 refine ⟨_,h,fun B H x y rx ry Q Qd s px py h k=>?_⟩
 unfold vI2 at h
 split at h
 ·rename_i i j e1 e2
  exact ⟨i,j,px.scal (by rw [e1]; rfl),py.scal (by rw [e2]; rfl),h.1,k _ _ B H (.refl s) (repV (hf i j)) h.2⟩
 ·exact h.elim
theorem vo_i2' {g:Value→Value→Sem Value} {f:Int→Int→D} {f':Int→Int→V} (hf:∀ i j,dV (f i j)=some (f' i j)) (h:OpR X g (rI0 f')):VO X g (vI2' f):=by
 refine ⟨_,h,fun B H x y rx ry Q Qd s px py h k=>?_⟩
 unfold vI2' at h
 split at h
 ·rename_i i j e1 e2
  exact ⟨i,j,px.scal (by rw [e1]; rfl),py.scal (by rw [e2]; rfl),k _ _ B H (.refl s) (repV (hf i j)) h⟩
 ·exact h.elim
noncomputable abbrev vSub:=vI2' fun i j=>.int (i - j)
noncomputable abbrev vMul:=vI2 CMul fun i j=>.int (i * j)
noncomputable abbrev vDiv:=vI2 CDiv fun i j=>.int (i / j)
noncomputable abbrev vMod:=vI2 (fun _ j=>0 < j) fun i j=>.int (i % j)
noncomputable abbrev vPow:=vI2 CPow fun i j=>.int (i ^ j.toNat)
noncomputable abbrev vLt:=vI2' fun i j=>.bl (decide (i < j))
noncomputable abbrev vLe:=vI2' fun i j=>.bl (decide (i≤j))
noncomputable abbrev vGt:=vI2' fun i j=>.bl (decide (j < i))
noncomputable abbrev vGe:=vI2' fun i j=>.bl (decide (j≤i))
theorem vo_sub:VO X (binaryOp .Sub) vSub:=vo_i2' (fun _ _=>rfl) op_sub
theorem vo_mul:VO X (binaryOp .Mult) vMul:=vo_i2 (fun _ _=>rfl) op_mul
theorem vo_div:VO X (binaryOp .FloorDiv) vDiv:=vo_i2 (fun _ _=>rfl) op_fdiv
theorem vo_mod:VO X (binaryOp .Mod) vMod:=vo_i2 (fun _ _=>rfl) op_mod
theorem vo_pow:VO X (binaryOp .Pow) vPow:=vo_i2 (fun _ _=>rfl) op_pow
theorem vo_lt:VO X (compareOp .Lt) vLt:=vo_i2' (fun _ _=>rfl) op_lt
theorem vo_gt:VO X (compareOp .Gt) vGt:=vo_i2' (fun _ _=>rfl) op_gt
noncomputable def vEq (rx ry:R) (Q:R→Prop):Prop:=cmpD rx.d ry.d=true∧depD rx.d≤50∧Q (.val (.bl (eqD rx.d ry.d)))
theorem vo_eq (hu:X.A.units+64 < cLine):VO X (compareOp .Eq) vEq :=
 ⟨_,op_eqD (by lia),fun B H x y rx ry Q Qd s px py h k=>⟨rx.d,ry.d,px.rep s,py.rep s,h.1,h.2.1,k _ _ B H (.refl s) (repV rfl) h.2.2⟩⟩
noncomputable def vNe (rx ry:R) (Q:R→Prop):Prop:=match dV rx.d,dV ry.d with
 | some u,some w=>scal u w=true∧Q (.val (.bl (!decide (u=w))))
 | _,_=>False
noncomputable def vSlR (rx:R) (lo hi:Option Int) (Q:R→Prop):Prop:=match rx.d with
 | .str z=>z.length≤sizeLine∧Q (.val (.str (Txt.slice z lo hi)))
 | .tup ds=>Q (.val (.tup (cutL ds lo hi)))
 | .lst ds=>Q (.own (.lst (cutL ds lo hi)))
 | .scr ns=>Q (.own (.lst ((cutL ns lo hi).map D.int)))
 | _=>False
noncomputable abbrev TVO:=VSt→(Option Int→Prop)→Prop
noncomputable def vNoPart:TVO:=fun _ Q=>Q none
noncomputable def vPart (te:TV):TVO:=fun τ Q=>te τ fun r=>match r.d with
 | .int i=>Q (some i)
 | _=>False
noncomputable def RfOp (K:PySem.W.Frag) (to:TO) (t:TVO):Prop:=∀ (H0 B H:Hp) (τ:VSt) (σ:St) (Q:Option Int→Hp→Prop) (Qd:Option Int→Prop),Same B H→Slots K H0 B H τ σ→t τ Qd→(∀ o B' H',Stp B H B' H'→Qd o→Q o H')→to σ H Q
structure VPt (X:Cx) (EX:St→XK) (e:Option Expr) (t:TVO):Prop where
 u:∃ to,QO X e to∧RfOp X.K to t
variable {e:Expr} {te ta:TV} {es:List Expr} {lo hi:Option Expr} {tl th:TVO} {pos p p2 apos cpos:Pos} {x:Str}
theorem vp_none:VPt X EX none vNoPart:=⟨_,qo_none,fun _ B H _ _ _ _ s _ h k=>k _ B H (.refl s) h⟩
theorem vp_some (h:VE X EX e te):VPt X EX (some e) (vPart te):=let ⟨_,a1,a2⟩:=h.u; ⟨_,qo_some a1,fun H0 B H τ σ Q Qd s S h k=>a2 H0 B H τ σ _ _ s S h (xno fun _ q=>q) fun r v B' H' p q h1=>by
  split at h1
  ·rename_i i e
   exact ⟨i,q.pk.scal (by rw [e]; rfl),k _ B' H' p h1⟩
  ·exact h1.elim⟩
noncomputable def vSlice (te:TV) (tl th:TVO):TV:=fun τ Q=>te τ fun r=>exR r Q (tl τ fun l=>th τ fun u=>vSlR r l u Q)
theorem ve_slice (he:VE X EX e te) (hl:VPt X EX lo tl) (hh:VPt X EX hi th):VE X EX (.Subscript e (.Slice lo hi none p2) pos) (vSlice te tl th) :=
 let ⟨_,a1,a2⟩:=he.u; let ⟨_,b1,b2⟩:=hl.u; let ⟨_,c1,c2⟩:=hh.u; ⟨_,qe_slice (sl_str.or (sl_tupP.or sl_list)) a1 b1 c1,fun H0 B H τ σ Q Qd s S h xc k =>
  a2 H0 B H τ σ _ _ s S h xc fun r v B1 H1 p1 q1 h1=>b2 H0 B1 H1 τ σ _ _ p1.s (S.step p1) (q1.ok h1) fun l B2 H2 p2 h2=>c2 H0 B2 H2 τ σ _ _ p2.s (S.step (p1.trans p2)) h2 fun u B3 H3 p3 h3=>by
   have p12:=p1.trans p2
   have pp:=p12.trans p3
   have pk:=(q1.pk.step p2).step p3
   unfold vSlR at h3
   split at h3
   ·rename_i z ez
    cases pk.scal (z:=.str z) (by rw [ez]; rfl)
    exact .inl ⟨z,rfl,h3.1,k _ _ B3 H3 pp (repV rfl) h3.2⟩
   ·rename_i ds ed
    obtain ⟨a,xs,rfl,h1,r1⟩:=pk.tup ed
    refine .inr (.inl ⟨a,xs,rfl,p3.s.sqT h1.sq,fun w=>?_,fun w p hp=>?_⟩)
    ·refine k _ _ B3 H3 pp ?_ h3
     show Rep X.K B3 (.tup (cutL ds l u)) _
     unfold Rep
     have hc:cutL ds l u=ds:=by
      unfold cutL
      rw [r1.length,w.1,w.2,List.drop_zero,Nat.sub_zero,← r1.length,List.take_length]
     rw [hc]
     exact ⟨a,xs,rfl,h1,r1⟩
    ·exact k (.val (.tup (cutL ds l u))) _ (upd B3 p (.tup (cutV xs l u))) _ (pp.trans (.new p3.s hp)) (rep_newT (r1.cut l u) (p3.s.free hp)) h3
   ·rename_i ds ed
    obtain ⟨a,xs,rfl,h1,r1⟩:=pk.lst p3.s ed
    exact .inr (.inr ⟨a,xs,rfl,SqL.of h1,fun p hp=>k (.own _) _ B3 _ (pp.trans (.grow p3.s (same_upd hp _))) ⟨p,rfl,pp.h.free hp,p3.s.free hp,own_newL (r1.cut l u)⟩ h3⟩)
   ·rename_i ns en
    obtain ⟨a,rfl,h1⟩:=pk.scr p3.s en
    refine .inr (.inr ⟨a,_,rfl,h1,fun p hp=>k (.own _) _ B3 _ (pp.trans (.grow p3.s (same_upd hp _))) ⟨p,rfl,pp.h.free hp,p3.s.free hp,?_⟩ h3⟩)
    rw [cutV_map]
    exact own_newL (.ints _)
   ·exact h3.elim⟩
noncomputable def vIxR (rx ry:R) (Q:R→Prop):Prop:=match rx.d,ry.d with
 | .str z,.int i=>z.length≤sizeLine∧∃ c,atI z.cps.toList i=some c∧Q (.val (.str ⟨#[c]⟩))
 | .tup ds,.int i=>∃ d,atI ds i=some d∧Q (.val d)
 | .lst ds,.int i=>∃ d,atI ds i=some d∧Q (.val d)
 | .scr ns,.int i=>∃ n,atI ns i=some n∧Q (.val (.int n))
 | _,_=>False
theorem vx_seq:VX X vIxR:=by
 refine ⟨_,ix_str.or (ix_tup.or ix_list),fun B H x y rx ry Q Qd s px py h k=>?_⟩
 unfold vIxR at h
 split at h
 ·rename_i z i e1 e2
  obtain ⟨hz,c,hc,q⟩:=h
  exact .inl ⟨z,i,c,px.scal (by rw [e1]; rfl),py.scal (by rw [e2]; rfl),hz,hc,k _ _ B H (.refl s) (repV rfl) q⟩
 ·rename_i ds i e1 e2
  obtain ⟨d,hd,q⟩:=h
  obtain ⟨a,xs,rfl,h1,r1⟩:=px.tup e1
  obtain ⟨w,hw,rw'⟩:=r1.atI hd
  exact .inr (.inl ⟨a,xs,i,w,rfl,py.scal (by rw [e2]; rfl),s.sqT h1.sq,hw,k (.val d) _ B H (.refl s) rw' q⟩)
 ·rename_i ds i e1 e2
  obtain ⟨d,hd,q⟩:=h
  obtain ⟨a,xs,rfl,h1,r1⟩:=px.lst s e1
  obtain ⟨w,hw,rw'⟩:=r1.atI hd
  exact .inr (.inr ⟨a,xs,i,w,rfl,py.scal (by rw [e2]; rfl),SqL.of h1,hw,k (.val d) _ B H (.refl s) rw' q⟩)
 ·rename_i ns i e1 e2
  obtain ⟨n,hn,q⟩:=h
  obtain ⟨a,rfl,h1⟩:=px.scr s e1
  exact .inr (.inr ⟨a,_,i,_,rfl,py.scal (by rw [e2]; rfl),h1,at_map hn,k _ _ B H (.refl s) (repV rfl) q⟩)
 ·exact h.elim
noncomputable def vLen (rx:R) (Q:R→Prop):Prop:=match rx.d with
 | .str z=>z.length≤sizeLine∧Q (.val (.int z.length))
 | .tup ds=>Q (.val (.int ds.length))
 | .lst ds=>Q (.val (.int ds.length))
 | .scr ns=>Q (.val (.int ns.length))
 | _=>False
theorem vf_len:VF X (.builtin "len") vLen:=by
 refine ⟨_,call_len_str.or call_len_seq,fun B H x rx Q Qd s px h k=>?_⟩
 unfold vLen at h
 split at h
 ·rename_i z e1
  exact .inl ⟨z,by rw [px.scal (z:=.str z) (by rw [e1]; rfl)],h.1,k _ _ B H (.refl s) (repV rfl) h.2⟩
 ·rename_i ds e1
  obtain ⟨a,xs,rfl,h1,r1⟩:=px.tup e1
  exact .inr ⟨a,xs,rfl,.inr (s.sqT h1.sq),k _ _ B H (.refl s) (repV rfl) (by rw [r1.length] at h; exact h)⟩
 ·rename_i ds e1
  obtain ⟨a,xs,rfl,h1,r1⟩:=px.lst s e1
  exact .inr ⟨a,xs,rfl,.inl (SqL.of h1),k _ _ B H (.refl s) (repV rfl) (by rw [r1.length] at h; exact h)⟩
 ·rename_i ns e1
  obtain ⟨a,rfl,h1⟩:=px.scr s e1
  exact .inr ⟨a,_,rfl,.inl h1,k (.val (.int ns.length)) _ B H (.refl s) (by rw [List.length_map]; exact repV rfl) h⟩
 ·exact h.elim
noncomputable def vList (rx:R) (Q:R→Prop):Prop:=match rx.d with
 | .tup ds=>Q (.own (.lst ds))
 | .lst ds=>Q (.own (.lst ds))
 | .scr ns=>Q (.own (.lst (ns.map D.int)))
 | _=>False
theorem vf_list:VF X (.type "list") vList:=by
 refine ⟨_,call_list_of,fun B H x rx Q Qd s px h k=>?_⟩
 unfold vList at h
 split at h
 ·rename_i ds e1
  obtain ⟨a,xs,rfl,h1,r1⟩:=px.tup e1
  exact ⟨a,xs,rfl,.inr (s.sqT h1.sq),fun p hp=>k (.own _) _ B _ (.grow s (same_upd hp _)) ⟨p,rfl,hp,s.free hp,own_newL r1⟩ h⟩
 ·rename_i ds e1
  obtain ⟨a,xs,rfl,h1,r1⟩:=px.lst s e1
  exact ⟨a,xs,rfl,.inl (SqL.of h1),fun p hp=>k (.own _) _ B _ (.grow s (same_upd hp _)) ⟨p,rfl,hp,s.free hp,own_newL r1⟩ h⟩
 ·rename_i ns e1
  obtain ⟨a,rfl,h1⟩:=px.scr s e1
  exact ⟨a,_,rfl,.inl h1,fun p hp=>k (.own _) _ B _ (.grow s (same_upd hp _)) ⟨p,rfl,hp,s.free hp,own_newL (.ints ns)⟩ h⟩
 ·exact h.elim
noncomputable def vTuple (rx:R) (Q:R→Prop):Prop:=match rx.d with
 | .tup ds=>Q (.val (.tup ds))
 | .lst ds=>Q (.val (.tup ds))
 | _=>False
noncomputable def vStr (rx:R) (Q:R→Prop):Prop:=match rx.d with
 | .int i=>i.natAbs.log2 < 1920∧Q (.val (.str (toString i)))
 | _=>False
noncomputable def vAll (g:List Bool→Bool) (rx:R) (Q:R→Prop):Prop:=∃ bs:List Bool,rx.d=.lst (bs.map D.bl)∧Q (.val (.bl (g bs)))
inductive Ty5 where
 | str | tuple | list | int | bool
noncomputable def Ty5.nm:Ty5→String
 | .str=>"str" | .tuple=>"tuple" | .list=>"list" | .int=>"int" | .bool=>"bool"
noncomputable def isTy:Ty5→D→Option Bool
 | _,.non=>some false
 | c,.bl _=>some (match c with | .bool=>true | .int=>true | _=>false)
 | c,.int _=>some (match c with | .int=>true | _=>false)
 | c,.str _=>some (match c with | .str=>true | _=>false)
 | c,.tup _=>some (match c with | .tuple=>true | _=>false)
 | c,.lst _=>some (match c with | .list=>true | _=>false)
 | _,_=>none
noncomputable def nmTy:D→String
 | .non=>"NoneType" | .bl _=>"bool" | .int _=>"int" | .str _=>"str" | .tup _=>"tuple" | _=>"list"
theorem kit_isTy {d:D} {c:Ty5} {b:Bool} (h:isTy c d=some b):PySem.W.kitOne K (.type (nmTy d)) (.type c.nm)=some b:=by
 cases d <;> cases c <;> first | (cases h; with_unfolding_all rfl; done) | (cases h; exact kit_same; done) | (cases h; done)
theorem isinst_D {pins:List (Addr × Obj)} {s:Shared} {σ:St} {H:Hp} {v:V} {u:Value} {d:D} {c:Ty5} {b:Bool} {A:Around} {Q:Value→Shared→Prop} {E:Value→Shared→Prop} (I:Inv X pins σ H s) (rx:RelV v u) (h:Rep X.K H d v) (e:isTy c d=some b)
  (q:∀ tk,Q (.bool b) { s with toks:=tk }):wpAny (model X.prog X.w) A (call (.builtin "isinstance") [u,.type c.nm]) Q E s:=by
 have kt:=kit_isTy (K:=X.K) e
 cases d with
 | non=>unfold Rep at h; subst h; exact isinst_ok I rx .non kt q
 | bl b=>unfold Rep at h; subst h; exact isinst_ok I rx (.bl _) kt q
 | int b=>unfold Rep at h; subst h; exact isinst_ok I rx (.int _) kt q
 | str b=>unfold Rep at h; subst h; exact isinst_ok I rx (.str _) kt q
 | tup ds =>
  unfold Rep at h
  obtain ⟨a,xs,rfl,ha,_⟩:=h
  cases (show u=Value.ref a from rx)
  obtain ⟨its,_,⟨o,h1,h2,_⟩,_⟩:=I.tuple ha.sq
  exact PySem.W.kia_one PySem.W.kitx_tuple I.kIn ⟨o,h1,h2⟩ kt (fun z=>nomatch z) q
 | lst ds =>
  unfold Rep at h
  obtain ⟨a,xs,rfl,ha,_⟩:=h
  exact isinst_ok I rx (.lst ha) kt q
 | dT _ _=>cases e
 | dK _ _=>cases e
 | scr _=>cases e
 | kt _=>cases e
 | exc _=>cases e
 | io _ _=>cases e
theorem call_isD (c:Ty5):CallR X (.builtin "isinstance") (fun xs H Q=>∃ x d b,xs=[x,.ty c.nm]∧Rep X.K H d x∧isTy c d=some b∧Q (.bl b) H):=by
 intro pins s σ H xs us Q I r h
 obtain ⟨x,d,b,rfl,ty,e,q⟩:=h
 obtain ⟨u,v,rfl,ru,rv⟩:=vals2 r
 cases (show v=Value.type c.nm from rv)
 exact isinst_D I ru ty e fun tk=>⟨.bl b,H,I.tok tk,rfl,q⟩
noncomputable def vIsin (c:Ty5) (ta:TV):TV:=fun τ Q=>ta τ fun r=>exR r (fun _=>False) <| match isTy c r.d with
 | some b=>Q (.val (.bl b))
 | none=>False
theorem ve_isin {a:Expr} {pb:Pos} {y:Str} (c:Ty5) (hg:Gl X "isinstance") (hm:X.mg "isinstance" = none) (hgy:Gl X y) (hmy:X.mg y=none) (hby:bootBuiltins y=some (.type c.nm)) (ha:VE X EX a ta) (hp:plainE a=true:=by rfl) (hny:y≠"__name__" := by decide) (hdy:(y == ("__debug__" : Str))=false:=by decide) :
  VE X EX (.Call (.Name "isinstance" p) [a,.Name y pb] [] pos) (vIsin c ta) :=
 let ⟨_,a1,a2⟩:=ha.u; ⟨_,qcb (call_isD c) hg hm PyProof.Rows.Boot.«isinstance» (qac a1 (qac (qe_bltn (v:=.ty c.nm) hgy hmy hby rfl hny hdy) qa_nil rfl) hp) (by rw [List.all_cons,hp]; rfl),fun H0 B H τ σ Q Qd s S h xc k=>a2 H0 B H τ σ _ _ s S h (xno fun _ q=>q) fun r v B1 H1 p1 q1 h1=>by
   have h1:=q1.ok h1
   split at h1
   ·rename_i b eb
    exact ⟨v,r.d,b,rfl,q1.pk.rep p1.s,eb,k _ _ B1 H1 p1 (repV rfl) h1⟩
   ·exact h1.elim⟩
end
end L2
namespace L2
open PySem PySem.Spec PyProof.Rows
section
variable {X:Cx} {EX:St→XK} {K:PySem.W.Frag} {B H B' H' H0 B0 B1 H1:Hp} {st:Stmt} {rest:List Stmt} {t u:TVS} {e a c o:Expr} {te ta:TV} {tT:TVT} {tA:TVA} {es:List Expr} {pos pos' p p2 apos cpos:Pos} {x:Str} {τ:VSt} {σ:St}
theorem Stp.base (p:Stp B0 H0 B1 H1) (q:Stp B1 H0 B' H'):Stp B0 H0 B' H':=⟨p.b.trans q.b,q.h,q.s,fun a h=>(q.d a h).elim (p.d a) .inr⟩
theorem Stp.here (p:Stp B0 H0 B1 H1):Stp B1 H0 B1 H1:=⟨Same.refl _,p.h,p.s,fun _ h=>.inl h⟩
theorem EndsOk.base {Dv:VEnds} {Dh:Ends} (E:EndsOk K EX B0 H0 Dv Dh) (p:Stp B0 H0 B1 H1):EndsOk K EX B1 H0 Dv Dh :=
 ⟨fun B H τ σ q=>E.nx B H τ σ (p.base q),fun r v B H q=>E.rt r v B H (p.base q),fun B H τ σ q=>E.bk B H τ σ (p.base q),fun B H τ σ q=>E.ct B H τ σ (p.base q),fun B H τ σ n C q=>E.xc B H τ σ n C (p.base q),fun r v B H τ σ q=>E.ro r v B H τ σ (p.base q)⟩
noncomputable def exS (τ:VSt) (Dv:VEnds):R→Prop→Prop
 | .exc n,_=>Dv.xc τ n
 | .val _,k=>k
 | .own _,k=>k
 | .peek _,k=>k
theorem RepR.okS {r:R} {v:V} {τ:VSt} {Dv:VEnds} {k:Prop} (h:RepR K B H0 H r v) (q:exS τ Dv r k):k:=by
 cases r with
 | exc n=>exact h.elim
 | val d=>exact q
 | own d=>exact q
 | peek d=>exact q
theorem EndsOk.raised {Dv:VEnds} {Dh:Ends} (E:EndsOk K EX B0 H0 Dv Dh) (p:Stp B0 H0 B H) (S:Slots K H0 B H τ σ):∀ n C B' H',Stp B H B' H'→clsOf K n C→Dv.xc τ n→EX σ (.ref C) none H':=fun n C B' H' q c h=>E.xc B' H' τ σ n C (p.trans q) (S.step q) c h
noncomputable def vNext:TVS:=fun Dv τ=>Dv.nx τ
noncomputable def vSeq (t u:TVS):TVS:=fun Dv τ=>t { Dv with nx:=u Dv } τ
theorem vss_nil:VSs X EX [] vNext:=⟨_,qss_nil,fun B0 H0 B H τ σ Dv Dh p S h E=>E.nx B H τ σ p S h⟩
theorem vss_one (h:VS X EX st t):VSs X EX [st] t:=let ⟨_,a1,a2⟩:=h.u; ⟨_,qss_one a1,a2⟩
theorem vss_cons (h:VS X EX st t) (r:VSs X EX rest u):VSs X EX (st :: rest) (vSeq t u) :=
 let ⟨_,a1,a2⟩:=h.u; let ⟨_,b1,b2⟩:=r.u; ⟨_,qss_cons a1 b1,fun B0 H0 B H τ σ Dv Dh p S h E=>a2 B0 H0 B H τ σ _ _ p S h ⟨fun B H τ σ p S h=>b2 B0 H0 B H τ σ _ _ p S h E,E.rt,E.bk,E.ct,E.xc,E.ro⟩⟩
noncomputable def vFrz (i:Nat) (t:TVS):TVS:=fun Dv τ=>t Dv (frz i τ)
theorem vss_frz (i:Nat) (h:VSs X EX rest t):VSs X EX rest (vFrz i t) :=
 let ⟨_,a1,a2⟩:=h.u; ⟨_,a1,fun B0 H0 B H τ σ Dv Dh p S h E=>by
  obtain ⟨B2,p2,_,S2⟩:=S.frz p i
  exact a2 B0 H0 B2 H _ σ _ _ p2 S2 h E⟩
noncomputable def vIfS (c:TVT) (t u:TVS):TVS:=fun Dv τ=>c τ fun b=>if b=true then t Dv τ else u Dv τ
theorem vs_if {sa sb:List Stmt} (hc:VT X EX c tT) (ha:VSs X EX sa t) (hb:VSs X EX sb u):VS X EX (.If c sa sb pos) (vIfS tT t u) :=
 let ⟨_,c1,c2⟩:=hc.u; let ⟨_,a1,a2⟩:=ha.u; let ⟨_,b1,b2⟩:=hb.u; ⟨_,qs_if c1 a1 b1,fun B0 H0 B H τ σ Dv Dh p S h E=>c2 H0 B H τ σ _ _ p.s S h fun cb B' H' q hq=>by
  cases cb with
  | true=>exact iteT (a2 B0 H0 B' H' τ σ _ _ (p.trans q |> fun z=>⟨z.b,z.h,z.s,z.d⟩) (S.step q) (by rw [if_pos rfl] at hq; exact hq) E)
  | false=>exact iteF (b2 B0 H0 B' H' τ σ _ _ (p.trans q) (S.step q) (by rw [if_neg Bool.false_ne_true] at hq; exact hq) E)⟩
noncomputable def vRet (te:TV):TVS:=fun Dv τ=>te τ fun r=>exS τ Dv r (pubR r fun _=>Dv.rt r)
theorem vs_ret (h:VE X EX e te):VS X EX (.Return (some e) pos) (vRet te) :=
 let ⟨_,a1,a2⟩:=h.u; ⟨_,qs_ret a1,fun B0 H0 B H τ σ Dv Dh p S h E=>a2 H0 B H τ σ _ _ p.s S h (E.raised p S) fun r v B' H' q hr hq=>by
  cases r with
  | val d=>exact E.rt (.val d) v B' H' (p.trans q) hr hq
  | own d=>exact E.rt (.own d) v B' H' (p.trans q) (hr.back p.h) hq
  | peek d=>exact hq.elim
  | exc n=>exact hr.elim⟩
noncomputable def vRetO (i:Nat):TVS:=fun Dv τ=>match τ[i]? with
 | some (some (.own d))=>Dv.rt (.own d)
 | some (some (.val d))=>Dv.rt (.val d)
 | _=>False
theorem vs_retO (i:Nat) (hN:X.N[i]?=some x:=by rfl) (hv:Vis X.env.scope x:=by first | exact Or.inl rfl | exact Or.inr (Or.inl rfl) | exact Or.inr (Or.inr rfl)) (hd:(x == ("__debug__" : Str))=false:=by decide)
  (hcd:(x == ("__classdict__" : Str))=false:=by decide):VS X EX (.Return (some (.Name x pos')) pos) (vRetO i) :=
 ⟨_,qs_ret (qv i hN hv hd hcd),fun B0 H0 B H τ σ Dv Dh p S h E=>by
  unfold vRetO at h
  split at h
  ·rename_i d e
   obtain ⟨a,q,h0,hb,ow⟩:=S.own i d e
   exact ⟨.ref a,q,E.rt (.own d) _ B H p ⟨a,rfl,h0,hb,ow⟩ h⟩
  ·rename_i d e
   obtain ⟨v,q,rp⟩:=S.val i d e
   exact ⟨v,q,E.rt (.val d) _ B H p rp h⟩
  ·exact h.elim⟩
noncomputable def vRetN:TVS:=fun Dv _=>Dv.rt (.val .non)
noncomputable def vDrop (te:TV):TVS:=fun Dv τ=>te τ fun r=>exS τ Dv r (Dv.nx τ)
noncomputable def vSet (i:Nat) (te:TV):TVS:=fun Dv τ=>te τ fun r=>exS τ Dv r (pubR r fun d=>Dv.nx (τ.set i (some (.val d))))
theorem rf_set {i:Nat} {ee:TE} (h:RfE K EX ee te):RfS K EX (tAsg ee (gName i)) (vSet i te):=fun B0 H0 B H τ σ Dv Dh p S hh E=>h H0 B H τ σ _ _ p.s S hh (E.raised p S) fun r v B' H' q hr hq=>by
 obtain ⟨d,B2,q2,_,rp,hd⟩:=pub q hr (hr.okS hq)
 exact E.nx B2 H' _ _ (p.trans q2) ((S.step q2).setVal i rp) hd
noncomputable def vSetO (i:Nat) (te:TV):TVS:=fun Dv τ=>te τ fun r=>exS τ Dv r (pubR r fun _=>Dv.nx (τ.set i (some r)))
theorem rf_setO {i:Nat} {ee:TE} (h:RfE K EX ee te):RfS K EX (tAsg ee (gName i)) (vSetO i te):=fun B0 H0 B H τ σ Dv Dh p S hh E=>h H0 B H τ σ _ _ p.s S hh (E.raised p S) fun r v B' H' q hr hq=>by
 cases r with
 | val d=>exact E.nx B' H' _ _ (p.trans q) ((S.step q).setVal i hr) hq
 | own d =>
  obtain ⟨a,rfl,h0,hb,ow⟩:=hr
  refine E.nx B' H' _ _ (p.trans q) ((S.step q).setOwn i (p.h.free h0) hb ow fun j e he z=>?_) hq
  obtain ⟨c,qc,_,_,oc⟩:=S.own j e he
  rw [z] at qc
  cases qc
  exact oc.some h0
 | peek d=>exact hq.elim
 | exc n=>exact hr.elim
theorem vs_set {i:Nat} (hN:X.N.Nodup) (hi:X.N[i]?=some x) (hx:Loc X.env.scope x) (h:VE X EX e te) (hs:swapsWith e (some (.Name x pos')) pos.line X.env=pure false:=by rfl)
  (hf:X.fn x=true∨X.env.scope.names.lookup x=some .local:=by first | exact .inl rfl | exact .inr rfl | assumption):VS X EX (.Assign [.Name x pos'] e pos) (vSet i te):=let ⟨_,a1,a2⟩:=h.u; ⟨_,qs_set hN hi hx a1 hs hf,rf_set a2⟩
theorem vs_setO {i:Nat} (hN:X.N.Nodup) (hi:X.N[i]?=some x) (hx:Loc X.env.scope x) (h:VE X EX e te) (hs:swapsWith e (some (.Name x pos')) pos.line X.env=pure false:=by rfl)
  (hf:X.fn x=true∨X.env.scope.names.lookup x=some .local:=by first | exact .inl rfl | exact .inr rfl | assumption):VS X EX (.Assign [.Name x pos'] e pos) (vSetO i te):=let ⟨_,a1,a2⟩:=h.u; ⟨_,qs_set hN hi hx a1 hs hf,rf_setO a2⟩
noncomputable def vgName (i:Nat):TVG:=fun d τ Q=>Q (τ.set i (some (.val d)))
theorem kp_set {i:Nat} {d:D} {v:V}:Kp τ σ (τ.set i (some (.val d))) (σ.set i (some v)):=fun j e h=>by
 rcases getSet h with ⟨rfl,z,l⟩ | ⟨n,h⟩
 ·cases z
 ·exact ⟨h,List.getElem?_set_ne n⟩
theorem Kp.trans {τ1 τ2 τ3:VSt} {σ1 σ2 σ3:St} (h1:Kp τ1 σ1 τ2 σ2) (h2:Kp τ2 σ2 τ3 σ3):Kp τ1 σ1 τ3 σ3:=fun j e h=>let ⟨a,b⟩:=h2 j e h; let ⟨c,d⟩:=h1 j e a; ⟨c,b.trans d⟩
theorem vg_name {i:Nat} (hN:X.N.Nodup) (hi:X.N[i]?=some x) (hx:Loc X.env.scope x) (hf:X.fn x=true∨X.env.scope.names.lookup x=some .local:=by first | exact .inl rfl | exact .inr rfl | assumption):VG X (.Name x pos) (vgName i) :=
 ⟨_,qg_name hN hi hx hf,fun H0 B H τ σ v d Q Qd s S rp h k=>k _ _ (S.setVal i rp) kp_set h⟩
noncomputable def vgNil:List D→VSt→(VSt→Prop)→Prop:=fun ds τ Q=>ds=[]∧Q τ
noncomputable def vgCons (g:TVG) (gs:List D→VSt→(VSt→Prop)→Prop):List D→VSt→(VSt→Prop)→Prop:=fun ds τ Q=>match ds with
 | d :: r=>g d τ fun τ'=>gs r τ' Q
 | []=>False
theorem vgs_nil:VGs X [] vgNil:=⟨_,qgs_nil,fun H0 B H τ σ xs ds Q Qd s S rp h k=>by
 obtain ⟨rfl,h⟩:=h
 unfold Reps at rp
 exact ⟨rp,k τ σ S (fun j e h=>⟨h,rfl⟩) h⟩⟩
theorem vgs_cons {g:TVG} {gs:List D→VSt→(VSt→Prop)→Prop} (h1:VG X e g) (h2:VGs X es gs) (hs:(assignEach (e :: es) X.env).map (·.2)=assign e X.env :: (assignEach es X.env).map (·.2):=by rfl):VGs X (e :: es) (vgCons g gs) :=
 let ⟨_,a1,a2⟩:=h1.u; let ⟨_,b1,b2⟩:=h2.u; ⟨_,qgs_cons a1 b1 hs,fun H0 B H τ σ xs ds Q Qd s S rp h k=>by
  cases ds with
  | nil=>exact h.elim
  | cons d ds =>
   unfold Reps at rp
   obtain ⟨v,r,rfl,r1,r2⟩:=rp
   exact ⟨v,r,rfl,a2 H0 B H τ σ v d _ _ s S r1 h fun τ' σ' S' kp h'=>b2 H0 B H τ' σ' r ds _ _ s S' r2 h' fun τ2 σ2 S2 kp2 h2=>k τ2 σ2 S2 (kp.trans kp2) h2⟩⟩
noncomputable def vgTup (n:Nat) (gs:List D→VSt→(VSt→Prop)→Prop):TVG:=fun d τ Q=>match d with
 | .tup ds=>ds.length=n∧gs ds τ Q
 | _=>False
theorem vg_tup {k:Nat} {gs:List D→VSt→(VSt→Prop)→Prop} {n:Nat} (hc:X.calm=true) (h:VGs X es gs) (hn:(assignEach es X.env).length=n:=by rfl) (hst:(assignEach es X.env).findIdx? (·.1)=none:=by rfl):VG X (.Tuple es k pos) (vgTup n gs) :=
 let ⟨_,a1,a2⟩:=h.u; ⟨_,qg_tup hc a1 hn hst,fun H0 B H τ σ v d Q Qd s S rp h k=>by
  cases d with
  | tup ds =>
   unfold Rep at rp
   obtain ⟨a,xs,rfl,ha,r⟩:=rp
   exact ⟨a,xs,rfl,s.sqT ha.sq,by rw [← r.length]; exact h.1,a2 H0 B H τ σ xs ds _ _ s S r h.2 k⟩
  | _=>exact h.elim⟩
noncomputable def vAsg (te:TV) (g:TVG):TVS:=fun Dv τ=>te τ fun r=>exS τ Dv r (pubR r fun d=>g d τ Dv.nx)
end
section
variable {X:Cx} {tg l e:Expr}
noncomputable def iAny (K:PySem.W.Frag) (tl:TE):TI:=fun σ H R=>tl σ H fun x H1=>(∃ a,x=.ref a∧(∃ xs,SqL K H1 a xs)∧R (Itl K a) H1)∨(∃ a,x=.ref a∧(∃ xs,SqT K H1 a xs)∧R (Itt K a) H1)∨∃ z,x=.str z∧R (Its z) H1
theorem pi_any {tl:TE} (hl:PE X l tl):PI X tg l (iAny X.K tl):=by
 intro pins s σ H R I h
 refine thn (hl pins s σ H _ I h) fun v s1 ⟨x,H1,I1,r1,q1⟩=>?_
 rcases q1 with ⟨a,rfl,⟨xs,hq⟩,q⟩ | ⟨a,rfl,⟨xs,hq⟩,q⟩ | ⟨z,rfl,q⟩
 ·cases r1
  obtain ⟨its,rv,pl,hz⟩:=I1.list hq
  refine wpAny_pyIter_list pl.isList ⟨s1.heap.objs.size,[s1.heap.objs.size],_,_,H1,rfl,I1.kept (t':=s1.toks) fun b o e=>Heap.get?_push_of_some _ e,turn_list a _,⟨_,Heap.get?_push_size _ rfl,rfl,rfl⟩,fun b hb=>?_,q⟩
  cases (by simpa using hb:b=s1.heap.objs.size)
  exact I1.fpOk (Nat.le_refl _) (I1.hok.fresh (Nat.le_refl _))
 ·cases r1
  obtain ⟨its,rv,pl,hz⟩:=I1.tuple hq
  refine wpAny_pyIter_tuple (show s1.heap.IsTuple a its.toArray from pl) ⟨s1.heap.objs.size,[s1.heap.objs.size],_,_,H1,rfl,I1.kept (t':=s1.toks) fun b o e=>Heap.get?_push_of_some _ e,turn_tuple a _,⟨_,Heap.get?_push_size _ rfl,rfl,rfl⟩,fun b hb=>?_,q⟩
  cases (by simpa using hb:b=s1.heap.objs.size)
  exact I1.fpOk (Nat.le_refl _) (I1.hok.fresh (Nat.le_refl _))
 ·obtain ⟨t,rfl⟩:=r1
  have fp:∀ b∈[s1.heap.objs.size],FpOk X pins H1 b:=fun b hb=>by
   cases (by simpa using hb:b=s1.heap.objs.size)
   exact I1.fpOk (Nat.le_refl _) (I1.hok.fresh (Nat.le_refl _))
  cases ha:z.cps.all (· < 128)
  ·exact wpAny_pyIter_wide ha ⟨s1.heap.objs.size,[s1.heap.objs.size],_,_,H1,rfl,I1.kept (t':=s1.toks) fun b o e=>Heap.get?_push_of_some _ e,turn_wide _ z t,⟨_,Heap.get?_push_size _ rfl,rfl,rfl⟩,fp,q⟩
  ·exact wpAny_pyIter_ascii ha ⟨s1.heap.objs.size,[s1.heap.objs.size],_,_,H1,rfl,I1.kept (t':=s1.toks) fun b o e=>Heap.get?_push_of_some _ e,turn_ascii _ z t,⟨_,Heap.get?_push_size _ rfl,rfl,rfl⟩,fp,q⟩
theorem qi_any {tl:TE} (h:QE X e tl):QI X tg e (iAny X.K tl):=⟨pi_any h.u⟩
end
section
variable {X:Cx} {EX:St→XK} {K:PySem.W.Frag} {B H B' H' H0 B0 B1 H1:Hp} {st:Stmt} {rest:List Stmt} {t u:TVS} {e a c o:Expr} {te ta:TV} {tT:TVT} {tA:TVA} {es:List Expr} {pos pos' p p2 apos cpos:Pos} {x:Str} {τ:VSt} {σ:St}
noncomputable def vItems (te:TV):TVA:=fun τ Q=>te τ fun r=>excA r Q <| pubR r fun d=>match d with
 | .lst ds=>Q (.ok ds)
 | .tup ds=>Q (.ok ds)
 | .scr ns=>Q (.ok (ns.map D.int))
 | .str z=>Q (.ok (z.cps.toList.map fun c=>.str ⟨#[c]⟩))
 | _=>False
theorem it_listV {ad:Addr} {ds:List D} {xs:List V} (h:SqL K B ad xs) (r:Reps K B ds xs):ItOk K B (Itl K ad) ds:=fun i B2 H sb s2=>by
 have s:=sb.trans s2
 refine ⟨fun d e=>?_,fun e=>⟨xs,s.seq h,by rw [← r.length]; exact List.getElem?_eq_none_iff.mp e⟩⟩
 obtain ⟨w,hw,rw'⟩:=r.at e
 refine ⟨⟨xs,w,s.seq h,hw⟩,fun y H' q=>⟨B2,by rw [q.1]; exact .refl s2,?_⟩⟩
 have:=q.2 xs (s.seq h)
 rw [hw] at this
 cases this
 exact rw'.same sb
theorem it_tup {ad:Addr} {ds:List D} {xs:List V} (h:SqT K B ad xs) (r:Reps K B ds xs):ItOk K B (Itt K ad) ds:=fun i B2 H sb s2=>by
 have s:=sb.trans s2
 refine ⟨fun d e=>?_,fun e=>⟨xs,s.sqT h,by rw [← r.length]; exact List.getElem?_eq_none_iff.mp e⟩⟩
 obtain ⟨w,hw,rw'⟩:=r.at e
 refine ⟨⟨xs,w,s.sqT h,hw⟩,fun y H' q=>⟨B2,by rw [q.1]; exact .refl s2,?_⟩⟩
 have:=q.2 xs (s.sqT h)
 rw [hw] at this
 cases this
 exact rw'.same sb
theorem it_str (z:Str):ItOk K B (Its z) (z.cps.toList.map fun c=>.str ⟨#[c]⟩):=fun i B2 H sb s2=>by
 have s:=sb.trans s2
 refine ⟨fun d e=>?_,fun e=>?_⟩
 ·rw [List.getElem?_map] at e
  cases hc:z.cps.toList[i]? with
  | none=>rw [hc] at e; cases e
  | some ch =>
   rw [hc] at e
   cases e
   have hc':z.cps[i]?=some ch:=by simpa using hc
   refine ⟨?_,fun y H' q=>⟨B2,by rw [q.1]; exact .refl s2,?_⟩⟩
   ·show i < z.cps.size
    exact (Array.getElem?_eq_some_iff.mp hc').1
   ·obtain ⟨c2,h2,rfl⟩:=q.2
    rw [hc'] at h2
    cases h2
    exact rep_dV (d:=.str ⟨#[ch]⟩) rfl
 ·show z.cps.size≤i
  have:=List.getElem?_eq_none_iff.mp e
  simpa using this
theorem vi_any {tg:Expr} (h:VE X EX e te):VI X EX tg e (vItems te) :=
 let ⟨_,a1,a2⟩:=h.u; ⟨_,qi_any a1,fun H0 B H τ σ Q Qd s S h xc k=>a2 H0 B H τ σ _ _ s S h xc fun r v B' H' q hr hq=>by
  obtain ⟨d,B2,q2,_,rp,hd⟩:=pub q hr (hr.okA hq)
  split at hd
  ·unfold Rep at rp
   obtain ⟨ad,xs,rfl,ha,r1⟩:=rp
   exact .inl ⟨ad,rfl,⟨xs,SqL.of (q2.s _ _ ha)⟩,k _ _ B2 H' q2 (it_listV (SqL.of ha) r1) hd⟩
  ·unfold Rep at rp
   obtain ⟨ad,xs,rfl,ha,r1⟩:=rp
   exact .inr (.inl ⟨ad,rfl,⟨xs,q2.s.sqT ha.sq⟩,k _ _ B2 H' q2 (it_tup ha.sq r1) hd⟩)
  ·unfold Rep at rp
   obtain ⟨ad,rfl,ha⟩:=rp
   exact .inl ⟨ad,rfl,⟨_,q2.s.seq ha⟩,k _ _ B2 H' q2 (it_listV ha (.ints _)) hd⟩
  ·rename_i z
   unfold Rep at rp
   exact .inr (.inr ⟨z,rp,k _ _ B2 H' q2 (it_str z) hd⟩)
  ·exact hd.elim⟩
noncomputable def rngL (lo:Int) (n:Nat):List D:=(List.range n).map fun (i:Nat)=>.int (lo+i)
theorem it_rng (lo:Int) (n:Nat):ItOk K B (Itr lo n) (rngL lo n):=fun i B2 H sb s2=>by
 unfold rngL
 refine ⟨fun d e=>?_,fun e=>?_⟩
 ·rw [List.getElem?_map] at e
  by_cases hi:i < n
  ·rw [List.getElem?_range hi] at e
   cases e
   exact ⟨hi,fun y H' q=>⟨B2,by rw [q.1]; exact .refl s2,by rw [q.2]; exact rep_dV (d:=.int (lo+(i:Nat))) rfl⟩⟩
  ·rw [List.getElem?_eq_none (by rw [List.length_range]; lia)] at e
   cases e
 ·have:=List.getElem?_eq_none_iff.mp e
  rw [List.length_map,List.length_range] at this
  exact this
noncomputable def vRng1 (te:TV):TVA:=fun τ Q=>te τ fun r=>match r.d with
 | .int j=>-(2 ^ 62)≤j∧j < 2 ^ 62∧Q (.ok (rngL 0 j.toNat))
 | _=>False
theorem vi_rng1 {tg:Expr} (hg:Gl X "range") (hm:X.mg "range" = none) (h:VE X EX a ta) (hp:plainE a=true:=by rfl):VI X EX tg (.Call (.Name "range" p) [a] [] pos) (vRng1 ta) :=
 let ⟨_,a1,a2⟩:=h.u; ⟨_,qrng1 hg hm (qac a1 qa_nil hp) hp,fun H0 B H τ σ Q Qd s S h xc k=>a2 H0 B H τ σ _ _ s S h (xno fun _ q=>q) fun r v B' H' q hr hq=>by
  split at hq
  ·rename_i j ej
   exact ⟨j,by rw [hr.pk.scal (z:=.int j) (by rw [ej]; rfl)],hq.1,hq.2.1,k _ _ B' H' q (it_rng 0 j.toNat) hq.2.2⟩
  ·exact hq.elim⟩
noncomputable def vRng2 (ta tb:TV):TVA:=fun τ Q=>ta τ fun rx=>exR rx (fun _=>False) <| tb τ fun ry=>match rx.d,ry.d with
 | .int i,.int j=>(-(2 ^ 62)≤i∧i < 2 ^ 62∧-(2 ^ 62)≤j∧j < 2 ^ 62)∧Q (.ok (rngL i (j - i).toNat))
 | _,_=>False
noncomputable def forW (g:TVG) (tb:TVS) (Dv:VEnds):List D→VSt→Prop
 | [],τ=>Dv.nx τ
 | d :: ds,τ=>g d τ fun τ'=>tb { Dv with nx:=forW g tb Dv ds,ct:=forW g tb Dv ds,bk:=Dv.nx } τ'
noncomputable def exI (τ:VSt) (Dv:VEnds):AR→(List D→Prop)→Prop
 | .ok ds,k=>k ds
 | .exc n,_=>Dv.xc τ n
noncomputable def vFor (vi:TVA) (g:TVG) (tb:TVS):TVS:=fun Dv τ=>vi τ fun a=>exI τ Dv a fun ds=>forW g tb Dv ds τ
theorem rf_for {wi:TI} {g:TG} {tb:TS} {vi:TVA} {gv:TVG} {bv:TVS} (hi:RfI K EX wi vi) (hg:RfG K g gv) (hb:RfS K EX tb bv):RfS K EX (tFor wi g tb) (vFor vi gv bv):=fun B0 H0 B H τ σ Dv Dh p S h E =>
 hi H0 B H τ σ _ _ p.s S h (E.raised p S) fun J ds B1 H1 q ok hw=>by
  have pq:=p.trans q
  have E1:=E.base pq
  refine ⟨fun i m σ H=>m=ds.length - i∧i≤ds.length∧∃ B2 τ,Stp B1 H0 B2 H∧Slots K H0 B2 H τ σ∧forW gv bv Dv (ds.drop i) τ,⟨ds.length,by lia,Nat.zero_le _,B1,τ,pq.here,S.step q,hw⟩,?_⟩
  rintro i m σ2 H2 ⟨rfl,hi,B2,τ2,p2,S2,w⟩
  by_cases hlt:i < ds.length
  ·have ei:ds[i]?=some ds[i]:=List.getElem?_eq_getElem hlt
   rw [List.drop_eq_getElem_cons hlt] at w
   obtain ⟨go,yl⟩:=(ok i B2 H2 p2.b p2.s).1 _ ei
   refine .inr ⟨go,fun σ' H'=>∃ B2 τ,Stp B1 H0 B2 H'∧Slots K H0 B2 H' τ σ'∧forW gv bv Dv (ds.drop (i+1)) τ,fun σ' H' ⟨B3,τ3,a1,a2,a3⟩=>⟨ds.length - (i+1),by lia,rfl,by lia,B3,τ3,a1,a2,a3⟩,fun y H' hy=>?_⟩
   obtain ⟨B3,q3,rp⟩:=yl y H' hy
   refine hg H0 B3 H' τ2 σ2 y _ _ _ q3.s (S2.step q3) rp w fun τ' σ' S' _ h'=>?_
   exact hb B1 H0 B3 H' τ' σ' _ _ (p2.trans q3) S' h' ⟨fun B H τ σ a1 a2 a3=>⟨B,τ,a1,a2,a3⟩,E1.rt,fun B H τ σ a1 a2 a3=>E1.nx B H τ σ a1 a2 a3,fun B H τ σ a1 a2 a3=>⟨B,τ,a1,a2,a3⟩,E1.xc,E1.ro⟩
  ·have ei:ds[i]?=none:=List.getElem?_eq_none (by lia)
   rw [List.drop_eq_nil_of_le (by lia)] at w
   exact .inl ⟨(ok i B2 H2 p2.b p2.s).2 ei,E1.nx B2 H2 τ2 σ2 p2 S2 w⟩
theorem vs_for {tg iter:Expr} {body:List Stmt} {vi:TVA} {g:TVG} (hp:PassesOwn (model X.prog X.w) X.A X.env X.xe) (hc:X.calm=true) (hi:VI X EX tg iter vi) (hg:VG X tg g) (hb:VSs X EX body t)
  (hs:∀ x,foldedSetIterable iter X.env x=pure x:=by intro _; rfl):VS X EX (.For tg iter body [] pos) (vFor vi g t) :=
 let ⟨_,a1,a2⟩:=hi.u; let ⟨_,b1,b2⟩:=hg.u; let ⟨_,c1,c2⟩:=hb.u; ⟨_,qs_for hp hc a1 b1 c1 hs,rf_for a2 b2 c2⟩
theorem vfs_nil:VFs X EX [] (fun _ Q=>Q true):=⟨_,qif_nil,fun H0 B H τ σ Y N Qd s S h k=>by have:=k true B H (.refl s) h; rw [if_pos rfl] at this; exact this⟩
theorem vfs_one (h:VT X EX c tT):VFs X EX [c] tT:=let ⟨_,a1,a2⟩:=h.u; ⟨_,qif_one a1,fun H0 B H τ σ Y N Qd s S h k=>a2 H0 B H τ σ _ _ s S h k⟩
noncomputable def compW (τ:VSt) (k:Nat) (g:TVG) (ti:TVT) (te:TV) (Q:R→Prop):List D→List D→Prop
 | [],acc=>Q (.own (.lst acc))
 | d :: ds,acc=>g d (τ++List.replicate k none) fun τ2=>(τ2.take τ.length=τ∧τ2.length=τ.length+k)∧ti τ2 fun b=>if b=true then te τ2 fun r=>pubR r fun d'=>acc.length < sizeLine∧compW τ k g ti te Q ds (acc++[d']) else compW τ k g ti te Q ds acc
noncomputable def vComp (vi:TVA) (g:TVG) (ti:TVT) (te:TV) (k:Nat):TV:=fun τ Q=>vi τ fun a=>exA a Q fun ds=>compW τ k g ti te Q ds []
theorem Slots.more (S:Slots K H0 B H τ σ) (k:Nat):Slots K H0 B H (τ++List.replicate k none) (σ++List.replicate k none):=by
 have get:∀ (i:Nat) (r:R),(τ++List.replicate k none)[i]?=some (some r)→τ[i]?=some (some r)∧(σ++List.replicate k (none:Option V))[i]?=σ[i]?:=fun i r h=>by
  by_cases l:i < τ.length
  ·rw [List.getElem?_append_left l] at h
   exact ⟨h,List.getElem?_append_left (by rw [S.len]; exact l)⟩
  ·rw [List.getElem?_append_right (by lia)] at h
   by_cases l2:i - τ.length < k
   ·rw [List.getElem?_replicate_of_lt l2] at h; cases h
   ·rw [List.getElem?_eq_none (by rw [List.length_replicate]; lia)] at h; cases h
 refine ⟨by rw [List.length_append,List.length_append,S.len,List.length_replicate,List.length_replicate],fun i d h=>?_,fun i d h=>?_,fun i d h=>?_,fun i j d e a h1 h2 h3 h4=>?_⟩
 ·obtain ⟨g1,g2⟩:=get i _ h
  rw [g2]
  exact S.val i d g1
 ·obtain ⟨g1,g2⟩:=get i _ h
  rw [g2]
  exact S.fz i d g1
 ·obtain ⟨g1,g2⟩:=get i _ h
  rw [g2]
  exact S.own i d g1
 ·obtain ⟨g1,g2⟩:=get i _ h1
  obtain ⟨g3,g4⟩:=get j _ h2
  rw [g2] at h3
  rw [g4] at h4
  exact S.sep i j d e a g1 g3 h3 h4
theorem Slots.less {τ2:VSt} {k:Nat} (S:Slots K H0 B H τ2 σ) (h1:τ2.take τ.length=τ) (h2:τ2.length=τ.length+k):Slots K H0 B H (τ++List.replicate k none) σ∧∀ (j:Nat) (e:D),(τ++List.replicate k none)[j]?=some (some (R.own e))→τ2[j]?=some (some (R.own e)):=by
 have get:∀ (i:Nat) (r:R),(τ++List.replicate k none)[i]?=some (some r)→τ2[i]?=some (some r):=fun i r h=>by
  by_cases l:i < τ.length
  ·rw [List.getElem?_append_left l,← h1,List.getElem?_take_of_lt l] at h
   exact h
  ·rw [List.getElem?_append_right (by lia)] at h
   by_cases l2:i - τ.length < k
   ·rw [List.getElem?_replicate_of_lt l2] at h; cases h
   ·rw [List.getElem?_eq_none (by rw [List.length_replicate]; lia)] at h; cases h
 exact ⟨⟨by rw [S.len,h2,List.length_append,List.length_replicate],fun i d h=>S.val i d (get i _ h),fun i d h=>S.fz i d (get i _ h),fun i d h=>S.own i d (get i _ h),fun i j d e a q1 q2=>S.sep i j d e a (get i _ q1) (get j _ q2)⟩,fun j e=>get j _⟩
theorem Slots.heap (S:Slots K H0 B H τ σ) (h:∀ (i:Nat) (d:D) (a:Addr),τ[i]?=some (some (R.own d))→σ[i]?=some (some (.ref a))→H' a=H a):Slots K H0 B H' τ σ :=
 ⟨S.len,S.val,S.fz,fun i d e=>let ⟨a,q1,q2,q3,q4⟩:=S.own i d e; ⟨a,q1,q2,q3,q4.step (Same.refl _) (h i d a e q1)⟩,S.sep⟩
noncomputable abbrev EX0:St→XK:=fun _ _ _ _=>False
theorem rf_comp {wi:TI} {g:TG} {ti:TF} {ee:TE} {vi:TVA} {gv:TVG} {tv:TVT} {k:Nat} (hi:RfI K EX wi vi) (hg:RfG K g gv) (hf:RfF K ti tv) (he:RfE K EX0 ee te):RfE K EX (tComp wi g ti ee k) (vComp vi gv tv te k):=fun H0 B H τ σ Q Qd s S h xc kk =>
 hi H0 B H τ σ _ _ s S h xc fun J ds B1 H1 q ok hw p hp=>by
  have S1:=S.step q
  refine ⟨fun i m σ' xs H'=>m=ds.length - i∧i≤ds.length∧∃ B2 acc,Stp B1 H1 B2 H'∧H' p=some (.lst xs)∧B2 p=none∧Reps K B2 acc xs∧Slots K H0 B2 H' (τ++List.replicate k none) σ' ∧
    (∀ (j:Nat) (e:D),(τ++List.replicate k none)[j]?=some (some (R.own e))→σ'[j]?≠some (some (.ref p)))∧compW τ k gv tv te Qd (ds.drop i) acc,
   ⟨ds.length,by lia,Nat.zero_le _,B1,[],.grow q.s (same_upd hp _),upd_same,q.s.free hp,.nil,(S1.more k).heap fun i d a h1 h2=>?_,fun j e h1 h2=>?_,hw⟩,?_⟩
  ·obtain ⟨c,q1,_,_,ow⟩:=(S1.more k).own i d h1
   rw [h2] at q1
   cases q1
   exact upd_ne fun z=>ow.some (z ▸ hp)
  ·obtain ⟨c,q1,_,_,ow⟩:=(S1.more k).own j e h1
   rw [h2] at q1
   cases q1
   exact ow.some hp
  rintro i m σ2 xs H2 ⟨rfl,hle,B2,acc,p2,hx,hb,rp,S2,fr,w⟩
  by_cases hlt:i < ds.length
  ·have ei:ds[i]?=some ds[i]:=List.getElem?_eq_getElem hlt
   rw [List.drop_eq_getElem_cons hlt] at w
   obtain ⟨go,yl⟩:=(ok i B2 H2 p2.b p2.s).1 _ ei
   refine .inr ⟨go,fun y H' hy=>?_⟩
   obtain ⟨B3,q3,ry⟩:=yl y H' hy
   replace hb:=q3.keep hb (by rw [hx]; exact fun z=>by cases z) (by rw [hx]; exact fun _ z=>by cases z)
   replace hx:=q3.h _ _ hx
   replace rp:=rp.same q3.b
   replace p2:=p2.trans q3
   replace S2:=S2.step q3
   clear q3
   refine hg H0 B3 H' _ σ2 y _ _ _ p2.s S2 ry w fun τ3 σ3 S3 kp h3=>?_
   obtain ⟨⟨e1,e2⟩,h3⟩:=h3
   obtain ⟨S3',ow3⟩:=S3.less e1 e2
   have fr3:∀ (j:Nat) (e:D),(τ++List.replicate k none)[j]?=some (some (R.own e))→σ3[j]?≠some (some (.ref p)):=fun j e h z=>by
    obtain ⟨g1,g2⟩:=kp j e (ow3 j e h)
    rw [g2] at z
    exact fr j e g1 z
   refine hf H0 B3 H' τ3 σ3 _ _ _ p2.s S3 h3 fun b B4 H4 q4 hq4=>?_
   have hx4:H4 p=some (.lst xs):=q4.h _ _ hx
   have hb4:B4 p=none:=q4.keep hb (by rw [hx]; exact fun z=>by cases z) (by rw [hx]; exact fun _ z=>by cases z)
   cases b with
   | false =>
    rw [if_neg Bool.false_ne_true] at hq4 ⊢
    exact ⟨ds.length - (i+1),by lia,rfl,by lia,B4,acc,p2.trans q4,hx4,hb4,rp.same q4.b,S3'.step q4,fr3,hq4⟩
   | true =>
    rw [if_pos rfl] at hq4 ⊢
    refine he H0 B4 H4 τ3 σ3 _ _ q4.s (S3.step q4) hq4 (xno fun _ q=>q) fun r v B5 H5 q5 hr hq5=>?_
    obtain ⟨d',B6,q6,_,rd,hz,hq6⟩:=pub q5 hr hq5
    have hx6:H5 p=some (.lst xs):=q6.h _ _ hx4
    have hb6:B6 p=none:=q6.keep hb4 (by rw [hx4]; exact fun z=>by cases z) (by rw [hx4]; exact fun _ z=>by cases z)
    have qq:=q4.trans q6
    refine ⟨hx6,by rw [← rp.length]; exact hz,ds.length - (i+1),by lia,rfl,by lia,B6,acc++[d'],(p2.trans qq).upd hp hb6,upd_same,hb6,(rp.same qq.b).append (.one rd),(S3'.step qq).heap fun j d a h1 h2=>?_,fr3,hq6⟩
    exact upd_ne fun z=>fr3 j d h1 (z ▸ h2)
  ·have ei:ds[i]?=none:=List.getElem?_eq_none (by lia)
   rw [List.drop_eq_nil_of_le (by lia)] at w
   exact .inl ⟨(ok i B2 H2 p2.b p2.s).2 ei,kk (.own (.lst acc)) _ B2 H2 (q.trans p2) ⟨p,rfl,q.h.free hp,hb,xs,hx,rp⟩ w⟩
noncomputable def canE (K:PySem.W.Frag) (t:TV):TE:=fun σ H Q=>∃ H0 B τ Qd,Same B H∧Slots K H0 B H τ σ∧t τ Qd∧(∀ n C B' H',Stp B H B' H'→clsOf K n C→Qd (.exc n)→EX0 σ (.ref C) none H')∧∀ r v B' H',Stp B H B' H'→RepR K B' H H' r v→Qd r→Q v H'
noncomputable def canG (K:PySem.W.Frag) (g:TVG):TG:=fun v σ H Q=>∃ H0 B τ d Qd,Same B H∧Slots K H0 B H τ σ∧Rep K B d v∧g d τ Qd∧∀ τ' σ',Slots K H0 B H τ' σ'→Kp τ σ τ' σ'→Qd τ'→Q σ' H
noncomputable def canF (K:PySem.W.Frag) (t:TVT):TF:=fun σ H Y N=>∃ H0 B τ Qd,Same B H∧Slots K H0 B H τ σ∧t τ Qd∧∀ b B' H',Stp B H B' H'→Qd b→if b=true then Y H' else N H'
theorem VE.can (h:VE X EX0 e te):QE X e (canE X.K te):=let ⟨_,a1,a2⟩:=h.u; ⟨fun pins s σ H Q I ⟨H0,B,τ,Qd,q1,q2,q3,q4,q5⟩=>a1.u pins s σ H Q I (a2 H0 B H τ σ Q Qd q1 q2 q3 q4 q5)⟩
theorem VG.can {g:TVG} (h:VG X e g):QG X e (canG X.K g):=let ⟨_,a1,a2⟩:=h.u; ⟨fun pins s σ H v u Q I r ⟨H0,B,τ,d,Qd,q1,q2,q3,q4,q5⟩=>a1.u pins s σ H v u Q I r (a2 H0 B H τ σ v d Q Qd q1 q2 q3 q4 q5)⟩
theorem VFs.can (h:VFs X EX es tT):QF X es (canF X.K tT):=let ⟨_,a1,a2⟩:=h.u; ⟨fun pins s σ H Y N I ⟨H0,B,τ,Qd,q1,q2,q3,q4⟩=>a1.u pins s σ H Y N I (a2 H0 B H τ σ Y N Qd q1 q2 q3 q4)⟩
theorem vc_comp {tg iter elt:Expr} {ifs:List Expr} {csc:Scope} {NB M:List Str} {vi:TVA} {g:TVG} {ti:TVT} (hi:VI X EX tg iter vi) (hc:X.calm=true) (S:CompScope X.env.scope X.N NB M csc)
  (hg:∀ cl C s₀ H₀ fp pn,VG (cxC X NB csc cl C s₀ H₀ fp pn) tg g) (hf:∀ cl C s₀ H₀ fp pn,VFs (cxC X NB csc cl C s₀ H₀ fp pn) EX0 ifs ti)
  (he:∀ cl C s₀ H₀ fp pn,VE (cxC X NB csc cl C s₀ H₀ fp pn) EX0 elt te) (hs:∀ x,foldedSetIterable iter X.env x=pure x:=by intro _; rfl):VC X EX (.ListComp elt [⟨tg,iter,ifs,0⟩] csc pos) (vComp vi g ti te M.length) :=
 let ⟨_,a1,a2⟩:=hi.u; ⟨_,qc_comp (g:=canG X.K g) (ti:=canF X.K ti) (te:=canE X.K te) a1 hc S (fun cl C s₀ H₀ fp pn=>(hg cl C s₀ H₀ fp pn).can) (fun cl C s₀ H₀ fp pn=>(hf cl C s₀ H₀ fp pn).can) (fun cl C s₀ H₀ fp pn=>(he cl C s₀ H₀ fp pn).can) hs,
  rf_comp a2 (fun H0 B H τ σ v d Q Qd q1 q2 q3 q4 q5=>⟨H0,B,τ,d,Qd,q1,q2,q3,q4,q5⟩) (fun H0 B H τ σ Y N Qd q1 q2 q3 q4=>⟨H0,B,τ,Qd,q1,q2,q3,q4⟩) (fun H0 B H τ σ Q Qd q1 q2 q3 q4 q5=>⟨H0,B,τ,Qd,q1,q2,q3,q4,q5⟩)⟩
theorem vc_e (h:VC X EX e te):VE X EX e te:=let ⟨_,a1,a2⟩:=h.u; ⟨_,qc_e a1,a2⟩
noncomputable def ownL (τ:VSt) (i:Nat) (Q:List D→Prop):Prop:=match τ[i]? with
 | some (some (.own (.lst ds)))=>Q ds
 | _=>False
theorem ownL_of {i:Nat} {Q:List D→Prop} (h:ownL τ i Q):∃ ds,τ[i]?=some (some (.own (.lst ds)))∧Q ds:=by
 unfold ownL at h
 split at h
 ·exact ⟨_,by assumption,h⟩
 ·exact h.elim
theorem Slots.lst {i:Nat} {ds es:List D} {ad:Addr} {ys:List V} (S:Slots K H0 B H τ σ) (p:Stp B0 H0 B H) (hi:τ[i]?=some (some (.own (.lst ds)))) (ha:σ[i]?=some (some (.ref ad))) (r:Reps K B es ys) :
  Stp B0 H0 B (L2.upd H ad (.lst ys))∧Slots K H0 B (L2.upd H ad (.lst ys)) (τ.set i (some (.own (.lst es)))) σ:=by
 obtain ⟨c,q,h0,hb,_⟩:=S.own i _ hi
 rw [ha] at q
 cases q
 exact ⟨p.upd h0 hb,S.upd hi ha (own_newL r)⟩
theorem Slots.ownL {i:Nat} {Q:List D→Prop} (S:Slots K H0 B H τ σ) (h:L2.ownL τ i Q):∃ ds ad xs,τ[i]?=some (some (.own (.lst ds)))∧Q ds∧σ[i]?=some (some (.ref ad))∧H ad=some (.lst xs)∧Reps K B ds xs:=by
 obtain ⟨ds,e,q⟩:=ownL_of h
 obtain ⟨a,q1,_,_,xs,q2,q3⟩:=S.own i _ e
 exact ⟨ds,a,xs,e,q,q1,q2,q3⟩
noncomputable def vAppend (i:Nat) (te:TV):TVS:=fun Dv τ=>ownL τ i fun ds=>te τ fun r=>exS τ Dv r (pubR r fun d=>ds.length < sizeLine∧Dv.nx (τ.set i (some (.own (.lst (ds++[d]))))))
theorem vs_append (i:Nat) (h:VE X EX e te) (hN:X.N[i]?=some x:=by rfl) (hv:Vis X.env.scope x:=by first | exact Or.inl rfl | exact Or.inr (Or.inl rfl) | exact Or.inr (Or.inr rfl)) (hd:(x == ("__debug__" : Str))=false:=by decide)
  (hcd:(x == ("__classdict__" : Str))=false:=by decide) (hp:plainE e=true:=by rfl)
  (hbase:attributeBase (.Name x p) "append" X.env (eval (.Name x p) X.env)=eval (.Name x p) X.env:=by rfl) (hline:(apos.endLine == cpos.line)=true:=by rfl)
  (hs:swapsWith (.Call (.Attribute (.Name x p) "append" apos) [e] [] cpos) none pos.line X.env=pure false:=by rfl) :
  VS X EX (.Expr (.Call (.Attribute (.Name x p) "append" apos) [e] [] cpos) pos) (vAppend i te) :=
 let ⟨_,a1,a2⟩:=h.u; ⟨_,qs_expr (qbm PySem.F.plainAttrs_list PySem.F.slot_list_append PySem.F.type_list_append mt_append (qv i hN hv hd hcd) (qac a1 qa_nil hp) (by simp [hp]) rfl hbase hline) hs,fun B0 H0 B H τ σ Dv Dh p S h E=>by
  obtain ⟨ds,ad,xs,e1,h,e2,e3,_⟩:=S.ownL h
  refine ⟨.ref ad,e2,.inl ⟨rfl,xs,SqL.of e3⟩,a2 H0 B H τ σ _ _ p.s S h (E.raised p S) fun r v B' H' q hr hq=>?_⟩
  obtain ⟨d,B2,q2,_,rp,hz,hn⟩:=pub q hr (hr.okS hq)
  have S2:=S.step q2
  obtain ⟨a',q1,_,_,xs2,q4,q3⟩:=S2.own i _ e1
  rw [e2] at q1
  cases q1
  refine ⟨ad,xs2,v,rfl,rfl,q4,by rw [← q3.length]; exact hz,?_⟩
  obtain ⟨p3,S3⟩:=S2.lst (p.trans q2) e1 e2 (q3.append (.one rp))
  exact E.nx B2 _ _ σ p3 S3 hn⟩
noncomputable def startD (N:List Str) (ds:List D):VSt:=ds.map (fun d=>some (R.val d))++List.replicate (N.length - ds.length) none
theorem reps_slots:∀ {ds:List D} {vs:List V},Reps K B ds vs→Slots K H0 B H (ds.map fun d=>some (R.val d)) (vs.map some)
 | [],_,h=>by
  unfold Reps at h
  subst h
  exact ⟨rfl,fun i d e=>by simp at e,fun i d e=>by simp at e,fun i d e=>by simp at e,fun i j d e a h=>by simp at h⟩
 | d :: ds,_,h=>by
  unfold Reps at h
  obtain ⟨v,vs,rfl,h1,h2⟩:=h
  have S:=reps_slots h2
  refine ⟨by have:=S.len; simp at this ⊢; exact this,fun i f e=>?_,fun i f e=>?_,fun i f e=>?_,fun i j f g ad e=>?_⟩
  ·cases i with
   | zero=>simp at e; subst e; exact ⟨v,rfl,h1⟩
   | succ i=>simpa using S.val i f (by simpa using e)
  ·cases i with
   | zero=>simp at e
   | succ i=>simpa using S.fz i f (by simpa using e)
  ·cases i with
   | zero=>simp at e
   | succ i=>simpa using S.own i f (by simpa using e)
  ·cases i with
   | zero=>simp at e
   | succ i =>
    simp at e
theorem Fun.okV {P:Program} {w:World} {mg:Str→Option Value} {base:Heap} {x qual:Str} {st:Stmt} {f:Addr} {fd:FuncData} {N ps:List Str} {k:Nat} {g:DP} (F:Fun K x qual st f fd) (S:FnScope N ps (defScope st)) (len:∀ ds Q,g ds Q→ds.length=ps.length)
  (hbody:∀ (cdv:Value) (A:Around) (outer:List Env) (s:Shared) (H:Hp) (E:XK),Room k (A.deeper (envOfC qual (defScope st) s.heap.objs.size f cdv)) →
   ∃ t,VSs (cxOf CX0 P w K mg base N qual (defScope st) f cdv A outer s H E).nox EX0 (defBody st) t∧∀ ds Q,g ds Q→t { nx:=fun _=>Q (.val .non),rt:=Q } (startD N ds)):FnOk P w K mg base CX0 (k+1) f fd ps (spOf K g):=by
 refine F.okQ S (fun vs H Q E h=>?_) (fun cdv A outer s H vs Q E hr h=>?_)
 ·obtain ⟨ds,B,Qd,_,rp,hg,_,_⟩:=h
  rw [← rp.length]
  exact len ds Qd hg
 ·obtain ⟨ds,B,Qd,sm,rp,hg,_,kk⟩:=h
  obtain ⟨t,⟨ts,q1,q2⟩,ht⟩:=hbody cdv A outer s H E hr
  refine ⟨ts,q1,q2 B H B H (startD N ds) (start N vs) _ _ (.refl sm) ?_ (ht ds Qd hg) ⟨fun B' H' τ σ p S h=>kk (.val .non) .non B' H' h p (repV rfl),fun r v B' H' p hr h=>kk r v B' H' h p hr,fun _ _ _ _ _ _ h=>h.elim,fun _ _ _ _ _ _ h=>h.elim,fun _ _ _ _ _ _ _ _ _ h=>h.elim,fun _ _ _ _ _ _ _ _ _ _ h=>h.elim⟩⟩
  unfold startD start
  rw [rp.length]
  exact (reps_slots rp).more _
end
end L2
namespace L2
open PySem PySem.Spec PyProof.Rows
section
variable {X:Cx} {EX:St→XK} {K:PySem.W.Frag} {e a b c o:Expr} {te ta tb tc to:TV} {pos p apos cpos:Pos} {x:Str}
noncomputable def vNeg (ta:TV):TV:=fun τ Q=>ta τ fun r=>match r.d with
 | .int i=>Q (.val (.int (-i)))
 | _=>False
theorem ve_neg (ha:VE X EX a ta):VE X EX (.UnaryOp .USub a pos) (vNeg ta) :=
 let ⟨_,a1,a2⟩:=ha.u; ⟨_,qe_un un_neg a1,fun H0 B H τ σ Q Qd s S h xc k=>a2 H0 B H τ σ _ _ s S h (xno fun _ q=>q) fun r v B' H' p q h1=>by
  split at h1
  ·rename_i i e
   exact ⟨i,q.pk.scal (by rw [e]; rfl),k (.val (.int (-i))) _ B' H' p (repV rfl) h1⟩
  ·exact h1.elim⟩
noncomputable def vIsN (g:Bool→Bool) (rx ry:R) (Q:R→Prop):Prop:=match ry.d with
 | .non=>Q (.val (.bl (g (match rx.d with | .non=>true | _=>false))))
 | _=>False
theorem pk_non {B H:Hp} {r:R} {v:V} (h:Pk K B H r v):decide (v=.non)=(match r.d with | .non=>true | _=>false):=by
 have key:∀ d,Rep K B d v→decide (v=.non)=(match d with | .non=>true | _=>false):=fun d h=>by
  cases d <;> unfold Rep at h <;> first | (subst h; rfl) | (obtain ⟨_,_,rfl,_⟩:=h; rfl) | (obtain ⟨_,rfl,_⟩:=h; rfl)
 have key2:∀ d,(∃ a,v=.ref a∧B a=none∧OwnAt K B H d a)→decide (v=.non)=(match d with | .non=>true | _=>false):=fun d ⟨a,e,_,ow⟩=>by
  subst e
  cases d <;> first | rfl | exact ow.elim
 cases r with
 | val d=>exact key d h
 | own d=>exact key2 d h
 | peek d=>exact key2 d h
 | exc n=>exact h.elim
theorem vo_isnot:VO X (compareOp .IsNot) (vIsN (!·)):=by
 refine ⟨_,op_notN,fun B H x y rx ry Q Qd s px py h k=>?_⟩
 unfold vIsN at h
 split at h
 ·rename_i e
  refine ⟨py.scal (by rw [e]; rfl),?_⟩
  rw [pk_non px]
  exact k _ _ B H (.refl s) (repV rfl) h
 ·exact h.elim
theorem mt_joinT:MtM X "str.join" (fun x vs H Q=>∃ (sep:Str) (l:Addr) (ys:List Str),x=.str sep∧vs=[.ref l]∧SqT X.K H l (ys.map V.str)∧(ys.map (·.length)).sum+ys.length * sep.length≤16777216∧Q (.str (glue sep ys)) H):=by
 intro pins s σ H x vs v us Q I rx rv h
 obtain ⟨sep,l,ys,rfl,rfl,hq,hz,q⟩:=h
 obtain ⟨t,rfl⟩:=rx
 obtain ⟨u,rfl,ru⟩:=rv.one
 cases ru
 obtain ⟨its,r,pl,_⟩:=I.tuple hq
 obtain ⟨ts,rfl,rfl⟩:=strs_of r
 have fit:Builtin.Str.tooLong ((ts.map (·.1)).toArray.foldl (·+·.length+sep.length) 0)=false:=by
  rw [StrLaws.joinTotal]
  unfold Builtin.Str.tooLong
  rw [sizeLine_eq]
  exact decide_eq_false (by lia)
 exact call_meets F.slot_str_join (typeIs_str _ _ _) F.entry_str_join (F.args_str_join_2 _ _) (meets_str_join_tuple sep t l ts fit) ⟨(let ⟨o,h1,h2,n,h3⟩:=pl; ⟨o,n,h1,h2,h3⟩),post_join ts ⟨joinFit_length fit,fun t' k=>⟨.str (glue sep (ts.map (·.1))),H,I.tok k,⟨t',rfl⟩,q⟩⟩⟩
noncomputable def vJoin (to te:TV):TV:=fun τ Q=>to τ fun rs=>match rs.d with
 | .str sep=>te τ fun rl=>∃ ys:List Str,(rl.d=.lst (ys.map D.str)∨rl.d=.tup (ys.map D.str))∧(ys.map (·.length)).sum+ys.length * sep.length≤16777216∧Q (.val (.str (glue sep ys)))
 | _=>False
theorem ve_join (ho:VE X EX o to) (h:VE X EX e te) (hp:plainE e=true:=by rfl)
  (hbase:attributeBase o "join" X.env (eval o X.env)=eval o X.env:=by rfl) (hline:(apos.endLine == cpos.line)=true:=by rfl):VE X EX (.Call (.Attribute o "join" apos) [e] [] cpos) (vJoin to te) :=
 let ⟨_,o1,o2⟩:=ho.u; let ⟨_,a1,a2⟩:=h.u; ⟨_,qbm PySem.F.plainAttrs_str PySem.F.slot_str_join PySem.F.type_str_join (MtR.or mt_join mt_joinT) o1 (qac a1 qa_nil hp) (by simp [hp]) rfl hbase hline,fun H0 B H τ σ Q Qd s S h xc k =>
  o2 H0 B H τ σ _ _ s S h (xno fun _ q=>q) fun rs vs B1 H1 p1 q1 h1=>by
   split at h1
   ·rename_i sep es
    cases q1.pk.scal (z:=.str sep) (by rw [es]; rfl)
    refine ⟨rfl,a2 H0 B1 H1 τ σ _ _ p1.s (S.step p1) h1 (xno fun _ ⟨_,q,_⟩=>by rcases q with q | q <;> cases q) fun rl vl B2 H2 p2 q2 h2=>?_⟩
    obtain ⟨ys,el,hz,hq⟩:=h2
    rcases el with el | el
    ·obtain ⟨ad,xs,rfl,hx,rx⟩:=q2.pk.lst p2.s el
     exact .inl ⟨sep,ad,ys,rfl,rfl,SqL.of (by rw [hx,rx.strs]),hz,k _ _ B2 H2 (p1.trans p2) (repV rfl) hq⟩
    ·obtain ⟨ad,xs,rfl,hx,rx⟩:=q2.pk.tup el
     cases rx.strs
     exact .inr ⟨sep,ad,ys,rfl,rfl,p2.s.sqT hx.sq,hz,k _ _ B2 H2 (p1.trans p2) (repV rfl) hq⟩
   ·exact h1.elim⟩
noncomputable def strsOf:List D→Option (List Str)
 | []=>some []
 | .str s :: ds=>(strsOf ds).map (s :: ·)
 | _ :: _=>none
theorem strsOf_map (ss:List Str):strsOf (ss.map D.str)=some ss:=by
 induction ss with
 | nil=>rfl
 | cons s ss ih=>rw [List.map_cons,strsOf,ih]; rfl
theorem strsOf_eq:∀ {ds:List D} {ss:List Str},strsOf ds=some ss→ds=ss.map D.str
 | [],ss,h=>by cases h; rfl
 | d :: ds,ss,h=>by
  cases d <;> first | (unfold strsOf at h; cases h; done) | skip
  rename_i s
  unfold strsOf at h
  cases q:strsOf ds with
  | none=>rw [q] at h; cases h
  | some r =>
   rw [q] at h
   cases h
   rw [strsOf_eq q]
   rfl
noncomputable def vIn (g:Bool→Bool) (rx ry:R) (Q:R→Prop):Prop:=match rx.d,ry.d with
 | .str x,.str y=>Q (.val (.bl (g (!(Builtin.Str.occurrences y x 0 y.length 1).isEmpty))))
 | .str x,.tup ds=>∃ ss,strsOf ds=some ss∧Q (.val (.bl (g (decide (x∈ss)))))
 | .str x,.lst ds=>∃ ss,strsOf ds=some ss∧Q (.val (.bl (g (decide (x∈ss)))))
 | .str x,.kt ss=>Q (.val (.bl (g (decide (x∈ss)))))
 | _,_=>False
theorem inV_strs (x:Str):∀ (ss:List Str),inV (.str x) (ss.map V.str)=decide (x∈ss)
 | []=>rfl
 | y :: ss=>by
  have:=inV_strs x ss
  unfold inV at this ⊢
  rw [List.map_cons,List.any_cons,this]
  apply bool_iff
  rw [Bool.or_eq_true,decide_eq_true_iff,decide_eq_true_iff,List.mem_cons]
  rw [show eqV (V.str y) (V.str x)=(y == x) from rfl,beq_iff_eq]
  exact ⟨fun h=>h.imp Eq.symm id,fun h=>h.imp Eq.symm id⟩
theorem flat_strs (ss:List Str):(ss.map V.str).all flatV=true:=by rw [List.all_map]; simp [flatV]
theorem Pk.kt {B H:Hp} {r:R} {v:V} {ss:List Str} (h:Pk K B H r v) (e:r.d=.kt ss):∃ a,v=.ref a∧SqT K (fun _=>none) a (ss.map V.str):=by
 cases r with
 | val d =>
  cases (show d=_ from e)
  have h':Rep K B (.kt ss) v:=h
  unfold Rep at h'
  exact h'
 | own d=>cases (show d=_ from e); obtain ⟨_,_,_,q⟩:=h; exact q.elim
 | peek d=>cases (show d=_ from e); obtain ⟨_,_,_,q⟩:=h; exact q.elim
 | exc n=>exact h.elim
theorem vo_in:VO X (compareOp .In) (vIn id):=by
 refine ⟨_,op_in_str.or op_in_seq,fun B H x y rx ry Q Qd s px py h k=>?_⟩
 unfold vIn at h
 split at h
 ·rename_i u w e1 e2
  exact .inl ⟨u,w,px.scal (by rw [e1]; rfl),py.scal (by rw [e2]; rfl),k _ _ B H (.refl s) (repV rfl) h⟩
 ·rename_i u ds e1 e2
  obtain ⟨ss,hs,q⟩:=h
  cases strsOf_eq hs
  cases px.scal (z:=.str u) (by rw [e1]; rfl)
  obtain ⟨a,xs,rfl,h1,r1⟩:=py.tup e2
  cases r1.strs
  have q':Qd (.val (.bl (decide (u∈ss)))):=q
  rw [← inV_strs] at q'
  exact .inr ⟨a,_,rfl,.inr (s.sqT h1.sq),rfl,flat_strs ss,k _ _ B H (.refl s) (repV rfl) q'⟩
 ·rename_i u ds e1 e2
  obtain ⟨ss,hs,q⟩:=h
  cases strsOf_eq hs
  cases px.scal (z:=.str u) (by rw [e1]; rfl)
  obtain ⟨a,xs,rfl,h1,r1⟩:=py.lst s e2
  cases r1.strs
  have q':Qd (.val (.bl (decide (u∈ss)))):=q
  rw [← inV_strs] at q'
  exact .inr ⟨a,_,rfl,.inl (SqL.of h1),rfl,flat_strs ss,k _ _ B H (.refl s) (repV rfl) q'⟩
 ·rename_i u ss e1 e2
  cases px.scal (z:=.str u) (by rw [e1]; rfl)
  obtain ⟨a,rfl,h1⟩:=py.kt e2
  have q':Qd (.val (.bl (decide (u∈ss)))):=h
  rw [← inV_strs] at q'
  exact .inr ⟨a,_,rfl,.inr ((Same.emp H).sqT h1),rfl,flat_strs ss,k _ _ B H (.refl s) (repV rfl) q'⟩
 ·exact h.elim
end
end L2
namespace L2
open PySem PySem.Spec PyProof.Rows
theorem v_cut {t u:TVS} {Dv:VEnds} {τ:VSt} (Pv:VSt→Prop) (rest:∀ τ,Pv τ→u Dv τ) (now:∀ nx:VSt→Prop,(∀ τ,Pv τ→nx τ)→t { nx:=nx,rt:=Dv.rt,bk:=Dv.bk,ct:=Dv.ct,xc:=Dv.xc,ro:=Dv.ro } τ):vSeq t u Dv τ:=now (u Dv) rest
section
variable {g:TVG} {tb:TVS} {Dv:VEnds} {τ:VSt}
theorem for_inv {ds:List D} (Pv:Nat→VSt→Prop) (h0:Pv 0 τ) (hn:∀ (i:Nat) (d:D) (τ:VSt),ds[i]?=some d→Pv i τ→∀ nx:VSt→Prop,(∀ τ',Pv (i+1) τ'→nx τ')→g d τ fun τ'=>tb { nx:=nx,rt:=Dv.rt,bk:=Dv.nx,ct:=nx,xc:=Dv.xc,ro:=Dv.ro } τ')
  (he:∀ τ,Pv ds.length τ→Dv.nx τ):forW g tb Dv ds τ:=by
 have key:∀ (n i:Nat) (τ:VSt),ds.length - i=n→i≤ds.length→Pv i τ→forW g tb Dv (ds.drop i) τ:=fun n=>by
  induction n with
  | zero =>
   intro i τ h1 h2 h3
   have e:i=ds.length:=by lia
   subst e
   rw [List.drop_length]
   exact he τ h3
  | succ n ih =>
   intro i τ h1 h2 h3
   have l:i < ds.length:=by lia
   rw [List.drop_eq_getElem_cons l]
   exact hn i ds[i] τ (List.getElem?_eq_getElem l) h3 _ fun τ' h=>ih (i+1) τ' (by lia) (by lia) h
 have:=key ds.length 0 τ (by lia) (Nat.zero_le _) h0
 rw [List.drop_zero] at this
 exact this
theorem for_map {α:Type} {f:α→D} {xs:List α} (Pv:Nat→VSt→Prop) (h0:Pv 0 τ) (hn:∀ (i:Nat) (x:α) (τ:VSt),xs[i]?=some x→Pv i τ→∀ nx:VSt→Prop,(∀ τ',Pv (i+1) τ'→nx τ')→g (f x) τ fun τ'=>tb { nx:=nx,rt:=Dv.rt,bk:=Dv.nx,ct:=nx,xc:=Dv.xc,ro:=Dv.ro } τ')
  (he:∀ τ,Pv xs.length τ→Dv.nx τ):forW g tb Dv (xs.map f) τ:=by
 refine for_inv Pv h0 (fun i d τ e=>?_) (by rw [List.length_map]; exact he)
 rw [List.getElem?_map] at e
 cases q:xs[i]? with
 | none=>rw [q] at e; cases e
 | some x =>
  rw [q] at e
  cases e
  exact hn i x τ q
theorem for_rng {lo:Int} {n:Nat} (Pv:Nat→VSt→Prop) (h0:Pv 0 τ) (hn:∀ (i:Nat) (τ:VSt),i < n→Pv i τ→∀ nx:VSt→Prop,(∀ τ',Pv (i+1) τ'→nx τ')→g (.int (lo+i)) τ fun τ'=>tb { nx:=nx,rt:=Dv.rt,bk:=Dv.nx,ct:=nx,xc:=Dv.xc,ro:=Dv.ro } τ')
  (he:∀ τ,Pv n τ→Dv.nx τ):forW g tb Dv (rngL lo n) τ:=by
 unfold rngL
 refine for_map Pv h0 (fun i x τ e=>?_) (by rw [List.length_range]; exact he)
 by_cases l:i < n
 ·rw [List.getElem?_range l] at e
  cases e
  exact hn i τ l
 ·rw [List.getElem?_eq_none (by rw [List.length_range]; lia)] at e
  cases e
end
theorem filter_yes {α:Type} (xs:List α):xs.filter (fun _=>true)=xs:=List.filter_eq_self.mpr fun _ _=>rfl
section
variable {α:Type} {f:α→D} {τ:VSt} {k:Nat} {g:TVG} {ti:TVT} {te:TV} {Q:R→Prop}
theorem comp_rel (P:α→D→Prop) (p:α→Bool) (xs:List α) (hz:xs.length≤sizeLine)
  (ok:∀ x∈xs,∀ (Y:R→Prop) (N:Prop),(p x=true→∀ d,P x d→Y (.val d))→(p x=false→N)→g (f x) (τ++List.replicate k none) fun τ2=>(τ2.take τ.length=τ∧τ2.length=τ.length+k)∧ti τ2 fun b=>if b=true then te τ2 Y else N)
  (fin:∀ es:List D,es.length=(xs.filter p).length→(∀ (j:Nat) (x:α) (e:D),(xs.filter p)[j]?=some x→es[j]?=some e→P x e)→Q (.own (.lst es))):compW τ k g ti te Q (xs.map f) []:=by
 have key:∀ (ys zs:List α) (acc:List D),xs=zs++ys→acc.length=(zs.filter p).length→(∀ (j:Nat) (x:α) (e:D),(zs.filter p)[j]?=some x→acc[j]?=some e→P x e)→compW τ k g ti te Q (ys.map f) acc:=by
  intro ys
  induction ys with
  | nil =>
   intro zs acc e h1 h2
   rw [List.append_nil] at e
   subst e
   exact fin acc h1 h2
  | cons y ys ih =>
   intro zs acc e h1 h2
   have hl:acc.length < sizeLine:=by
    have h3:=List.length_filter_le p zs
    have h4:xs.length=zs.length+(ys.length+1):=by rw [e,List.length_append,List.length_cons]
    lia
   refine ok y (by rw [e]; simp) _ _ (fun hp d hd=>⟨hl,ih (zs++[y]) (acc++[d]) (by rw [e]; simp) ?_ fun j x e' q1 q2=>?_⟩) (fun hp=>ih (zs++[y]) acc (by rw [e]; simp) ?_ fun j x e' q1 q2=>?_)
   ·rw [List.filter_append,List.length_append,List.length_append,h1]
    simp [hp]
   ·rw [List.filter_append] at q1
    have ef:[y].filter p=[y]:=by simp [hp]
    rw [ef] at q1
    by_cases l:j < (zs.filter p).length
    ·rw [List.getElem?_append_left l] at q1
     rw [List.getElem?_append_left (by lia)] at q2
     exact h2 j x e' q1 q2
    ·rw [List.getElem?_append_right (by lia)] at q1
     rw [List.getElem?_append_right (by lia)] at q2
     have ej:j - (zs.filter p).length=0:=by
      have:=(List.getElem?_eq_some_iff.mp q1).1
      simp at this
      lia
     rw [ej] at q1
     rw [h1,ej] at q2
     cases q1
     cases q2
     exact hd
   ·rw [List.filter_append,List.length_append,h1]
    simp [hp]
   ·rw [List.filter_append] at q1
    have ef:[y].filter p=[]:=by simp [hp]
    rw [ef,List.append_nil] at q1
    exact h2 j x e' q1 q2
 exact key xs [] [] rfl rfl (fun j x e q=>by simp at q)
theorem comp_filter (h:α→D) (p:α→Bool) (xs:List α) (hz:xs.length≤sizeLine)
  (ok:∀ x∈xs,∀ (Y:R→Prop) (N:Prop),(p x=true→Y (.val (h x)))→(p x=false→N)→g (f x) (τ++List.replicate k none) fun τ2=>(τ2.take τ.length=τ∧τ2.length=τ.length+k)∧ti τ2 fun b=>if b=true then te τ2 Y else N)
  (fin:Q (.own (.lst ((xs.filter p).map h)))):compW τ k g ti te Q (xs.map f) []:=by
 refine comp_rel (fun x d=>d=h x) p xs hz (fun x hx Y N h1 h2=>ok x hx Y N (fun z=>h1 z _ rfl) h2) fun es hl he=>?_
 have:es=(xs.filter p).map h:=List.ext_getElem (by rw [hl,List.length_map]) fun j h1 h2=>by
  rw [List.length_map] at h2
  rw [List.getElem_map]
  exact he j _ _ (List.getElem?_eq_getElem h2) (List.getElem?_eq_getElem h1)
 rw [this]
 exact fin
theorem comp_map (h:α→D) (xs:List α) (hz:xs.length≤sizeLine)
  (ok:∀ x∈xs,∀ (Y:R→Prop) (N:Prop),Y (.val (h x))→g (f x) (τ++List.replicate k none) fun τ2=>(τ2.take τ.length=τ∧τ2.length=τ.length+k)∧ti τ2 fun b=>if b=true then te τ2 Y else N)
  (fin:Q (.own (.lst (xs.map h)))):compW τ k g ti te Q (xs.map f) []:=by
 refine comp_filter h (fun _=>true) xs hz (fun x hx Y N h1 _=>ok x hx Y N (h1 rfl)) ?_
 rw [filter_yes]
 exact fin
end
noncomputable def wayD (ws:List Str):D:=.tup (ws.map D.str)
theorem cmp_strs:∀ (ss ts:List Str),cmpDs (ss.map D.str) (ts.map D.str)=true
 | [],_=>by unfold cmpDs; rfl
 | _ :: _,[]=>by unfold cmpDs; rfl
 | s :: ss,t :: ts=>by
  show cmpDs (.str s :: ss.map D.str) (.str t :: ts.map D.str)=true
  unfold cmpDs
  rw [cmp_strs ss ts]
  rfl
theorem dep_strs:∀ (ss:List Str),depDs (ss.map D.str)=0
 | []=>rfl
 | s :: ss=>by
  show depDs (.str s :: ss.map D.str)=0
  unfold depDs
  rw [dep_strs ss]
  rfl
theorem map_str_inj {ss ts:List Str} (h:ss.map D.str=ts.map D.str):ss=ts:=by
 induction ss generalizing ts with
 | nil=>cases ts with
  | nil=>rfl
  | cons t ts=>cases h
 | cons s ss ih=>cases ts with
  | nil=>cases h
  | cons t ts =>
   injection h with h1 h2
   injection h1 with h1
   rw [h1,ih h2]
theorem eq_int (i j:Int):eqD (.int i) (.int j)=decide (i=j):=bool_iff (by
 rw [eqD_iff,decide_eq_true_iff]
 exact ⟨fun h=>D.int.inj h,fun h=>h ▸ rfl⟩)
theorem eq_str (i j:Str):eqD (.str i) (.str j)=decide (i=j):=bool_iff (by
 rw [eqD_iff,decide_eq_true_iff]
 exact ⟨fun h=>D.str.inj h,fun h=>h ▸ rfl⟩)
theorem cmp_int (i j:Int):cmpD (.int i) (.int j)=true:=rfl
theorem cmp_str (i j:Str):cmpD (.str i) (.str j)=true:=rfl
theorem dep_int (i:Int):depD (.int i)=0:=rfl
theorem dep_str (i:Str):depD (.str i)=0:=rfl
theorem atI_map {α β:Type} (f:α→β) (xs:List α) (k:Int):atI (xs.map f) k=(atI xs k).map f:=by
 unfold atI
 rw [List.length_map]
 cases ixN xs.length k with
 | none=>rfl
 | some j=>simp
theorem cutL_map {α β:Type} (f:α→β) (xs:List α) (lo hi:Option Int):cutL (xs.map f) lo hi=(cutL xs lo hi).map f:=by
 unfold cutL
 rw [List.length_map,List.map_take,List.map_drop]
theorem spOf_law {K:PySem.W.Frag} {H:Hp} {a:Addr} {ns:List Int} {g:DP} (h:g [.scr ns] (fun r=>r=.val (.bl true))) (hS:SqL K H a (ns.map V.int)) {E:XK}:spOf K g [.ref a] H (fun v _=>v=.bl true) E :=
 ⟨[.scr ns],H,_,Same.refl H,.one (by unfold Rep; exact ⟨a,rfl,hS⟩),h,(fun n C B' H' e _ _=>by cases e),fun r v B' H' e p rr=>by
  subst e
  have rr':Rep K B' (.bl true) v:=rr
  unfold Rep at rr'
  exact rr'⟩
theorem map_str_iff (ss ts:List Str):(ss.map D.str=ts.map D.str)=(ss=ts):=propext ⟨map_str_inj,fun h=>h ▸ rfl⟩
theorem map_int_iff (ss ts:List Int):(ss.map D.int=ts.map D.int)=(ss=ts):=propext ⟨fun h=>by
 induction ss generalizing ts with
 | nil=>cases ts with
  | nil=>rfl
  | cons t ts=>cases h
 | cons s ss ih=>cases ts with
  | nil=>cases h
  | cons t ts =>
   injection h with h1 h2
   injection h1 with h1
   rw [h1,ih _ h2],fun h=>h ▸ rfl⟩
theorem map_snoc {α:Type} (f:α→D) (xs:List α) (x:α):xs.map f++[f x]=(xs++[x]).map f:=by rw [List.map_append]; rfl
theorem snoc_str (xs:List Str) (x:Str):xs.map D.str++[.str x]=(xs++[x]).map D.str:=map_snoc _ xs x
theorem snoc_int (xs:List Int) (x:Int):xs.map D.int++[.int x]=(xs++[x]).map D.int:=map_snoc _ xs x
theorem cat_str (xs ys:List Str):xs.map D.str++ys.map D.str=(xs++ys).map D.str:=(List.map_append ..).symm
theorem drop_str (xs:List Str):(xs.map D.str).dropLast=xs.dropLast.map D.str:=by
 rw [← cutL_last,← cutL_last,cutL_map]
theorem pub_val (d:D) (Q:D→Prop):pubR (.val d) Q=Q d:=rfl
theorem pub_own (d:D) (Q:D→Prop):pubR (.own d) Q=Q d:=rfl
theorem take_str (k:Nat) (xs:List Str):(xs.map D.str).take k=(xs.take k).map D.str:=(List.map_take ..).symm
theorem dropn_str (k:Nat) (xs:List Str):(xs.map D.str).drop k=(xs.drop k).map D.str:=(List.map_drop ..).symm
theorem atI_lit {α:Type} (xs:List α) (n:Nat):atI xs (no_index (OfNat.ofNat n:Int))=xs[n]?:=by
 show atI xs (n:Int)=xs[n]?
 unfold atI ixN
 rw [if_pos (by lia)]
 by_cases h:(n:Int) < xs.length
 ·rw [if_pos h]
  simp
 ·rw [if_neg h]
  simp
  lia
theorem atI_neg1 {α:Type} (xs:List α):atI xs (-1)=xs.getLast?:=by
 unfold atI ixN
 rw [if_neg (by decide)]
 cases xs with
 | nil=>rfl
 | cons x xs =>
  rw [if_pos (by rw [List.length_cons]; lia)]
  rw [List.getLast?_eq_getElem?]
  show (x :: xs)[(-1+((x :: xs).length:Int)).toNat]?=_
  congr 1
  lia
theorem ex_val (d:D) (Q:R→Prop) (k:Prop):exR (.val d) Q k=k:=rfl
theorem ex_own (d:D) (Q:R→Prop) (k:Prop):exR (.own d) Q k=k:=rfl
theorem ex_peek (d:D) (Q:R→Prop) (k:Prop):exR (.peek d) Q k=k:=rfl
theorem ex_exc (n:Str) (Q:R→Prop) (k:Prop):exR (.exc n) Q k=Q (.exc n):=rfl
theorem exA_val (d:D) (Q:AR→Prop) (k:Prop):excA (.val d) Q k=k:=rfl
theorem exA_own (d:D) (Q:AR→Prop) (k:Prop):excA (.own d) Q k=k:=rfl
theorem exA_peek (d:D) (Q:AR→Prop) (k:Prop):excA (.peek d) Q k=k:=rfl
theorem exA_exc (n:Str) (Q:AR→Prop) (k:Prop):excA (.exc n) Q k=Q (.exc n):=rfl
theorem exS_val (τ:VSt) (Dv:VEnds) (d:D) (k:Prop):exS τ Dv (.val d) k=k:=rfl
theorem exS_own (τ:VSt) (Dv:VEnds) (d:D) (k:Prop):exS τ Dv (.own d) k=k:=rfl
theorem exS_peek (τ:VSt) (Dv:VEnds) (d:D) (k:Prop):exS τ Dv (.peek d) k=k:=rfl
theorem exS_exc (τ:VSt) (Dv:VEnds) (n:Str) (k:Prop):exS τ Dv (.exc n) k=Dv.xc τ n:=rfl
theorem exA_ok (ds:List D) (Q:R→Prop) (k:List D→Prop):exA (.ok ds) Q k=k ds:=rfl
theorem exA_raise (n:Str) (Q:R→Prop) (k:List D→Prop):exA (.exc n) Q k=Q (.exc n):=rfl
theorem exI_ok (τ:VSt) (Dv:VEnds) (ds:List D) (k:List D→Prop):exI τ Dv (.ok ds) k=k ds:=rfl
theorem exI_exc (τ:VSt) (Dv:VEnds) (n:Str) (k:List D→Prop):exI τ Dv (.exc n) k=Dv.xc τ n:=rfl
theorem more_ok (d:D) (ds:List D):moreA d (.ok ds)=.ok (d :: ds):=rfl
theorem more_exc (d:D) (n:Str):moreA d (.exc n)=.exc n:=rfl
theorem rd_val (d:D):(R.val d).d=d:=rfl
theorem rd_own (d:D):(R.own d).d=d:=rfl
theorem rd_peek (d:D):(R.peek d).d=d:=rfl
theorem rd_exc (n:Str):(R.exc n).d=.scr []:=rfl
theorem v_seq {t u:TVS} {Dv:VEnds} {τ:VSt} (h:t { nx:=u Dv,rt:=Dv.rt,bk:=Dv.bk,ct:=Dv.ct,xc:=Dv.xc,ro:=Dv.ro } τ):vSeq t u Dv τ:=h
end L2
namespace L2
open PySem PySem.Spec PyProof.Rows
noncomputable def lkD:List (List Str)→List D→List Str→Option D
 | k :: ks,d :: ds,w=>if k=w then some d else lkD ks ds w
 | _,_,_=>none
noncomputable def lkK:List Str→List D→Str→Option D
 | k :: ks,d :: ds,w=>if k=w then some d else lkK ks ds w
 | _,_,_=>none
noncomputable def rpD:List (List Str)→List D→List Str→D→List D
 | k :: ks,e :: ds,w,d=>(if k=w then d else e) :: rpD ks ds w d
 | _,_,_,_=>[]
noncomputable def putD (ks:List (List Str)) (ds:List D) (w:List Str) (d:D):D:=if w∈ks then .dT ks (rpD ks ds w d) else .dT (ks++[w]) (ds++[d])
theorem wK_inj {a b:List Str} (h:wK a=wK b):a=b:=by
 unfold wK at h
 induction a generalizing b with
 | nil=>cases b with
  | nil=>rfl
  | cons _ _=>cases h
 | cons x a ih=>cases b with
  | nil=>cases h
  | cons y b =>
   injection h with h1 h2
   injection h1 with h1
   rw [h1,ih h2]
theorem wK_kV (w:List Str):(wK w).map kV=w.map V.str:=by
 unfold wK
 rw [List.map_map]
 rfl
section
variable {K:PySem.W.Frag} {B H:Hp} {d:D} {r:R} {v:V}
theorem DGet.tR {H:Hp} {a b:Addr} {kvs:List (List Key × V)} {k:List Key} (e:Rd H a (.dT kvs)) (eb:H b=some (.tup (k.map kV))):DGet H a (.ref b) (valV kvs k):=.inr ⟨kvs,k,b,e,rfl,eb,rfl⟩
theorem Pk.dT {ks:List (List Str)} {ds:List D} (s:Same B H) (h:Pk K B H r v) (e:r.d=.dT ks ds):∃ a kvs,v=.ref a∧Rd H a (.dT kvs)∧kvs.map (·.1)=ks.map wK∧Reps K B ds (kvs.map (·.2)):=by
 cases r with
 | val d =>
  cases (show d=_ from e)
  have h':Rep K B (.dT ks ds) v:=h
  unfold Rep at h'
  obtain ⟨a,xs,rfl,q,k,rp⟩:=h'
  exact ⟨a,xs,rfl,q.elim (fun q=>.inl (s _ _ q)) fun ⟨o,q⟩=>.inr ⟨o,s _ _ q⟩,k,rp⟩
 | own d=>cases (show d=_ from e); obtain ⟨a,rfl,_,xs,q,k,rp⟩:=h; exact ⟨a,xs,rfl,.inl q,k,rp⟩
 | peek d=>cases (show d=_ from e); obtain ⟨a,rfl,_,xs,q,k,rp⟩:=h; exact ⟨a,xs,rfl,.inl q,k,rp⟩
 | exc n=>exact h.elim
theorem Pk.dK {ks:List Str} {ds:List D} (s:Same B H) (h:Pk K B H r v) (e:r.d=.dK ks ds):∃ a kvs,v=.ref a∧H a=some (.dK kvs)∧kvs.map (·.1)=ks.map Sum.inr∧Reps K B ds (kvs.map (·.2)):=by
 cases r with
 | val d =>
  cases (show d=_ from e)
  have h':Rep K B (.dK ks ds) v:=h
  unfold Rep at h'
  obtain ⟨a,xs,rfl,q,k,rp⟩:=h'
  exact ⟨a,xs,rfl,s _ _ q,k,rp⟩
 | own d=>cases (show d=_ from e); obtain ⟨a,rfl,_,xs,q,k,rp⟩:=h; exact ⟨a,xs,rfl,q,k,rp⟩
 | peek d=>cases (show d=_ from e); obtain ⟨a,rfl,_,xs,q,k,rp⟩:=h; exact ⟨a,xs,rfl,q,k,rp⟩
 | exc n=>exact h.elim
theorem Pk.way {w:List Str} (h:Pk K B H r v) (e:r.d=.tup (w.map D.str)) (n:("" : Str)∉w):∃ a,v=.ref a∧B a=some (.tup (w.map V.str)):=by
 obtain ⟨a,xs,rfl,t,rp⟩:=h.tup e
 refine ⟨a,rfl,?_⟩
 rw [← rp.strs]
 rcases t with t | ⟨_,t⟩
 ·exact t
 ·obtain ⟨z,hz,ez⟩:=List.mem_map.mp t
  cases ez
  exact absurd hz n
theorem lk_rel:∀ {ks:List (List Str)} {ds:List D} {kvs:List (List Key × V)} (w:List Str),kvs.map (·.1)=ks.map wK→Reps K B ds (kvs.map (·.2))→(lkD ks ds w=none∧valV kvs (wK w)=none)∨∃ d v,lkD ks ds w=some d∧valV kvs (wK w)=some v∧Rep K B d v
 | [],ds,kvs,w,h1,h2=>by
  have e:kvs=[]:=by simpa using h1
  subst e
  exact .inl ⟨by unfold lkD; rfl,rfl⟩
 | k :: ks,ds,[],w,h1,h2=>by cases h1
 | k :: ks,[],p :: kvs,w,h1,h2=>by
  unfold Reps at h2
  cases h2
 | k :: ks,d :: ds,p :: kvs,w,h1,h2=>by
  injection h1 with e1 e2
  have e1:p.1=wK k:=e1
  unfold Reps at h2
  obtain ⟨x,r,q,r1,r2⟩:=h2
  injection q with q1 q2
  subst q1 q2
  unfold lkD
  by_cases e:k=w
  ·rw [if_pos e,valV_pos (by rw [e1,e])]
   exact .inr ⟨d,p.2,rfl,rfl,r1⟩
  ·rw [if_neg e,valV_neg (fun z=>e (wK_inj (e1.symm.trans z)))]
   exact lk_rel w e2 r2
theorem lk_relK:∀ {ks:List Str} {ds:List D} {kvs:List (Key × V)} (w:Str),kvs.map (·.1)=ks.map Sum.inr→Reps K B ds (kvs.map (·.2))→(lkK ks ds w=none∧valV kvs (Sum.inr w)=none)∨∃ d v,lkK ks ds w=some d∧valV kvs (Sum.inr w)=some v∧Rep K B d v
 | [],ds,kvs,w,h1,h2=>by
  have e:kvs=[]:=by simpa using h1
  subst e
  exact .inl ⟨by unfold lkK; rfl,rfl⟩
 | k :: ks,ds,[],w,h1,h2=>by cases h1
 | k :: ks,[],p :: kvs,w,h1,h2=>by
  unfold Reps at h2
  cases h2
 | k :: ks,d :: ds,p :: kvs,w,h1,h2=>by
  injection h1 with e1 e2
  have e1:p.1=Sum.inr k:=e1
  unfold Reps at h2
  obtain ⟨x,r,q,r1,r2⟩:=h2
  injection q with q1 q2
  subst q1 q2
  unfold lkK
  by_cases e:k=w
  ·rw [if_pos e,valV_pos (by rw [e1,e])]
   exact .inr ⟨d,p.2,rfl,rfl,r1⟩
  ·rw [if_neg e,valV_neg (fun z=>e (Sum.inr.inj (e1.symm.trans z)))]
   exact lk_relK w e2 r2
theorem put_rel {ks:List (List Str)} {ds:List D} {kvs:List (List Key × V)} (w:List Str) {d:D} {v:V} (h1:kvs.map (·.1)=ks.map wK) (h2:Reps K B ds (kvs.map (·.2))) (hd:Rep K B d v) :
  ∃ ks' ds',putD ks ds w d=.dT ks' ds'∧(putK kvs (wK w) v).map (·.1)=ks'.map wK∧Reps K B ds' ((putK kvs (wK w) v).map (·.2)):=by
 have hany:(kvs.any fun kv=>decide (kv.1=wK w))=decide (w∈ks):=by
  apply bool_iff
  rw [List.any_eq_true,decide_eq_true_iff]
  constructor
  ·rintro ⟨p,hp,e⟩
   have:p.1∈kvs.map (·.1):=List.mem_map_of_mem hp
   rw [h1,of_decide_eq_true e] at this
   obtain ⟨k,hk,ek⟩:=List.mem_map.mp this
   rw [← wK_inj ek]
   exact hk
  ·intro hw
   have:wK w∈kvs.map (·.1):=by rw [h1]; exact List.mem_map_of_mem hw
   obtain ⟨p,hp,e⟩:=List.mem_map.mp this
   exact ⟨p,hp,decide_eq_true e⟩
 unfold putD putK
 rw [hany]
 by_cases hw:w∈ks
 ·rw [if_pos hw,if_pos (decide_eq_true hw)]
  refine ⟨ks,_,rfl,?_,?_⟩
  ·rw [← h1,List.map_map]
   refine List.map_congr_left fun p _=>?_
   show (if p.1=wK w then (p.1,v) else p).1=p.1
   split <;> rfl
  ·clear hany hw
   induction kvs generalizing ks ds with
   | nil =>
    have e:ks=[]:=by simpa using h1.symm
    subst e
    unfold rpD
    exact .nil
   | cons p kvs ih =>
    cases ks with
    | nil=>cases h1
    | cons k ks =>
     cases ds with
     | nil=>unfold Reps at h2; cases h2
     | cons e ds =>
      injection h1 with e1 e2
      have e1:p.1=wK k:=e1
      unfold Reps at h2
      obtain ⟨x,r,q,r1,r2⟩:=h2
      injection q with q1 q2
      subst q1 q2
      unfold rpD
      refine .cons ?_ (ih e2 r2)
      by_cases ek:k=w
      ·rw [if_pos ek]
       show Rep K B d (if p.1=wK w then (p.1,v) else p).2
       rw [if_pos (by rw [e1,ek])]
       exact hd
      ·rw [if_neg ek]
       show Rep K B e (if p.1=wK w then (p.1,v) else p).2
       rw [if_neg (fun z=>ek (wK_inj (e1.symm.trans z)))]
       exact r1
 ·rw [if_neg hw,if_neg (by simpa using hw)]
  refine ⟨_,_,rfl,?_,?_⟩
  ·rw [List.map_append,List.map_append,h1]
   rfl
  ·rw [List.map_append]
   exact h2.append (.one hd)
end
section
variable {X:Cx} {EX:St→XK} {e a o i:Expr} {te ta to ti:TV} {pos pos' p p2 apos cpos:Pos} {x:Str} {f:Expr} {tf:TV}
noncomputable def vDGet (to ti:TV):TV:=fun τ Q=>to τ fun rx=>exR rx (fun _=>False) <| ti τ fun ry=>match rx.d,ry.d with
 | .dT ks ds,.tup es=>∃ w d,es=w.map D.str∧("" : Str)∉w∧lkD ks ds w=some d∧Q (.val d)
 | .dK ks ds,.str z=>∃ d,lkK ks ds z=some d∧Q (.val d)
 | _,_=>False
theorem ve_dget (hu:X.A.units+64 < cLine) (ho:VE X EX o to) (hi:VE X EX i ti) (hs:NoSl i:=by exact fun _ _=>rfl):VE X EX (.Subscript o i pos) (vDGet to ti) :=
 let ⟨_,a1,a2⟩:=ho.u; let ⟨_,b1,b2⟩:=hi.u; ⟨_,qe_dget (by lia) a1 b1 hs,fun H0 B H τ σ Q Qd s S h xc k=>a2 H0 B H τ σ _ _ s S h (xno fun _ q=>q) fun rx x B1 H1 p1 q1 h1=>b2 H0 B1 H1 τ σ _ _ p1.s (S.step p1) (q1.ok h1) (xno fun _ q=>by revert q; cases rx.d <;> exact fun z=>z) fun ry y B2 H2 p2 q2 h2=>by
  have px:=q1.pk.step p2
  split at h2
  ·rename_i ks ds es e1 e2
   obtain ⟨w,d,rfl,hn,hl,hq⟩:=h2
   obtain ⟨ad,kvs,rfl,hd,hk,hr⟩:=px.dT p2.s e1
   obtain ⟨b,rfl,hb⟩:=q2.pk.way e2 hn
   rcases lk_rel w hk hr with ⟨z,_⟩ | ⟨d',v,z,hv,rp⟩
   ·rw [z] at hl; cases hl
   ·rw [z] at hl; cases hl
    exact ⟨ad,v,rfl,hv ▸ DGet.tR hd (by rw [wK_kV]; exact p2.s _ _ hb),k (.val d) _ B2 H2 (p1.trans p2) rp hq⟩
  ·rename_i ks ds z e1 e2
   obtain ⟨d,hl,hq⟩:=h2
   obtain ⟨ad,kvs,rfl,hd,hk,hr⟩:=px.dK p2.s e1
   cases q2.pk.scal (z:=.str z) (by rw [e2]; rfl)
   rcases lk_relK z hk hr with ⟨w,_⟩ | ⟨d',v,w,hv,rp⟩
   ·rw [w] at hl; cases hl
   ·rw [w] at hl; cases hl
    exact ⟨ad,v,rfl,hv ▸ DGet.k (k:=Sum.inr z) hd,k (.val d) _ B2 H2 (p1.trans p2) rp hq⟩
  ·exact h2.elim⟩
noncomputable def vDIn (g:Bool→Bool) (ti to:TV):TV:=fun τ Q=>ti τ fun ry=>exR ry (fun _=>False) <| to τ fun rx=>match rx.d,ry.d with
 | .dT ks ds,.tup es=>∃ w,es=w.map D.str∧("" : Str)∉w∧Q (.val (.bl (g (lkD ks ds w).isSome)))
 | .dK ks ds,.str z=>Q (.val (.bl (g (lkK ks ds z).isSome)))
 | _,_=>False
theorem lk_isSome {K:PySem.W.Frag} {B:Hp} {ks:List (List Str)} {ds:List D} {kvs:List (List Key × V)} (w:List Str) (h1:kvs.map (·.1)=ks.map wK) (h2:Reps K B ds (kvs.map (·.2))):(valV kvs (wK w)).isSome=(lkD ks ds w).isSome:=by
 rcases lk_rel w h1 h2 with ⟨z,y⟩ | ⟨d',v,z,y,_⟩ <;> rw [z,y] <;> rfl
theorem lk_isSomeK {K:PySem.W.Frag} {B:Hp} {ks:List Str} {ds:List D} {kvs:List (Key × V)} (w:Str) (h1:kvs.map (·.1)=ks.map Sum.inr) (h2:Reps K B ds (kvs.map (·.2))):(valV kvs (Sum.inr w)).isSome=(lkK ks ds w).isSome:=by
 rcases lk_relK w h1 h2 with ⟨z,y⟩ | ⟨d',v,z,y,_⟩ <;> rw [z,y] <;> rfl
theorem rf_din {K:PySem.W.Frag} {eo ei:TE} (g:Bool→Bool) (ho:RfE K EX eo to) (hi:RfE K EX ei ti):RfE K EX (fun σ H Q=>ei σ H fun y H1=>eo σ H1 fun x H2=>∃ a o,x=.ref a∧DGet H2 a y o∧Q (.bl (g o.isSome)) H2) (vDIn g ti to):=fun H0 B H τ σ Q Qd s S h xc k =>
 hi H0 B H τ σ _ _ s S h (xno fun _ q=>q) fun ry y B1 H1 p1 q1 h1=>ho H0 B1 H1 τ σ _ _ p1.s (S.step p1) (q1.ok h1) (xno fun _ q=>q) fun rx x B2 H2 p2 q2 h2=>by
  have py:=q1.pk.step p2
  split at h2
  ·rename_i ks ds es e1 e2
   obtain ⟨w,rfl,hn,hq⟩:=h2
   obtain ⟨ad,kvs,rfl,hd,hk,hr⟩:=q2.pk.dT p2.s e1
   obtain ⟨b,rfl,hb⟩:=py.way e2 hn
   refine ⟨ad,_,rfl,DGet.tR (k:=wK w) hd (by rw [wK_kV]; exact p2.s _ _ hb),?_⟩
   rw [lk_isSome w hk hr]
   exact k _ _ B2 H2 (p1.trans p2) (repV rfl) hq
  ·rename_i ks ds z e1 e2
   obtain ⟨ad,kvs,rfl,hd,hk,hr⟩:=q2.pk.dK p2.s e1
   cases py.scal (z:=.str z) (by rw [e2]; rfl)
   refine ⟨ad,_,rfl,DGet.k (k:=Sum.inr z) hd,?_⟩
   rw [lk_isSomeK z hk hr]
   exact k _ _ B2 H2 (p1.trans p2) (repV rfl) h2
  ·exact h2.elim
theorem ve_din (hu:X.A.units+64 < cLine) (hi:VE X EX i ti) (ho:VE X EX o to) (hm:behindInMarks .In o=false:=by with_unfolding_all rfl):VE X EX (.Compare i [.In] [o] pos) (vDIn id ti to) :=
 let ⟨_,a1,a2⟩:=ho.u; let ⟨_,b1,b2⟩:=hi.u; ⟨_,qe_din (by lia) b1 a1 hm,rf_din id a2 b2⟩
theorem ve_dnotin (hu:X.A.units+64 < cLine) (hi:VE X EX i ti) (ho:VE X EX o to) (hm:behindInMarks .NotIn o=false:=by with_unfolding_all rfl):VE X EX (.Compare i [.NotIn] [o] pos) (vDIn (!·) ti to) :=
 let ⟨_,a1,a2⟩:=ho.u; let ⟨_,b1,b2⟩:=hi.u; ⟨_,qe_dnotin (by lia) b1 a1 hm,rf_din (!·) a2 b2⟩
theorem vt_din (hu:X.A.units+64 < cLine) (hi:VE X EX i ti) (ho:VE X EX o to) (hm:behindInMarks .In o=false:=by with_unfolding_all rfl):VT X EX (.Compare i [.In] [o] pos) (vBl (vDIn id ti to)) :=
 let ⟨_,a1,a2⟩:=ho.u; let ⟨_,b1,b2⟩:=hi.u; ⟨_,qt_din (by lia) b1 a1 hm,rf_bl (rf_din id a2 b2)⟩
theorem vt_dnotin (hu:X.A.units+64 < cLine) (hi:VE X EX i ti) (ho:VE X EX o to) (hm:behindInMarks .NotIn o=false:=by with_unfolding_all rfl):VT X EX (.Compare i [.NotIn] [o] pos) (vBl (vDIn (!·) ti to)) :=
 let ⟨_,a1,a2⟩:=ho.u; let ⟨_,b1,b2⟩:=hi.u; ⟨_,qt_dnotin (by lia) b1 a1 hm,rf_bl (rf_din (!·) a2 b2)⟩
noncomputable def vDGet1 (to ti:TV):TV:=fun τ Q=>to τ fun rx=>match rx.d with
 | .dT ks ds=>ti τ fun ry=>∃ w,ry.d=.tup (w.map D.str)∧("" : Str)∉w∧Q (.val ((lkD ks ds w).getD .non))
 | .dK ks ds=>ti τ fun ry=>∃ z,ry.d=.str z∧Q (.val ((lkK ks ds z).getD .non))
 | _=>False
theorem ve_dget1 (hu:X.A.units+64 < cLine) (ho:VE X EX o to) (hi:VE X EX e ti) (m:M1 X o "get" apos e cpos:=by exact ⟨rfl,rfl,rfl,rfl⟩):VE X EX (.Call (.Attribute o "get" apos) [e] [] cpos) (vDGet1 to ti) :=
 let ⟨_,a1,a2⟩:=ho.u; let ⟨_,b1,b2⟩:=hi.u; ⟨_,qe_dget1 (by lia) a1 b1 m,fun H0 B H τ σ Q Qd s S h xc k=>a2 H0 B H τ σ _ _ s S h (xno fun _ q=>q) fun rx x B1 H1 p1 q1 h1=>by
  split at h1
  ·rename_i ks ds e1
   obtain ⟨ad,kvs,rfl,hd,_,_⟩:=q1.pk.dT p1.s e1
   refine ⟨ad,rfl,.inr ⟨kvs,hd⟩,b2 H0 B1 H1 τ σ _ _ p1.s (S.step p1) h1 (xno fun _ ⟨_,q,_⟩=>by cases q) fun ry y B2 H2 p2 q2 h2=>?_⟩
   obtain ⟨w,e2,hn,hq⟩:=h2
   obtain ⟨ad',kvs',ea,hd',hk,hr⟩:=(q1.pk.step p2).dT p2.s e1
   cases ea
   obtain ⟨b,rfl,hb⟩:=q2.pk.way e2 hn
   refine ⟨_,DGet.tR (k:=wK w) hd' (by rw [wK_kV]; exact p2.s _ _ hb),?_⟩
   rcases lk_rel w hk hr with ⟨z,y⟩ | ⟨d',v,z,y,rp⟩
   ·rw [y]; rw [z] at hq
    exact k (.val .non) _ B2 H2 (p1.trans p2) (repV rfl) hq
   ·rw [y]; rw [z] at hq
    exact k (.val d') _ B2 H2 (p1.trans p2) rp hq
  ·rename_i ks ds e1
   obtain ⟨ad,kvs,rfl,hd,_,_⟩:=q1.pk.dK p1.s e1
   refine ⟨ad,rfl,.inl ⟨kvs,.inl hd⟩,b2 H0 B1 H1 τ σ _ _ p1.s (S.step p1) h1 (xno fun _ ⟨_,q,_⟩=>by cases q) fun ry y B2 H2 p2 q2 h2=>?_⟩
   obtain ⟨w,e2,hq⟩:=h2
   obtain ⟨ad',kvs',ea,hd',hk,hr⟩:=(q1.pk.step p2).dK p2.s e1
   cases ea
   cases q2.pk.scal (z:=.str w) (by rw [e2]; rfl)
   refine ⟨_,DGet.k (k:=Sum.inr w) hd',?_⟩
   rcases lk_relK w hk hr with ⟨z,y⟩ | ⟨d',v,z,y,rp⟩
   ·rw [y]; rw [z] at hq
    exact k (.val .non) _ B2 H2 (p1.trans p2) (repV rfl) hq
   ·rw [y]; rw [z] at hq
    exact k (.val d') _ B2 H2 (p1.trans p2) rp hq
  ·exact h1.elim⟩
noncomputable def vDNewT:TV:=fun _ Q=>Q (.own (.dT [] []))
theorem ve_dnewT:VE X EX (.Dict [] [] pos) vDNewT:=⟨_,qe_dnewT,fun _ B H _ _ _ _ s _ h _ k p hp=>k (.own (.dT [] [])) _ B _ (.grow s (same_upd hp _)) ⟨p,rfl,hp,s.free hp,[],upd_same,rfl,.nil⟩ h⟩
noncomputable def ownT (τ:VSt) (i:Nat) (Q:List (List Str)→List D→Prop):Prop:=match τ[i]? with
 | some (some (.own (.dT ks ds)))=>Q ks ds
 | _=>False
theorem ownT_of {τ:VSt} {i:Nat} {Q:List (List Str)→List D→Prop} (h:ownT τ i Q):∃ ks ds,τ[i]?=some (some (.own (.dT ks ds)))∧Q ks ds:=by
 unfold ownT at h
 split at h
 ·exact ⟨_,_,by assumption,h⟩
 ·exact h.elim
noncomputable def vDPut (i:Nat) (tk te:TV):TVS:=fun Dv τ=>ownT τ i fun ks ds=>te τ fun r=>exS τ Dv r <| pubR r fun d=>tk τ fun rk=>match rk.d with
 | .tup es=>∃ w,es=w.map D.str∧("" : Str)∉w∧ks.length < sizeLine∧Dv.nx (τ.set i (some (.own (putD ks ds w d))))
 | _=>False
theorem vs_dput {ek:Expr} {tk:TV} (i:Nat) (hu:X.A.units+64 < cLine) (hk:VE X EX ek tk) (h:VE X EX e te) (hN:X.N[i]?=some x:=by rfl) (hv:Vis X.env.scope x:=by first | exact Or.inl rfl | exact Or.inr (Or.inl rfl) | exact Or.inr (Or.inr rfl)) (hd:(x == ("__debug__" : Str))=false:=by decide)
  (hcd:(x == ("__classdict__" : Str))=false:=by decide) (hs:swapsWith e (some (.Subscript (.Name x p) ek p2)) pos.line X.env=pure false:=by rfl):VS X EX (.Assign [.Subscript (.Name x p) ek p2] e pos) (vDPut i tk te) :=
 let ⟨_,a1,a2⟩:=h.u; let ⟨_,b1,b2⟩:=hk.u; ⟨_,qs_dput (by lia) (qv i hN hv hd hcd) b1 a1 hs,fun B0 H0 B H τ σ Dv Dh p S h E=>by
  obtain ⟨ks,ds,e1,h⟩:=ownT_of h
  obtain ⟨ad,e2,_,_,_⟩:=S.own i _ e1
  refine a2 H0 B H τ σ _ _ p.s S h (E.raised p S) fun r v B' H' q hr hq=>?_
  obtain ⟨d,B2,q2,_,rp,hn⟩:=pub q hr (hr.okS hq)
  refine ⟨.ref ad,e2,b2 H0 B2 H' τ σ _ _ q2.s (S.step q2) hn (xno fun _ q=>q) fun rk vk B3 H3 q3 hk hh=>?_⟩
  split at hh
  ·rename_i es ek
   obtain ⟨w,rfl,hne,hz,hn⟩:=hh
   obtain ⟨b,rfl,hb⟩:=hk.pk.way ek hne
   have qq:=q2.trans q3
   have S3:=S.step qq
   obtain ⟨a',f1,h0,hbb,kvs,f4,f5,f6⟩:=S3.own i _ e1
   rw [e2] at f1
   cases f1
   have hl:kvs.length < sizeLine:=by
    have:kvs.length=ks.length:=by simpa using congrArg List.length f5
    lia
   refine ⟨ad,_,rfl,DPut.t (k:=wK w) f4 (by rw [wK_kV]; exact q3.s _ _ hb) hl,?_⟩
   obtain ⟨ks',ds',ep,g1,g2⟩:=put_rel w f5 f6 (rp.same q3.b)
   rw [ep] at hn
   exact E.nx B3 _ _ σ ((p.trans qq).upd h0 hbb) (S3.upd (d:=.dT ks' ds') e1 e2 ⟨_,upd_same,g1,g2⟩) hn
  ·exact hh.elim⟩
end
noncomputable def dictD (kds:List (List Str × D)):D:=.dT (kds.map (·.1)) (kds.map (·.2))
noncomputable def lkP (kds:List (List Str × D)) (w:List Str):Option D:=(kds.find? fun p=>decide (p.1=w)).map (·.2)
noncomputable def insP (kds:List (List Str × D)) (w:List Str) (d:D):List (List Str × D):=if w∈kds.map (·.1) then kds.map (fun p=>if p.1=w then (p.1,d) else p) else kds++[(w,d)]
theorem lkD_pairs (kds:List (List Str × D)) (w:List Str):lkD (kds.map (·.1)) (kds.map (·.2)) w=lkP kds w:=by
 induction kds with
 | nil=>unfold lkP; simp [lkD]
 | cons p kds ih =>
  rw [List.map_cons,List.map_cons]
  unfold lkD
  unfold lkP at ih ⊢
  by_cases e:p.1=w
  ·rw [if_pos e,List.find?_cons,decide_eq_true e]
   rfl
  ·rw [if_neg e,ih,List.find?_cons,decide_eq_false e]
theorem putD_pairs (kds:List (List Str × D)) (w:List Str) (d:D):putD (kds.map (·.1)) (kds.map (·.2)) w d=dictD (insP kds w d):=by
 unfold putD insP dictD
 by_cases h:w∈kds.map (·.1)
 ·rw [if_pos h,if_pos h]
  congr 1
  ·rw [List.map_map]
   refine (List.map_congr_left fun p _=>?_).symm
   show (if p.1=w then (p.1,d) else p).1=p.1
   split <;> rfl
  ·clear h
   induction kds with
   | nil=>rfl
   | cons p kds ih =>
    rw [List.map_cons,List.map_cons,List.map_cons,List.map_cons]
    unfold rpD
    rw [ih]
    congr 1
    split <;> rfl
 ·rw [if_neg h,if_neg h,List.map_append,List.map_append]
  rfl
end L2
namespace PySem
open PySem Calls PyProof.Rows PyProof.V PySem.Spec
noncomputable def RawD (h:Heap) (d:Addr) (es:Array DictEntry) (ep:Nat):Prop:=∃ o,h.get? d=some o∧o.ExactDict∧o.data=.dict es ep
section
variable {prog:Program} {w:World} {A:Around} {E:Value→Shared→Prop} {s:Shared} {d it:Addr} {es:Array DictEntry} {ep i:Nat}
theorem RawD.typeIs (x:RawD s.heap d es ep):s.TypeIs (.ref d) "dict" := let ⟨o,h1,h2,_⟩:=x; ⟨o,h1,h2.1⟩
theorem RawD.keep {h h':Heap} (x:RawD h d es ep) (k:∀ o,h.get? d=some o→h'.get? d=some o):RawD h' d es ep:=let ⟨o,h1,r⟩:=x; ⟨o,k o h1,r⟩
theorem raw_iter {Q:Value→Shared→Prop} (no:(d == sysModules)=false) (x:RawD s.heap d es ep)
  (fin:Q (.ref s.heap.objs.size) { s with heap:=s.heap.push { cls:=.type "dict_keyiterator",data:=.fields #[.ref d,.int 0 0,.int es.size 0,.int ep 0] } }):wpAny (model prog w) A (pyIter (.ref d)) Q E s:=by
 have T:=x.typeIs
 obtain ⟨o,h1,_,h2⟩:=x
 refine wpAny_pyIter_slot T F.slot_dict_iter (wpAny_call_entry F.slot_dict_iter T F.entry_dict_iter ?_ (F.args_dict_iter_1 _))
 unfold Builtin.«dict.__iter__» Builtin.Dict.dictSlotNone
 refine wpAny_bind (wpAny_bind (wpAny_notOrdered_dict T (show wpAny _ _ (pure (Value.ref d)) _ _ s from wpAny_pure ?_)))
 show wpAny _ _ (Builtin.Dict.showsAll d >>= fun _=>_) _ _ s
 unfold Builtin.Dict.showsAll
 rw [no,if_neg Bool.false_ne_true]
 refine wpAny_bind (wpAny_pure (wpAny_bind (wpAny_dictEntries h1 h2 (wpAny_bind (wpAny_dictEpoch h1 h2 (wpAny_bind (wpAny_newObj_type (wpAny_pure ⟨_,rfl,"dict_keyiterator",_,⟨_,Heap.get?_push_size _ rfl,rfl⟩,F.slot_dict_keyiterator_next.lookup,?_⟩))))))))
 simpa [rawInt] using fin
theorem first_name {Q:String→Shared→Prop} (h:s.TypeIs (.ref it) "dict_keyiterator") (q:Q "dict_keyiterator" s):wpAny (model prog w) A (typeNameOfWhole (.ref it)) Q E s:=wpAny_typeNameOfWhole_keyiter h q
theorem raw_item {Q:Option Value→Shared→Prop} {ky:Value} (K:s.heap.IsKeyIter it d i es.size ep) (x:RawD s.heap d es ep) (hk:es[i]?.map (·.key)=some ky)
  (fin:∀ h',h'.IsKeyIter it d (i+1) es.size ep→Heap.SameBut it s.heap h'→Q (some ky) { s with heap:=h' }):wpAny (model prog w) A (pyNext (.ref it)) Q E s:=by
 have T:=K.typeIs
 obtain ⟨oi,g1,g2,g3⟩:=K
 obtain ⟨o,h1,_,h2⟩:=x
 have lt:i < es.size:=by
  apply Classical.byContradiction
  intro z
  rw [Array.getElem?_eq_none (by lia)] at hk
  cases hk
 have ek:es[i].key=ky:=by
  rw [Array.getElem?_eq_getElem lt] at hk
  exact Option.some.inj hk
 have no:Builtin.Dict_items.ownsTuple "dict_keyiterator" = false:=by decide
 unfold pyNext
 refine wpAny_bind (wpAny_attempt (wpAny_callSpecial?_slot (name:=Str.ofString "__next__") T F.slot_dict_keyiterator_next (wpAny_call_entry F.slot_dict_keyiterator_next T F.entry_dict_keyiterator_next (wpAny_bind (wpAny_pure (wpAny_bind (wpAny_bind ?_)))) (F.args_dict_keyiterator_next_1 _))))
 refine wpAny_bind (first_name T (wpAny_pure (wpAny_bind (wpAny_fieldsOf g1 g3 ?_))))
 simp only [no,Bool.false_eq_true,if_false]
 show wpAny _ _ (ite ((Value.ref d == Value.none)=true) _ _) _ _ s
 rw [if_neg (show ¬ (Value.ref d == Value.none)=true from fun z=>by cases z)]
 refine wpAny_bind (wpAny_pure (wpAny_bind (wpAny_dictEntries h1 h2 ?_)))
 rw [if_neg (fun z=>by simp at z)]
 refine wpAny_bind (wpAny_pure (wpAny_bind (wpAny_dictEpoch h1 h2 ?_)))
 rw [if_neg (fun z=>by simp at z)]
 refine wpAny_pure ?_
 simp only [show ¬ (i:Int) < 0 from by lia,if_false,Int.toNat_natCast,Array.getElem?_eq_getElem lt]
 refine wpAny_bind (wpAny_bind (first_name T (wpAny_pure (wpAny_bind (wpAny_isOneOf_keyiter T ?_)))))
 show wpAny _ _ (setField (.ref it) 1 (rawInt ((i:Int)+1)) >>= fun _=>_) _ _ s
 have K2:(s.heap.update it (Obj.mapFields (·.setIfInBounds 1 (rawInt ((i:Int)+1))))).IsKeyIter it d (i+1) es.size ep:=⟨_,Heap.get?_update_self _ g1 (Obj.isFreed_of_fields (Obj.data_mapFields g3 _)),(Obj.cls_mapFields ..).trans g2,by
  rw [Obj.data_mapFields g3]
  simp [rawInt]⟩
 refine wpAny_bind (wpAny_setField g1 g3 (by simp) (wpAny_bind (wpAny_holding (wpAny_bind (wpAny_isOneOf_keyiter (s:={ s with heap:=s.heap.update it (Obj.mapFields (·.setIfInBounds 1 (rawInt ((i:Int)+1)))) }) K2.typeIs ?_)))))
 show wpAny _ _ (pure (es[i].key)) _ _ _
 rw [ek]
 exact wpAny_pure (wpAny_pure ⟨_,rfl,wpAny_pure (fin _ K2 (Heap.SameBut.update ..))⟩)
theorem raw_end {Q:Option Value→Shared→Prop} (hh:A.handled=none) (K:s.heap.IsKeyIter it d i es.size ep) (x:RawD s.heap d es ep) (ge:es.size≤i) (fin:∀ h',Heap.ExtBut it s.heap h'→Q none { s with heap:=h' }) :
  wpAny (model prog w) A (pyNext (.ref it)) Q E s:=by
 have T:=K.typeIs
 obtain ⟨oi,g1,g2,g3⟩:=K
 obtain ⟨o,h1,_,h2⟩:=x
 have no:Builtin.Dict_items.ownsTuple "dict_keyiterator" = false:=by decide
 unfold pyNext
 refine wpAny_bind (wpAny_attempt (wpAny_callSpecial?_slot (name:=Str.ofString "__next__") T F.slot_dict_keyiterator_next (wpAny_call_entry F.slot_dict_keyiterator_next T F.entry_dict_keyiterator_next (wpAny_bind (wpAny_pure (wpAny_bind (wpAny_bind ?_)))) (F.args_dict_keyiterator_next_1 _))))
 refine wpAny_bind (first_name T (wpAny_pure (wpAny_bind (wpAny_fieldsOf g1 g3 ?_))))
 simp only [no,Bool.false_eq_true,if_false]
 show wpAny _ _ (ite ((Value.ref d == Value.none)=true) _ _) _ _ s
 rw [if_neg (show ¬ (Value.ref d == Value.none)=true from fun z=>by cases z)]
 refine wpAny_bind (wpAny_pure (wpAny_bind (wpAny_dictEntries h1 h2 ?_)))
 rw [if_neg (fun z=>by simp at z)]
 refine wpAny_bind (wpAny_pure (wpAny_bind (wpAny_dictEpoch h1 h2 ?_)))
 rw [if_neg (fun z=>by simp at z)]
 refine wpAny_pure ?_
 simp only [show ¬ (i:Int) < 0 from by lia,if_false,Int.toNat_natCast,Array.getElem?_eq_none ge]
 refine wpAny_bind (wpAny_bind (first_name T (wpAny_pure ?_)))
 show wpAny _ _ (setField (.ref it) 0 .none >>= fun _=>_) _ _ s
 refine wpAny_bind (wpAny_setField g1 g3 (by simp) ?_)
 show wpAny _ _ (newExc (.type "StopIteration") [] >>= fun _=>_) _ _ _
 refine wpAny_bind ?_
 simp only [newExc,newTuple]
 refine wpAny_bind (wpAny_newObj_type (wpAny_bind (m:=firstArgMember _ _) (wpAny_of_eq (a:=Value.none) (by first | rfl | (simp only [firstArgMember]; rfl)) (wpAny_newObj_type ?_ (by size_fits)))) (by size_fits))
 simp only [raiseNew]
 refine (wpAny_bind (wpAny_handled ?_))
 rw [(show A.in1.handled=none from hh)]
 refine (wpAny_bind (wpAny_pure (wpAny_throw ?_)))
 exact wpAny_bind (wpAny_isInstance (T:="StopIteration") (b:=true) ⟨_,Heap.get?_push_size _ rfl,rfl⟩ isSubtype_stop (wpAny_pure (fin _ (((Heap.SameBut.update ..).extBut.push _).push _))))
theorem walks_raw (hh:A.handled=none) (I d:Addr) (ne:d≠I) (es:Array DictEntry) (ep:Nat) :
  Walks prog w A I [I,d] [I] es.size (fun i v=>es[i]?.map (·.key)=some v) (fun i h=>h.IsKeyIter I d i es.size ep∧RawD h d es ep) where
 sub:=fun b hb=>by
  cases List.mem_singleton.mp hb
  exact List.mem_cons_self ..
 frame:=fun _ _ _ st k=>⟨st.1.at fun o e=>k I (List.mem_cons_self ..) o e,st.2.keep fun o e=>k d (by simp) o e⟩
 item:=fun i s Q E lt st fin=>by
  have e:es[i]?.map (·.key)=some es[i].key:=by rw [Array.getElem?_eq_getElem lt]; rfl
  exact raw_item st.1 st.2 e fun h' K' sb=>fin _ h' s.toks e ⟨K',st.2.keep fun o z=>sb.extBut d o ne z⟩ fun b o nb z=>sb.extBut b o (fun y=>nb (by simp [y])) z
 done:=fun s Q E st fin=>raw_end hh st.1 st.2 (Nat.le_refl _) fun h' x=>fin h' s.toks fun b o nb z=>x b o (fun y=>nb (by simp [y])) z
 self:=fun _ _ _ _ st q=>wpAny_pyIter_keyiter st.1 q
theorem src_raw (no:(d == sysModules)=false):PySem.W.KdlSrc prog w "dict" d d es.size (fun i v=>es[i]?.map (·.key)=some v) (fun h=>RawD h d es ep) where
 type:=fun _ x=>x.typeIs
 there:=fun _ x=>let ⟨_,e,_⟩:=x; ⟨Heap.lt_size e,Heap.lt_size e⟩
 keep:=fun _ _ x k=>x.keep fun o e=>k d (.inl rfl) o e
 notList:=by decide
 notTuple:=by decide
 hint:=fun _ _ _ _ x q=>PySem.W.kdl_hint_dict x.typeIs q
 iter:=fun _ _ hh x=>⟨_,_,(fun _ _ q=>raw_iter no x q),walks_raw hh _ d (let ⟨_,e,_⟩:=x; Nat.ne_of_lt (Heap.lt_size e)) es ep,⟨⟨_,Heap.get?_push_size _ rfl,rfl,rfl⟩,x.keep fun _ e=>Heap.get?_push_of_some _ e⟩⟩
end
end PySem
namespace L2
open PySem PySem.Spec PyProof.Rows
section
variable {X:Cx}
theorem paired_at {α β:Type} {F:α→β→Prop}:∀ {l:List α} {m:List β} {i:Nat} {b:β},Paired F l m→m[i]?=some b→∃ a,l[i]?=some a∧F a b
 | _,_,_,_,.nil,e=>by simp at e
 | _,_,0,_,.cons h _,e=>by
  have e':=Option.some.inj e
  subst e'
  exact ⟨_,rfl,h⟩
 | _,_,i+1,b,.cons _ t,e=>by
  obtain ⟨a,h1,h2⟩:=paired_at (i:=i) (b:=b) t (by simpa using e)
  exact ⟨a,by simpa using h1,h2⟩
theorem dt_raw {P:Program} {w:World} {H:Hp} {h:Heap} {a:Addr} {kvs:List (List Key × V)} (ok:HOk P w H h) (e:Rd H a (.dT kvs)):kvs.length≤sizeLine∧(a == sysModules)=false∧∃ es ep,RawD h a es ep∧es.size=kvs.length ∧
  ∀ (i:Nat) (u:Value),es[i]?.map (·.key)=some u→∃ (b:Addr) (k:List Key),u=.ref b∧kvs[i]?.map (·.1)=some k∧H b=some (.tup (k.map kV)):=by
 obtain ⟨z,y,xs,r,o,es,ep,h1,h2,h3,h4,_⟩:=dt_rd ok e
 have hl:es.size=xs.length:=by rw [← Array.length_toList,h4,List.length_map]
 refine ⟨z,y,es,ep,⟨o,h1,h2,h3⟩,by rw [hl,← Paired.length r],fun i u q=>?_⟩
 have ei:es[i]?=(xs[i]?).map (entryOfKey (tupleKind (mixKind P w))):=by rw [← Array.getElem?_toList,h4,List.getElem?_map]
 rw [ei] at q
 cases hx:xs[i]? with
 | none=>rw [hx] at q; cases q
 | some p =>
  rw [hx] at q
  have eu:Value.ref p.2.1=u:=Option.some.inj q
  obtain ⟨kv,hkv,e1,e2,_⟩:=paired_at r hx
  exact ⟨p.2.1,kv.1,eu.symm,by rw [hkv]; rfl,by rw [e1] at e2 ⊢; exact e2⟩
theorem call_list_dT (hh:X.A.handled=none):CallR X (.type "list") (fun xs H Q=>∃ a kvs,xs=[.ref a]∧Rd H a (.dT kvs)∧∀ (l:Addr) (bs:List Addr),H l=none→bs.length=kvs.length →
  (∀ (i:Nat) (b:Addr),bs[i]?=some b→∃ k,kvs[i]?.map (·.1)=some k∧H b=some (.tup (k.map kV)))→Q (.ref l) (upd H l (.lst (bs.map V.ref)))):=by
 intro pins s σ H xs us Q I r h
 obtain ⟨a,kvs,rfl,e,q⟩:=h
 obtain ⟨u,rfl,ru⟩:=vals1 r
 cases ru
 obtain ⟨z,no,es,ep,raw,hs,hk⟩:=dt_raw I.hok e
 refine PySem.W.kdl_call (src_raw (ep:=ep) (es:=es) no) hh raw (by rw [hs]; exact z) fun h' tk acc c keep new its=>?_
 have refs:∀ vs:List Value,(∀ v∈vs,∃ b,v=Value.ref b)→∃ bs:List Addr,vs=bs.map Value.ref:=fun vs=>by
  induction vs with
  | nil=>exact fun _=>⟨[],rfl⟩
  | cons v vs ih =>
   intro hv
   obtain ⟨b,rfl⟩:=hv v (List.mem_cons_self ..)
   obtain ⟨bs,rfl⟩:=ih fun y hy=>hv y (List.mem_cons_of_mem _ hy)
   exact ⟨b :: bs,rfl⟩
 obtain ⟨hsz,hP⟩:=its
 obtain ⟨bs,hbs⟩:=refs acc.toList fun v hv=>by
  obtain ⟨j,hj⟩:=List.mem_iff_getElem?.mp hv
  obtain ⟨b,k,eb,_⟩:=hk j v (hP j v (by simpa using hj))
  exact ⟨b,eb⟩
 have hacc:acc=(bs.map Value.ref).toArray:=by rw [← hbs]
 have hlen:bs.length=kvs.length:=by
  have:acc.size=bs.length:=by rw [hacc]; simp
  lia
 have rel:∀ bs:List Addr,Vals (bs.map V.ref) (bs.map Value.ref):=fun bs=>by
  induction bs with
  | nil=>exact .nil
  | cons b bs ih=>exact .cons rfl ih
 refine ⟨.ref s.heap.objs.size,upd H s.heap.objs.size (.lst (bs.map V.ref)),I.laid (t':=tk) keep (Nat.le_refl _) ⟨by rw [List.length_map]; lia,bs.map Value.ref,c,rel bs,by rw [← hacc]; exact new⟩,rfl,q _ bs (I.hok.fresh (Nat.le_refl _)) hlen fun i b hb=>?_⟩
 obtain ⟨b',k,eb,h1,h2⟩:=hk i (.ref b) (hP i (.ref b) (by rw [hacc]; simp [hb]))
 cases eb
 exact ⟨k,h1,h2⟩
end
section
variable {X:Cx} {K:PySem.W.Frag} {B H:Hp}
theorem Stp.tups (s:Same B H) (bs:List Addr) (h:∀ b∈bs,∃ xs,H b=some (.tup xs)):Stp B H (fun a=>if a∈bs then H a else B a) H:=by
 refine ⟨fun a o e=>?_,Same.refl _,fun a o e=>?_,fun a z=>?_⟩
 ·show (if a∈bs then H a else B a)=some o
  split
  ·exact s _ _ e
  ·exact e
 ·have e':(if a∈bs then H a else B a)=some o:=e
  split at e'
  ·exact e'
  ·exact s _ _ e'
 ·by_cases q:a∈bs
  ·exact .inr (.inr (h a q))
  ·have z':(if a∈bs then H a else B a)≠none:=z
   rw [if_neg q] at z'
   exact .inl z'
theorem reps_ways:∀ {ks:List (List Str)} {bs:List Addr},bs.length=ks.length→(∀ (i:Nat) (b:Addr) (k:List Str),bs[i]?=some b→ks[i]?=some k→B b=some (.tup (k.map V.str)))→Reps K B (ks.map fun w=>.tup (w.map D.str)) (bs.map V.ref)
 | [],[],_,_=>.nil
 | [],_ :: _,h,_=>by simp at h
 | _ :: _,[],h,_=>by simp at h
 | k :: ks,b :: bs,h,q=>by
  refine .cons ?_ (reps_ways (by simpa using h) fun i b' k' h1 h2=>q (i+1) b' k' (by simpa using h1) (by simpa using h2))
  unfold Rep
  exact ⟨b,_,rfl,.inl (q 0 b k rfl rfl),by
   have:∀ ss:List Str,Reps K B (ss.map D.str) (ss.map V.str):=fun ss=>by
    induction ss with
    | nil=>exact .nil
    | cons s ss ih=>exact .cons (rep_dV (d:=.str s) rfl) ih
   exact this k⟩
noncomputable def vListD (rx:R) (Q:R→Prop):Prop:=match rx.d with
 | .dT ks _=>Q (.own (.lst (ks.map fun w=>.tup (w.map D.str))))
 | _=>False
theorem vf_listD (hh:X.A.handled=none):VF X (.type "list") vListD:=by
 refine ⟨_,call_list_dT hh,fun B H x rx Q Qd s px h k=>?_⟩
 unfold vListD at h
 split at h
 ·rename_i ks ds e1
  obtain ⟨ad,kvs,rfl,hd,hk,hr⟩:=px.dT s e1
  refine ⟨ad,kvs,rfl,hd,fun l bs hl hlen hb=>?_⟩
  have hkl:ks.length=kvs.length:=by simpa using (congrArg List.length hk).symm
  have key:∀ (i:Nat) (b:Addr) (k:List Str),bs[i]?=some b→ks[i]?=some k→H b=some (.tup (k.map V.str)):=fun i b k h1 h2=>by
   obtain ⟨k',h3,h4⟩:=hb i b h1
   have e:(kvs.map (·.1))[i]?=(ks.map wK)[i]?:=by rw [hk]
   rw [List.getElem?_map,List.getElem?_map,h3,h2] at e
   cases e
   rw [wK_kV] at h4
   exact h4
  have T:=Stp.tups s bs fun b hm=>by
   obtain ⟨i,hi⟩:=List.mem_iff_getElem?.mp hm
   obtain ⟨k',_,h4⟩:=hb i b hi
   exact ⟨_,h4⟩
  have hlB:(fun a=>if a∈bs then H a else B a) l=none:=by
   show (if l∈bs then H l else B l)=none
   split
   ·exact hl
   ·exact s.free hl
  refine k (.own _) _ _ _ (T.trans (.grow T.s (same_upd hl (.lst (bs.map V.ref))))) ⟨l,rfl,hl,hlB,own_newL (reps_ways (by lia) fun i b w h1 h2=>?_)⟩ h
  show (if b∈bs then H b else B b)=_
  rw [if_pos (List.mem_of_getElem? h1)]
  exact key i b w h1 h2
 ·exact h.elim
end
end L2
namespace L2
open PySem PySem.Spec PyProof.Rows
section
variable {X:Cx} {EX:St→XK} {K:PySem.W.Frag} {B H B' H' H0 B0:Hp} {e a:Expr} {es:List Expr} {te ta:TV} {tA:TVA} {pos p np cpos:Pos} {x:Str} {t:TVS} {τ:VSt} {σ:St}
noncomputable def vRaise (n:Str) (tA:TVA):TVS:=fun Dv τ=>tA τ fun a=>exI τ Dv a fun ds=>ds.length≤sizeLine∧Dv.xc τ n
noncomputable abbrev THD:=Str→TVS
noncomputable def RfH (K:PySem.W.Frag) (EX:St→XK) (th:TH) (td:THD):Prop:=∀ (B0 H0 B H:Hp) (τ:VSt) (σ:St) (n:Str) (C:Addr) (Dv:VEnds) (Dh:Ends),Stp B0 H0 B H→Slots K H0 B H τ σ→clsOf K n C→td n Dv τ→EndsOk K EX B0 H0 Dv Dh→th (.ref C) Dh σ H
structure VH (X:Cx) (EX:St→XK) (hs:List ExceptHandler) (td:THD):Prop where
 u:∃ th,QH X hs th∧RfH X.K EX th td
noncomputable def vTry (t:TVS) (td:THD):TVS:=fun Dv τ=>t { nx:=Dv.nx,rt:=Dv.rt,bk:=Dv.bk,ct:=Dv.ct,xc:=fun τ' n=>td n Dv τ' } τ
noncomputable def VEnds.calm (Dv:VEnds):VEnds:={ nx:=Dv.nx,rt:=Dv.rt,bk:=Dv.bk,ct:=Dv.ct }
noncomputable def VEnds.wiped (Dv:VEnds):VEnds:={ nx:=fun τ=>Dv.nx (List.replicate τ.length none),rt:=Dv.rt,bk:=fun τ=>Dv.bk (List.replicate τ.length none),ct:=fun τ=>Dv.ct (List.replicate τ.length none) }
end
end L2
namespace L2
open PySem PySem.Spec PyProof.Rows Builtin.Str
section
variable {X:Cx}
end
section
variable {X:Cx} {EX:St→XK} {o e:Expr} {to te:TV} {apos cpos:Pos}
end
noncomputable def sp (c:Nat):List Nat→List (List Nat)
 | []=>[[]]
 | x :: xs=>if x=c then [] :: sp c xs else match sp c xs with
  | []=>[[x]]
  | p :: ps=>(x :: p) :: ps
theorem rng_one (a b:Nat):sliceRange a b 1=List.range' a (b - a):=by
 unfold sliceRange
 have e:(if (1:Int) > 0 then (if (a:Int) < b then ((b:Int) - a+1 - 1) / 1 else 0) else (if (a:Int) > b then ((a:Int) - b - 1 - 1) / (-1) else 0)).toNat=b - a:=by
  rw [if_pos (by decide)]
  split
  ·rw [Int.ediv_one]; lia
  ·lia
 show (List.range _).map _=_
 rw [e,List.range'_eq_map_range]
 refine List.map_congr_left fun k _=>?_
 lia
theorem ind_cut (l u:Option Int) (n:Nat):strSliceIndices l u 1 n=List.range' (HT.sIx n 0 l) (HT.sIx n n u - HT.sIx n 0 l):=by
 rw [← rng_one]
 unfold strSliceIndices
 have c:∀ (v:Int),max 0 (min (if v < 0 then v+(n:Int) else v) n)=((HT.sIx n 0 (some v):Nat):Int):=fun v=>by
  show _=(((if v < 0 then (v+(n:Int)).toNat else min v.toNat n):Nat):Int)
  split <;> lia
 have c2:∀ (v:Int),HT.sIx n n (some v)=HT.sIx n 0 (some v):=fun _=>rfl
 have go:∀ (a b:Int) (x y:Nat),a=x→b=y→sliceRange a b 1=sliceRange x y 1:=fun a b x y h1 h2=>by rw [h1,h2]
 cases l with
 | none =>
  cases u with
  | none=>exact go _ _ _ _ rfl rfl
  | some v=>exact go _ _ _ _ rfl (by rw [c2,← c v]; rfl)
 | some v =>
  cases u with
  | none=>exact go _ _ _ _ (by rw [← c v]; rfl) rfl
  | some w=>exact go _ _ _ _ (by rw [← c v]; rfl) (by rw [c2,← c w]; rfl)
theorem fm_range (xs:Array Nat):∀ (m a:Nat),a+m≤xs.size→(List.range' a m).filterMap (xs[·]?)=(xs.toList.drop a).take m
 | 0,a,_=>by simp
 | m+1,a,h=>by
  have hs:a < xs.toList.length:=by show a < xs.size; lia
  rw [List.range'_succ,List.filterMap_cons,Array.getElem?_eq_getElem (show a < xs.size by lia)]
  show xs[a] :: _=_
  rw [fm_range xs m (a+1) (by lia),List.drop_eq_getElem_cons hs,List.take_succ_cons]
  rfl
theorem slice_list (z:Str) (l u:Option Int):(Txt.slice z l u).cps.toList=cutL z.cps.toList l u:=by
 unfold Txt.slice cutL
 have el:z.cps.toList.length=z.length:=rfl
 have h1:=HT.sIx_le z.length 0 (Nat.zero_le _) l
 have h2:=HT.sIx_le z.length z.length (Nat.le_refl _) u
 rw [ind_cut,el]
 by_cases h:HT.sIx z.length z.length u - HT.sIx z.length 0 l=z.length
 ·rw [if_pos (by simpa using h),h]
  have e0:HT.sIx z.length 0 l=0:=by lia
  rw [e0,List.drop_zero,List.take_of_length_le (Nat.le_of_eq el)]
 ·rw [if_neg (by simpa using h)]
  show List.filterMap _ _=_
  by_cases hz:HT.sIx z.length 0 l≤HT.sIx z.length z.length u
  ·exact fm_range z.cps _ _ (by show _≤z.length; lia)
  ·rw [show HT.sIx z.length z.length u - HT.sIx z.length 0 l=0 by lia]
   simp
noncomputable def mkS (l:List Nat):Str:=⟨l.toArray⟩
theorem mkS_list (z:Str):mkS z.cps.toList=z:=by unfold mkS; simp
theorem str_ext {a b:Str} (h:a.cps.toList=b.cps.toList):a=b:=by rw [← mkS_list a,← mkS_list b,h]
end L2
namespace L2
open PySem PySem.Spec PyProof.Rows
section
variable {X:Cx} {EX:St→XK} {K:PySem.W.Frag} {o e:Expr} {to te:TV} {apos cpos:Pos} {τ:VSt} {σ:St} {B H H0:Hp}
noncomputable def rMulS:R2:=fun x y H Q=>∃ a n,x=.str a∧y=.int n∧MulOk a n∧Q (.str (Txt.mul a n)) H
theorem op_mulS:OpR X (binaryOp .Mult) rMulS:=by
 intro pins s σ H x y v u Q I rx ry h
 obtain ⟨a,n,rfl,rfl,hok,q⟩:=h
 obtain ⟨t1,rfl⟩:=rx
 obtain ⟨t2,rfl⟩:=ry
 exact SB.mul hok fun t' k=>⟨.str _,H,I.tok _,⟨_,rfl⟩,q⟩
noncomputable def vMulS (rx ry:R) (Q:R→Prop):Prop:=match rx.d,ry.d with
 | .str a,.int n=>MulOk a n∧Q (.val (.str (Txt.mul a n)))
 | _,_=>False
theorem vo_mulS:VO X (binaryOp .Mult) vMulS:=⟨_,op_mulS,fun B H x y rx ry Q Qd s hx hy h k=>by
 unfold vMulS at h
 split at h
 ·rename_i a n e1 e2
  cases hx.scal (z:=.str a) (by rw [e1]; rfl)
  cases hy.scal (z:=.int n) (by rw [e2]; rfl)
  exact ⟨a,n,rfl,rfl,h.1,k _ _ B H (.refl s) (repV rfl) h.2⟩
 ·exact h.elim⟩
end
end L2
namespace L2
open PySem PySem.W PyProof.Rows
structure LtOk (n:Nat) (lt:Nat→Nat→Bool):Prop where
 tr:∀ a b c,a < n→b < n→c < n→lt b a=false→lt c b=false→lt c a=false
 as:∀ a b,a < n→b < n→lt a b=true→lt b a=false
noncomputable def gallop':Bool→Keyed→Array Keyed→Nat→Nat→Nat→StateT SortSt Sem (Option Nat):=sortPriv% PySem.Builtin.gallop
noncomputable def beyond' (left:Bool) (key:Keyed) (arr:Array Keyed) (base i:Nat):StateT SortSt Sem (Option Bool):=do
 let x ← elem' arr (base+i)
 if left then lt' x key else return (← lt' key x).map (!·)
noncomputable def galTail (left:Bool) (key:Keyed) (arr:Array Keyed) (base n lo hi:Nat):StateT SortSt Sem (Option Nat):=do
 let mut lo:=lo
 let mut hi:=hi
 for _ in [0:n] do
  if lo ≥ hi then break
  let m:=lo+(hi - lo) / 2
  let some more ← beyond' left key arr base m | return none
  if more then lo:=m+1 else hi:=m
 return some hi
theorem gallop'_eq (left:Bool) (key:Keyed) (arr:Array Keyed) (base n hint:Nat):gallop' left key arr base n hint=(do
 let mut lastofs:=0
 let mut ofs:=1
 let mut lo:=0
 let mut hi:=0
 let some right ← beyond' left key arr base hint | return none
 if right then
  let maxofs:=n - hint
  for _ in [0:n] do
   if ofs ≥ maxofs then break
   let some more ← beyond' left key arr base (hint+ofs) | return none
   if !more then break
   lastofs:=ofs
   ofs:=2 * ofs+1
  lo:=hint+lastofs+1
  hi:=hint+min ofs maxofs
 else
  let maxofs:=hint+1
  for _ in [0:n] do
   if ofs ≥ maxofs then break
   let some found ← beyond' left key arr base (hint - ofs) | return none
   if found then break
   lastofs:=ofs
   ofs:=2 * ofs+1
  lo:=hint+1 - min ofs maxofs
  hi:=hint - lastofs
 for _ in [0:n] do
  if lo ≥ hi then break
  let m:=lo+(hi - lo) / 2
  let some more ← beyond' left key arr base m | return none
  if more then lo:=m+1 else hi:=m
 return some hi):=rfl
section
variable {M:Model} {A:Around} {E:Value→Shared→Prop} {s:Shared} {st:SortSt} {left:Bool} {key:Keyed} {arr:Array Keyed} {base n hint:Nat} {B:Nat→Bool} {Q:Option Nat→SortSt→Prop}
noncomputable def GalAsk (M:Model) (A:Around) (E:Value→Shared→Prop) (s:Shared) (st:SortSt) (left:Bool) (key:Keyed) (arr:Array Keyed) (base n:Nat) (B:Nat→Bool):Prop :=
 ∀ i,i < n→∀ Q:Option Bool→SortSt→Prop,Q (some (B i)) st→wpS M A E s (beyond' left key arr base i) Q st
theorem galTail_ok (hB:GalAsk M A E s st left key arr base n B) (mono:∀ i j,i≤j→j < n→B j=true→B i=true)
  (h:∀ k,k≤n→(∀ i,i < k→B i=true)→(∀ i,k≤i→i < n→B i=false)→Q (some k) st) (lo hi:Nat) (h1:lo≤hi) (h2:hi≤n) (h3:∀ i,i < lo→B i=true) (h4:∀ i,hi≤i→i < n→B i=false):wpS M A E s (galTail left key arr base n lo hi) Q st:=by
 unfold galTail
 dsimp only
 refine wpS_bind (wpS_forRange (fun k c st'=>st'=st∧∃ lo hi,c=(none,lo,hi)∧lo≤hi∧hi - lo≤n - k∧hi≤n∧(∀ i,i < lo→B i=true)∧(∀ i,hi≤i→i < n→B i=false)) ?_ ?_ ⟨rfl,lo,hi,rfl,h1,by lia,h2,h3,h4⟩)
 ·rintro k c st' - hk ⟨rfl,lo,hi,rfl,a1,a2,a3,a4,a5⟩
  dsimp only
  by_cases hlt:lo ≥ hi
  ·rw [if_pos hlt]
   have:lo=hi:=by lia
   subst this
   exact wpS_pure (wpS_pure (h lo a3 a4 a5))
  ·rw [if_neg hlt]
   refine wpS_bind (hB _ (by lia) _ ?_)
   dsimp only
   cases hb:B (lo+(hi - lo) / 2) with
   | true =>
    rw [if_pos rfl]
    exact wpS_pure ⟨rfl,_,_,rfl,by lia,by lia,a3,fun i hi'=>mono i _ (by lia) (by lia) hb,a5⟩
   | false =>
    rw [if_neg (by simp)]
    refine wpS_pure ⟨rfl,_,_,rfl,by lia,by lia,by lia,a4,fun i h1 h2=>?_⟩
    cases hc:B i with
    | false=>rfl
    | true=>rw [mono _ i h1 h2 hc] at hb; cases hb
 ·rintro c st' ⟨rfl,lo,hi,rfl,a1,a2,a3,a4,a5⟩
  have:lo=hi:=by lia
  subst this
  exact wpS_pure (h lo a3 a4 a5)
theorem gallop_ok (hB:GalAsk M A E s st left key arr base n B) (mono:∀ i j,i≤j→j < n→B j=true→B i=true) (hh:hint < n)
  (h:∀ k,k≤n→(∀ i,i < k→B i=true)→(∀ i,k≤i→i < n→B i=false)→Q (some k) st):wpS M A E s (gallop' left key arr base n hint) Q st:=by
 have mono':∀ i j,i≤j→j < n→B i=false→B j=false:=fun i j h1 h2 h3=>by
  cases hc:B j with
  | false=>rfl
  | true=>rw [mono i j h1 h2 hc] at h3; cases h3
 rw [gallop'_eq]
 dsimp only
 refine wpS_bind (hB hint hh _ ?_)
 dsimp only
 cases hb:B hint with
 | true =>
  rw [if_pos rfl]
  have fin:∀ lastofs ofs,lastofs < ofs→hint+lastofs < n→B (hint+lastofs)=true→(ofs ≥ n - hint∨B (hint+ofs)=false)→wpS M A E s (galTail left key arr base n (hint+lastofs+1) (hint+min ofs (n - hint))) Q st:=fun lastofs ofs a1 a2 a3 a4=>by
   refine galTail_ok hB mono h _ _ (by lia) (by lia) (fun i hi=>mono i _ (by lia) a2 a3) fun i h1 h2=>?_
   rcases a4 with a4 | a4
   ·lia
   ·by_cases z:ofs ≥ n - hint
    ·lia
    ·exact mono' _ _ (by lia) h2 a4
  refine wpS_bind (wpS_forRange (fun k c st'=>st'=st∧∃ lastofs ofs,c=(none,lastofs,ofs)∧lastofs < ofs∧k < ofs∧hint+lastofs < n∧B (hint+lastofs)=true) ?_ ?_ ⟨rfl,0,1,rfl,by lia,by lia,by lia,hb⟩)
  ·rintro k c st' - hk ⟨rfl,lastofs,ofs,rfl,a1,a2,a3,a4⟩
   dsimp only
   by_cases hlt:ofs ≥ n - hint
   ·rw [if_pos hlt]
    exact wpS_pure (fin lastofs ofs a1 a3 a4 (.inl hlt))
   ·rw [if_neg hlt]
    refine wpS_bind (hB _ (by lia) _ ?_)
    dsimp only
    cases hc:B (hint+ofs) with
    | true =>
     rw [if_neg (by simp)]
     exact wpS_pure ⟨rfl,_,_,rfl,by lia,by lia,by lia,hc⟩
    | false =>
     rw [if_pos (by simp)]
     exact wpS_pure (fin lastofs ofs a1 a3 a4 (.inr hc))
  ·rintro c st' ⟨rfl,lastofs,ofs,rfl,a1,a2,a3,a4⟩
   exact fin lastofs ofs a1 a3 a4 (.inl (by lia))
 | false =>
  rw [if_neg (by simp)]
  have fin:∀ lastofs ofs,lastofs < ofs→lastofs≤hint→B (hint - lastofs)=false→(ofs ≥ hint+1∨B (hint - ofs)=true)→wpS M A E s (galTail left key arr base n (hint+1 - min ofs (hint+1)) (hint - lastofs)) Q st:=fun lastofs ofs a1 a2 a3 a4=>by
   refine galTail_ok hB mono h _ _ (by lia) (by lia) (fun i hi=>?_) fun i h1 h2=>mono' _ _ h1 h2 a3
   rcases a4 with a4 | a4
   ·lia
   ·exact mono _ _ (by lia) (by lia) a4
  refine wpS_bind (wpS_forRange (fun k c st'=>st'=st∧∃ lastofs ofs,c=(none,lastofs,ofs)∧lastofs < ofs∧k < ofs∧lastofs≤hint∧B (hint - lastofs)=false) ?_ ?_ ⟨rfl,0,1,rfl,by lia,by lia,by lia,hb⟩)
  ·rintro k c st' - hk ⟨rfl,lastofs,ofs,rfl,a1,a2,a3,a4⟩
   dsimp only
   by_cases hlt:ofs ≥ hint+1
   ·rw [if_pos hlt]
    exact wpS_pure (fin lastofs ofs a1 a3 a4 (.inl hlt))
   ·rw [if_neg hlt]
    refine wpS_bind (hB _ (by lia) _ ?_)
    dsimp only
    cases hc:B (hint - ofs) with
    | true =>
     rw [if_pos rfl]
     exact wpS_pure (fin lastofs ofs a1 a3 a4 (.inr hc))
    | false =>
     rw [if_neg (by simp)]
     exact wpS_pure ⟨rfl,_,_,rfl,by lia,by lia,by lia,hc⟩
  ·rintro c st' ⟨rfl,lastofs,ofs,rfl,a1,a2,a3,a4⟩
   exact fin lastofs ofs a1 a3 a4 (.inl (by lia))
end
end L2
namespace L2
open PySem PySem.W PyProof.Rows
noncomputable abbrev Up (lt:Nat→Nat→Bool) (l:List Nat):Prop:=l.Pairwise fun a b=>lt b a=false
section
variable {prog:Program} {w:World} {A:Around} {E:Value→Shared→Prop} {s:Shared} {κ:SortKind} {f:Nat→Keyed} {n:Nat} {lt:Nat→Nat→Bool} {st:SortSt}
noncomputable def Asks (prog:Program) (w:World) (A:Around) (s:Shared) (κ:SortKind) (f:Nat→Keyed) (n:Nat) (lt:Nat→Nat→Bool):Prop :=
 ∀ i j,i < n→j < n→∀ Q:Bool→Shared→Prop,Q (lt i j) s→wpAny (model prog w) A (keyLt' κ (f i).1 (f j).1) Q (fun _ _=>False) s
theorem wpS_lt2 (hc:Asks prog w A s κ f n lt) (hk:kindOf st=κ) {i j:Nat} (hi:i < n) (hj:j < n) {Q:Option Bool→SortSt→Prop} (h:Q (some (lt i j)) st):wpS (model prog w) A E s (lt' (f i) (f j)) Q st:=by
 rw [lt'_eq]
 refine wpS_bind (wpS_get ?_)
 rw [hk]
 refine wpS_bind (wpS_lift (wpAny_attempt (wpAny_mono (hc i j hi hj (fun b s'=>b=lt i j∧s'=s) ⟨rfl,rfl⟩) (fun b s' hb=>?_) fun _ _ e=>e.elim)))
 obtain ⟨rfl,rfl⟩:=hb
 exact ⟨rfl,wpS_pure h⟩
noncomputable def ar (f:Nat→Keyed) (l:List Nat):Array Keyed:=(l.map f).toArray
theorem ar_size (l:List Nat):(ar f l).size=l.length:=by simp [ar]
theorem ar_push (l:List Nat) (x:Nat):(ar f l).push (f x)=ar f (l++[x]):=by simp [ar]
theorem ar_app (l m:List Nat):ar f l++ar f m=ar f (l++m):=by simp [ar]
theorem ar_get {l m:List Nat} {x:Nat}:(ar f (l++x :: m))[l.length]?=some (f x):=by simp [ar]
theorem ar_end (l m:List Nat) {k:Nat} (hk:k=l.length) {z:Nat} (hz:z=l.length+m.length):(ar f (l++m)).extract k z=ar f m:=by
 subst hk hz
 simp [ar,List.take_of_length_le]
theorem ar_mid (l m r:List Nat) {k:Nat} (hk:k=l.length) {z:Nat} (hz:z=l.length+m.length):(ar f (l++(m++r))).extract k z=ar f m:=by
 subst hk hz
 simp [ar,List.take_append]
theorem ar_none (l:List Nat) {k z:Nat} (hk:l.length≤k):(ar f l).extract k z=#[]:=by
 apply Array.ext'
 simp [ar,hk]
theorem wpS_elem {l m:List Nat} {x k:Nat} (hk:k=l.length) {Q:Keyed→SortSt→Prop} {M:Model} (h:Q (f x) st):wpS M A E s (elem' (ar f (l++x :: m)) k) Q st:=by
 subst hk
 rw [elem'_eq,ar_get]
 exact wpS_pure h
noncomputable def gB (left:Bool) (lt:Nat→Nat→Bool) (y x:Nat):Bool:=if left=true then lt y x else !(lt x y)
theorem gB_le (L:LtOk n lt) {left:Bool} {x y:Nat} (hx:x < n) (hy:y < n) (h:gB left lt y x=true):lt x y=false:=by
 unfold gB at h
 cases left with
 | true=>exact L.as _ _ hy hx (by simpa using h)
 | false=>simpa using h
theorem gB_ge (L:LtOk n lt) {left:Bool} {x y:Nat} (hx:x < n) (hy:y < n) (h:gB left lt y x=false):lt y x=false:=by
 unfold gB at h
 cases left with
 | true=>simpa using h
 | false=>exact L.as _ _ hx hy (by simpa using h)
theorem galAsk_list (hc:Asks prog w A s κ f n lt) (hk:kindOf st=κ) {left:Bool} {pre l post:List Nat} {x:Nat} (hl:∀ y∈l,y < n) (hx:x < n) :
  GalAsk (model prog w) A E s st left (f x) (ar f (pre++(l++post))) pre.length l.length fun i=>gB left lt (l.getD i 0) x:=fun i hi Q h=>by
 have m1:l[i]∈l:=List.getElem_mem hi
 have e1:l.getD i 0=l[i]:=by simp [hi]
 have g:(ar f (pre++(l++post)))[pre.length+i]?=some (f l[i]):=by
  simp [ar,hi,List.getElem?_append]
 unfold beyond'
 rw [elem'_eq,g]
 refine wpS_bind (wpS_pure ?_)
 dsimp only at h
 rw [e1] at h
 unfold gB at h
 cases left with
 | true =>
  rw [if_pos rfl] at h ⊢
  exact wpS_lt2 hc hk (hl _ m1) hx h
 | false =>
  rw [if_neg (by simp)] at h ⊢
  refine wpS_bind (wpS_lt2 hc hk hx (hl _ m1) (wpS_pure ?_))
  rw [Option.map_some]
  exact h
theorem gallop_list (hc:Asks prog w A s κ f n lt) (L:LtOk n lt) (hk:kindOf st=κ) {left:Bool} {pre l post:List Nat} {x hint:Nat} (hl:∀ y∈l,y < n) (hx:x < n) (up:Up lt l) (hh:hint < l.length) {b:Nat} (hb:b=pre.length) {m:Nat} (hm:m=l.length)
  {Q:Option Nat→SortSt→Prop} (h:∀ l1 l2,l=l1++l2→(∀ y∈l1,lt x y=false)→(∀ y∈l2,lt y x=false)→(left=true→∀ y∈l1,lt y x=true)→(left=false→∀ y∈l2,lt x y=true)→Q (some l1.length) st):wpS (model prog w) A E s (gallop' left (f x) (ar f (pre++(l++post))) b m hint) Q st:=by
 subst hb hm
 refine gallop_ok (galAsk_list hc hk hl hx) (fun i j hij hj e=>?_) hh fun k hk h1 h2=>?_
 ·by_cases z:i=j
  ·rw [z]; exact e
  ·have hi:i < l.length:=by lia
   have e1:l.getD i 0=l[i]:=by simp [hi]
   have e2:l.getD j 0=l[j]:=by simp [hj]
   rw [e1]
   rw [e2] at e
   have hi':=hl _ (List.getElem_mem hi)
   have hj':=hl _ (List.getElem_mem hj)
   have le:lt l[j] l[i]=false:=List.pairwise_iff_getElem.mp up i j hi hj (by lia)
   unfold gB at e ⊢
   cases left with
   | true =>
    rw [if_pos rfl] at e ⊢
    cases q:lt l[i] x with
    | true=>rfl
    | false =>
     have:=L.tr x l[i] l[j] hx hi' hj' q le
     rw [e] at this
     cases this
   | false =>
    rw [if_neg (by simp)] at e ⊢
    have e':lt x l[j]=false:=by simpa using e
    rw [L.tr l[i] l[j] x hi' hj' hx le e']
    rfl
 ·have e0:(l.take k).length=k:=by simp; lia
  rw [← e0]
  suffices kk:(∀ y∈l.take k,gB left lt y x=true)∧∀ y∈l.drop k,gB left lt y x=false by
   obtain ⟨k1,k2⟩:=kk
   refine h (l.take k) (l.drop k) (List.take_append_drop k l).symm (fun y hy=>gB_le L hx (hl y (List.mem_of_mem_take hy)) (k1 y hy)) (fun y hy=>gB_ge L hx (hl y (List.mem_of_mem_drop hy)) (k2 y hy)) (fun e y hy=>?_) fun e y hy=>?_
   ·have:=k1 y hy
    subst e
    exact this
   ·have:=k2 y hy
    subst e
    simpa [gB] using this
  refine ⟨fun y hy=>?_,fun y hy=>?_⟩
  ·obtain ⟨i,hi,rfl⟩:=List.mem_iff_getElem.mp hy
   have hik:i < k:=by lia
   have:=h1 i hik
   have e1:l.getD i 0=l[i]'(by lia):=by simp [show i < l.length by lia]
   rw [e1] at this
   rw [List.getElem_take]
   exact this
  ·obtain ⟨i,hi,rfl⟩:=List.mem_iff_getElem.mp hy
   have hlen:(l.drop k).length=l.length - k:=by simp
   have hi':k+i < l.length:=by lia
   have:=h2 (k+i) (by lia) hi'
   have e1:l.getD (k+i) 0=l[k+i]:=by simp [hi']
   rw [e1] at this
   rw [List.getElem_drop]
   exact this
structure Mg (n:Nat) (lt:Nat→Nat→Bool) (A B O A1 la B1 lb:List Nat):Prop where
 ea:A=A1++la
 eb:B=B1++lb
 pm:O.Perm (A1++B1)
 up:Up lt O
 ba:∀ x∈O,∀ y∈la,lt y x=false
 bb:∀ x∈O,∀ y∈lb,lt y x=false
structure MgC (n:Nat) (lt:Nat→Nat→Bool) (A B:List Nat):Prop where
 L:LtOk n lt
 ha:∀ x∈A,x < n
 hb:∀ x∈B,x < n
 nd:∀ x∈A,x∉B
 ua:Up lt A
 ub:Up lt B
variable {A' B' O A1 la B1 lb:List Nat}
theorem Mg.moveA (C:MgC n lt A' B') {l1 l2:List Nat} (m:Mg n lt A' B' O A1 (l1++l2) B1 lb) (h:∀ x∈l1,∀ y∈lb,lt y x=false):Mg n lt A' B' (O++l1) (A1++l1) l2 B1 lb where
 ea:=by rw [m.ea]; simp
 eb:=m.eb
 pm:=by
  refine (m.pm.append_right l1).trans ?_
  rw [List.append_assoc,List.append_assoc]
  exact (List.perm_append_comm).append_left A1
 up:=by
  have u:=C.ua
  rw [m.ea] at u
  have u1:=(List.pairwise_append.mp (List.pairwise_append.mp u).2.1).1
  exact List.pairwise_append.mpr ⟨m.up,u1,fun x hx y hy=>m.ba x hx y (List.mem_append_left _ hy)⟩
 ba:=fun x hx y hy=>by
  rcases List.mem_append.mp hx with hx | hx
  ·exact m.ba x hx y (List.mem_append_right _ hy)
  ·have u:=C.ua
   rw [m.ea] at u
   exact (List.pairwise_append.mp (List.pairwise_append.mp u).2.1).2.2 x hx y hy
 bb:=fun x hx y hy=>by
  rcases List.mem_append.mp hx with hx | hx
  ·exact m.bb x hx y hy
  ·exact h x hx y hy
theorem Mg.moveB (C:MgC n lt A' B') {l1 l2:List Nat} (m:Mg n lt A' B' O A1 la B1 (l1++l2)) (h:∀ x∈l1,∀ y∈la,lt y x=false):Mg n lt A' B' (O++l1) A1 la (B1++l1) l2 where
 ea:=m.ea
 eb:=by rw [m.eb]; simp
 pm:=by
  refine (m.pm.append_right l1).trans ?_
  rw [List.append_assoc]
 up:=by
  have u:=C.ub
  rw [m.eb] at u
  have u1:=(List.pairwise_append.mp (List.pairwise_append.mp u).2.1).1
  exact List.pairwise_append.mpr ⟨m.up,u1,fun x hx y hy=>m.bb x hx y (List.mem_append_left _ hy)⟩
 ba:=fun x hx y hy=>by
  rcases List.mem_append.mp hx with hx | hx
  ·exact m.ba x hx y hy
  ·exact h x hx y hy
 bb:=fun x hx y hy=>by
  rcases List.mem_append.mp hx with hx | hx
  ·exact m.bb x hx y (List.mem_append_right _ hy)
  ·have u:=C.ub
   rw [m.eb] at u
   exact (List.pairwise_append.mp (List.pairwise_append.mp u).2.1).2.2 x hx y hy
theorem Mg.ula (C:MgC n lt A' B') (m:Mg n lt A' B' O A1 la B1 lb):Up lt la:=by
 have u:=C.ua
 rw [m.ea] at u
 exact (List.pairwise_append.mp u).2.1
theorem Mg.ulb (C:MgC n lt A' B') (m:Mg n lt A' B' O A1 la B1 lb):Up lt lb:=by
 have u:=C.ub
 rw [m.eb] at u
 exact (List.pairwise_append.mp u).2.1
theorem Mg.ina (m:Mg n lt A' B' O A1 la B1 lb) {x:Nat} (h:x∈la):x∈A':=by rw [m.ea]; exact List.mem_append_right _ h
theorem Mg.inb (m:Mg n lt A' B' O A1 la B1 lb) {x:Nat} (h:x∈lb):x∈B':=by rw [m.eb]; exact List.mem_append_right _ h
theorem Mg.endB (C:MgC n lt A' B') (m:Mg n lt A' B' O A1 la B1 []):(O++la).Perm (A'++B')∧Up lt (O++la):=by
 refine ⟨?_,List.pairwise_append.mpr ⟨m.up,m.ula C,m.ba⟩⟩
 rw [m.ea,m.eb]
 refine (m.pm.append_right la).trans ?_
 rw [List.append_assoc,List.append_assoc,List.append_nil]
 exact (List.perm_append_comm).append_left A1
theorem up_head (L:LtOk n lt) {x y:Nat} {l:List Nat} (hx:x < n) (hl:∀ z∈y :: l,z < n) (u:Up lt (y :: l)) (h:lt y x=false):∀ z∈y :: l,lt z x=false:=fun z hz=>by
 rcases List.mem_cons.mp hz with rfl | hz'
 ·exact h
 ·exact L.tr _ _ _ hx (hl y (List.mem_cons_self ..)) (hl z hz) h (List.rel_of_pairwise_cons u hz')
end
end L2
namespace L2
open PySem PySem.W PyProof.Rows
noncomputable def setMinGallop':Nat→StateT SortSt Sem Unit:=sortPriv% PySem.Builtin.setMinGallop
noncomputable def mergeLo':Array Keyed→Array Keyed→StateT SortSt Sem (Array Keyed):=sortPriv% PySem.Builtin.mergeLo
theorem mergeLo'_eq (a b:Array Keyed):mergeLo' a b=(do
 rule "list.sort.merge-lo"
 let total:=a.size+b.size
 let done (out:Array Keyed) (ia ib:Nat):=out++a.extract ia a.size++b.extract ib b.size
 let lastOfA (out:Array Keyed) (ia ib:Nat):=out++b.extract ib b.size++a.extract ia a.size
 let mut out:Array Keyed:=#[← elem' b 0]
 let mut ia:=0
 let mut ib:=1
 if ib == b.size then return done out ia ib
 if ia+1 == a.size then return lastOfA out ia ib
 let mut minGallop:=gallopOf (← get)
 for _ in [0:total] do
  let mut acount:=0
  let mut bcount:=0
  for _ in [0:total] do
   let some bWins ← lt' (← elem' b ib) (← elem' a ia) | return done out ia ib
   if bWins then
    out:=out.push (← elem' b ib); ib:=ib+1; bcount:=bcount+1; acount:=0
    if ib == b.size then return done out ia ib
    if bcount ≥ minGallop then break
   else
    out:=out.push (← elem' a ia); ia:=ia+1; acount:=acount+1; bcount:=0
    if ia+1 == a.size then return lastOfA out ia ib
    if acount ≥ minGallop then break
  rule "list.sort.gallop"
  minGallop:=minGallop+1
  for _ in [0:total] do
   if minGallop > 1 then minGallop:=minGallop - 1
   setMinGallop' minGallop
   let some k ← gallop' false (← elem' b ib) a ia (a.size - ia) 0 | return done out ia ib
   acount:=k
   if k > 0 then
    out:=out++a.extract ia (ia+k); ia:=ia+k
    if ia+1 == a.size then return lastOfA out ia ib
    if ia == a.size then return done out ia ib
   out:=out.push (← elem' b ib); ib:=ib+1
   if ib == b.size then return done out ia ib
   let some k ← gallop' true (← elem' a ia) b ib (b.size - ib) 0 | return done out ia ib
   bcount:=k
   if k > 0 then
    out:=out++b.extract ib (ib+k); ib:=ib+k
    if ib == b.size then return done out ia ib
   out:=out.push (← elem' a ia); ia:=ia+1
   if ia+1 == a.size then return lastOfA out ia ib
   if acount < 7 && bcount < 7 then break
  minGallop:=minGallop+1
  setMinGallop' minGallop
 unsupported "internal:list.sort.merge-bound"):=rfl
noncomputable abbrev MlT:=Option (Array Keyed) × Array Keyed × Nat × Nat × Nat × Nat × Nat
noncomputable def mlDone (a b out:Array Keyed) (ia ib:Nat):Array Keyed:=out++a.extract ia a.size++b.extract ib b.size
noncomputable def mlLast (a b out:Array Keyed) (ia ib:Nat):Array Keyed:=out++b.extract ib b.size++a.extract ia a.size
noncomputable def mlC (a b out:Array Keyed) (ia ib mg k k1:Nat):StateT SortSt Sem (ForInStep MlT):=do
 let x ← elem' a ia
 if ia+1+1 == a.size then pure (.done (some (mlLast a b (out.push x) (ia+1) ib),out.push x,ia+1,ib,mg,k,k1))
 else if k < 7 && k1 < 7 then pure (.done (none,out.push x,ia+1,ib,mg,k,k1))
 else pure (.yield (none,out.push x,ia+1,ib,mg,k,k1))
noncomputable def mlB (a b out:Array Keyed) (ia ib mg k bc:Nat):StateT SortSt Sem (ForInStep MlT):=do
 let x ← elem' b ib
 if ib+1 == b.size then pure (.done (some (mlDone a b (out.push x) ia (ib+1)),out.push x,ia,ib+1,mg,k,bc))
 else do
  let y ← elem' a ia
  let r ← gallop' true y b (ib+1) (b.size - (ib+1)) 0
  match r with
  | some k1 =>
   if k1 > 0 then
    if ib+1+k1 == b.size then pure (.done (some (mlDone a b (out.push x++b.extract (ib+1) (ib+1+k1)) ia (ib+1+k1)),out.push x++b.extract (ib+1) (ib+1+k1),ia,ib+1+k1,mg,k,k1))
    else mlC a b (out.push x++b.extract (ib+1) (ib+1+k1)) ia (ib+1+k1) mg k k1
   else mlC a b (out.push x) ia (ib+1) mg k k1
  | _=>pure (.done (some (mlDone a b (out.push x) ia (ib+1)),out.push x,ia,ib+1,mg,k,bc))
noncomputable def mlA (a b out:Array Keyed) (ia ib mg ac bc:Nat):StateT SortSt Sem (ForInStep MlT):=do
 setMinGallop' mg
 let x ← elem' b ib
 let r ← gallop' false x a ia (a.size - ia) 0
 match r with
 | some k =>
  if k > 0 then
   if ia+k+1 == a.size then pure (.done (some (mlLast a b (out++a.extract ia (ia+k)) (ia+k) ib),out++a.extract ia (ia+k),ia+k,ib,mg,k,bc))
   else if ia+k == a.size then pure (.done (some (mlDone a b (out++a.extract ia (ia+k)) (ia+k) ib),out++a.extract ia (ia+k),ia+k,ib,mg,k,bc))
   else mlB a b (out++a.extract ia (ia+k)) (ia+k) ib mg k bc
  else mlB a b out ia ib mg k bc
 | _=>pure (.done (some (mlDone a b out ia ib),out,ia,ib,mg,ac,bc))
noncomputable abbrev setGal (st:SortSt) (g:Nat):SortSt:=SortSt.mk' (kindOf st) (arrOf st) (pendingOf st) g (failedOf st)
theorem setMinGallop'_eq (g:Nat):setMinGallop' g=modify fun s=>setGal s g:=rfl
section
variable {prog:Program} {w:World} {A:Around} {E:Value→Shared→Prop} {s:Shared} {κ:SortKind} {f:Nat→Keyed} {n:Nat} {lt:Nat→Nat→Bool} {st:SortSt} {A' B':List Nat}
noncomputable def MgQ (lt:Nat→Nat→Bool) (f:Nat→Keyed) (A' B':List Nat) (r:Array Keyed):Prop:=∃ l,r=ar f l∧l.Perm (A'++B')∧Up lt l
variable {O A1 la B1 lb:List Nat}
theorem mlDone_ok (C:MgC n lt A' B') (m:Mg n lt A' B' O A1 la B1 []) {ia ib:Nat} (h1:ia=A1.length) (h2:ib=B1.length):MgQ lt f A' B' (mlDone (ar f A') (ar f B') (ar f O) ia ib):=by
 refine ⟨O++la,?_,m.endB C⟩
 unfold mlDone
 rw [m.ea,m.eb,List.append_nil,ar_end A1 la h1 (by simp [ar_size]),ar_none B1 (by lia),ar_app]
 simp
theorem mlLast_ok (C:MgC n lt A' B') {z:Nat} (hz:∀ y∈B',lt y z=true) (m:Mg n lt A' B' O A1 [z] B1 lb) {ia ib:Nat} (h1:ia=A1.length) (h2:ib=B1.length):MgQ lt f A' B' (mlLast (ar f A') (ar f B') (ar f O) ia ib):=by
 have m2:Mg n lt A' B' (O++lb) A1 [z] (B1++lb) []:=Mg.moveB C (l1:=lb) (l2:=[]) (by rw [List.append_nil]; exact m) fun x hx y hy=>by
  rw [List.mem_singleton.mp hy]
  exact C.L.as _ _ (C.hb x (m.inb hx)) (C.ha z (by rw [m.ea]; simp)) (hz x (m.inb hx))
 refine ⟨O++lb++[z],?_,m2.endB C⟩
 unfold mlLast
 rw [m.eb,ar_end B1 lb h2 (by simp [ar_size]),m.ea,ar_end A1 [z] h1 (by simp [ar_size]),ar_app,ar_app]
noncomputable def MlI (n:Nat) (lt:Nat→Nat→Bool) (f:Nat→Keyed) (A' B':List Nat) (out:Array Keyed) (ia ib:Nat):Prop :=
 ∃ O A1 la B1 lb,out=ar f O∧Mg n lt A' B' O A1 la B1 lb∧ia=A1.length∧ib=B1.length∧2≤la.length∧1≤lb.length
noncomputable def MlR (n:Nat) (lt:Nat→Nat→Bool) (f:Nat→Keyed) (A' B':List Nat) (m0:Nat) (κ:SortKind) (st0:SortSt) (r:ForInStep MlT) (st:SortSt):Prop :=
 (∃ g,st=setGal st0 g)∧((∃ x y,r=.done (some x,y)∧MgQ lt f A' B' x)∨(∃ out ia ib mg p,(r=.done (none,out,ia,ib,mg,p)∨r=.yield (none,out,ia,ib,mg,p))∧MlI n lt f A' B' out ia ib∧m0 < ia+ib))
theorem mlC_ok (hc:Asks prog w A s κ f n lt) (C:MgC n lt A' B') {z:Nat} (hz:∀ y∈B',lt y z=true) (hl:∃ A0,A'=A0++[z]) {st0:SortSt} (hk:kindOf st0=κ) (hs:∃ g,st=setGal st0 g) {m0:Nat} {x:Nat} {la':List Nat} (m:Mg n lt A' B' O A1 (x :: la') B1 lb) (hx:∀ y∈lb,lt y x=false) (h2:la'≠[]) (h3:lb≠[]) {ia ib mg k k1:Nat} (e1:ia=A1.length) (e2:ib=B1.length) (hm:m0≤ia+ib) :
  wpS (model prog w) A E s (mlC (ar f A') (ar f B') (ar f O) ia ib mg k k1) (MlR n lt f A' B' m0 κ st0) st:=by
 have m2:Mg n lt A' B' (O++[x]) (A1++[x]) la' B1 lb:=Mg.moveA C (l1:=[x]) (l2:=la') m fun y hy=>by rw [List.mem_singleton.mp hy]; exact hx
 have sz:(ar f A').size=A1.length+1+la'.length:=by rw [ar_size,m.ea]; simp; lia
 have l1:1≤la'.length:=List.length_pos_iff.mpr h2
 have l2:1≤lb.length:=List.length_pos_iff.mpr h3
 unfold mlC
 refine wpS_bind ?_
 have ee:=m.ea
 rw [ee]
 refine wpS_elem e1 ?_
 rw [← ee]
 rw [ar_push,sz]
 by_cases hq:la'.length=1
 ·rw [if_pos (by simp; lia)]
  refine wpS_pure ⟨hs,.inl ⟨_,_,rfl,?_⟩⟩
  obtain ⟨A0,hA0⟩:=hl
  obtain ⟨y,rfl⟩:∃ y,la'=[y]:=List.length_eq_one_iff.mp hq
  have:y=z:=by
   have:=ee
   rw [hA0] at this
   have e:=congrArg List.getLast? this
   simpa using e.symm
  subst this
  exact mlLast_ok C hz m2 (by simp [e1] <;> lia) e2
 ·rw [if_neg (by simp; lia)]
  have fin:MlI n lt f A' B' (ar f (O++[x])) (ia+1) ib:=⟨_,_,_,_,_,rfl,m2,by simp [e1],e2,by lia,l2⟩
  split
  ·exact wpS_pure ⟨hs,.inr ⟨_,_,_,_,_,.inl rfl,fin,by lia⟩⟩
  ·exact wpS_pure ⟨hs,.inr ⟨_,_,_,_,_,.inr rfl,fin,by lia⟩⟩
theorem last_in {A0 A1 l:List Nat} {z:Nat} (e:A0++[z]=A1++l) (h:l≠[]):∃ l0,l=l0++[z]:=by
 rcases List.eq_nil_or_concat l with q | ⟨l0,y,q⟩
 ·exact absurd q h
 ·subst q
  rw [List.concat_eq_append,← List.append_assoc] at e
  have:=(List.append_inj' e rfl).2
  refine ⟨l0,?_⟩
  rw [List.concat_eq_append,← this]
theorem mlB_ok (hc:Asks prog w A s κ f n lt) (C:MgC n lt A' B') {z:Nat} (hz:∀ y∈B',lt y z=true) (hl:∃ A0,A'=A0++[z]) {st0:SortSt} (hk:kindOf st0=κ) (hs:∃ g,st=setGal st0 g) {m0:Nat} {x:Nat} {lb':List Nat} (m:Mg n lt A' B' O A1 la B1 (x :: lb')) (hx:∀ y∈la,lt y x=false) (h2:2≤la.length) {ia ib mg k bc:Nat} (e1:ia=A1.length) (e2:ib=B1.length) (hm:m0≤ia+ib) :
  wpS (model prog w) A E s (mlB (ar f A') (ar f B') (ar f O) ia ib mg k bc) (MlR n lt f A' B' m0 κ st0) st:=by
 have m2:Mg n lt A' B' (O++[x]) A1 la (B1++[x]) lb':=Mg.moveB C (l1:=[x]) (l2:=lb') m fun y hy=>by rw [List.mem_singleton.mp hy]; exact hx
 have sz:(ar f B').size=B1.length+1+lb'.length:=by rw [ar_size,m.eb]; simp; lia
 unfold mlB
 refine wpS_bind ?_
 have ee:=m.eb
 rw [ee]
 refine wpS_elem e2 ?_
 rw [← ee]
 rw [ar_push,sz]
 by_cases hq:lb'=[]
 ·subst hq
  rw [if_pos (by simp; lia)]
  exact wpS_pure ⟨hs,.inl ⟨_,_,rfl,mlDone_ok C m2 e1 (by simp [e2] <;> lia)⟩⟩
 ·have p1:1≤lb'.length:=List.length_pos_iff.mpr hq
  rw [if_neg (by simp; lia)]
  obtain ⟨y,la',rfl⟩:∃ y la',la=y :: la':=by
   cases la with
   | nil=>simp at h2
   | cons y la'=>exact ⟨y,la',rfl⟩
  refine wpS_bind ?_
  have ea:=m.ea
  rw [ea]
  refine wpS_elem e1 ?_
  rw [← ea]
  have yn:y∈A':=m.ina (List.mem_cons_self ..)
  have hk':kindOf st=κ:=by
   obtain ⟨g,rfl⟩:=hs
   exact hk
  refine wpS_bind ?_
  have eb:=m2.eb
  rw [eb,show B1++[x]++lb'=B1++[x]++(lb'++[]) by simp]
  refine gallop_list hc C.L hk' (fun u hu=>C.hb u (m2.inb hu)) (C.ha y yn) (m2.ulb C) (by lia) (by simp [e2] <;> lia) (by lia) fun l1 l2 el b1 b2 _ _=>?_
  rw [show B1++[x]++(lb'++[])=B1++[x]++lb' by simp,← eb]
  subst el
  have la1:la'≠[]:=by
   intro e
   subst e
   simp at h2
  have up:=m.ula C
  have low:∀ u∈l1,∀ v∈y :: la',lt v u=false:=fun u hu=>up_head C.L (C.hb u (m2.inb (List.mem_append_left _ hu))) (fun v hv=>C.ha v (m.ina hv)) up (b1 u hu)
  dsimp only
  by_cases h0:l1.length > 0
  ·rw [if_pos h0]
   have m3:=Mg.moveB C m2 low
   have ex:(ar f B').extract (ib+1) (ib+1+l1.length)=ar f l1:=by
    rw [eb]
    exact ar_mid (B1++[x]) l1 l2 (by simp [e2] <;> lia) (by simp [e2] <;> lia)
   rw [ex,ar_app]
   by_cases h9:l2=[]
   ·subst h9
    rw [if_pos (by simp; lia)]
    exact wpS_pure ⟨hs,.inl ⟨_,_,rfl,mlDone_ok C m3 e1 (by simp [e2] <;> lia)⟩⟩
   ·have:1≤l2.length:=List.length_pos_iff.mpr h9
    rw [if_neg (by simp; lia)]
    exact mlC_ok hc C hz hl hk hs m3 b2 la1 h9 e1 (by simp [e2] <;> lia) (by lia)
  ·rw [if_neg h0]
   have:l1=[]:=List.length_eq_zero_iff.mp (by lia)
   subst this
   exact mlC_ok hc C hz hl hk hs m2 b2 la1 hq e1 (by simp [e2] <;> lia) (by lia)
theorem mlA_ok (hc:Asks prog w A s κ f n lt) (C:MgC n lt A' B') {z:Nat} (hz:∀ y∈B',lt y z=true) (hl:∃ A0,A'=A0++[z]) {st0:SortSt} (hk:kindOf st0=κ) (hs:∃ g,st=setGal st0 g) {out:Array Keyed} {ia ib mg ac bc:Nat} (h:MlI n lt f A' B' out ia ib) :
  wpS (model prog w) A E s (mlA (ar f A') (ar f B') out ia ib mg ac bc) (MlR n lt f A' B' (ia+ib) κ st0) st:=by
 obtain ⟨O,A1,la,B1,lb,rfl,m,e1,e2,h2,h3⟩:=h
 unfold mlA
 refine wpS_bind ?_
 rw [setMinGallop'_eq]
 refine wpS_modify ?_
 have hs':∃ g,setGal st mg=setGal st0 g:=by
  obtain ⟨g,rfl⟩:=hs
  exact ⟨mg,rfl⟩
 generalize setGal st mg=st' at hs'
 have hk':kindOf st'=κ:=by
  obtain ⟨g,rfl⟩:=hs'
  exact hk
 have sz:(ar f A').size=A1.length+la.length:=by rw [ar_size,m.ea]; simp
 obtain ⟨x,lb',rfl⟩:∃ y l,lb=y :: l:=by
  cases lb with
  | nil=>simp at h3
  | cons y l=>exact ⟨y,l,rfl⟩
 have xn:x∈B':=m.inb (List.mem_cons_self ..)
 refine wpS_bind ?_
 have eb:=m.eb
 rw [eb]
 refine wpS_elem e2 ?_
 rw [← eb]
 refine wpS_bind ?_
 have ea:=m.ea
 rw [sz,ea,show A1++la=A1++(la++[]) by simp]
 refine gallop_list hc C.L hk' (fun u hu=>C.ha u (m.ina hu)) (C.hb x xn) (m.ula C) (by lia) e1 (by lia) fun l1 l2 el b1 b2 _ _=>?_
 rw [show A1++(la++[])=A1++la by simp,← ea]
 subst el
 have ub:=m.ulb C
 have low:∀ u∈l1,∀ v∈x :: lb',lt v u=false:=fun u hu=>up_head C.L (C.ha u (m.ina (List.mem_append_left _ hu))) (fun v hv=>C.hb v (m.inb hv)) ub (b1 u hu)
 have n2:l2≠[]:=fun e=>by
  subst e
  obtain ⟨A0,hA0⟩:=hl
  have zl:z∈l1:=by
   rw [List.append_nil] at ea
   obtain ⟨l0,e0⟩:=last_in (hA0.symm.trans ea) (fun e=>by subst e; simp at h2)
   rw [e0]
   simp
  have q1:=b1 z zl
  have q2:=hz x xn
  rw [q1] at q2
  cases q2
 have n2':1≤l2.length:=List.length_pos_iff.mpr n2
 dsimp only
 have fin:∀ l1',l1'=l1→2≤l2.length→wpS (model prog w) A E s (mlB (ar f A') (ar f B') (ar f (O++l1')) (ia+l1'.length) ib mg l1.length bc) (MlR n lt f A' B' (ia+ib) κ st0) st':=fun l1' e h=>by
  subst e
  exact mlB_ok hc C hz hl hk hs' (Mg.moveA C m low) b2 h (by simp [e1] <;> lia) e2 (by lia)
 have lenA:(l1++l2).length=l1.length+l2.length:=by simp
 by_cases h0:l1.length > 0
 ·rw [if_pos h0]
  have ex:(ar f A').extract ia (ia+l1.length)=ar f l1:=by
   rw [ea]
   exact ar_mid A1 l1 l2 e1 (by simp [e1] <;> lia)
  rw [ex,ar_app]
  by_cases h9:l2.length=1
  ·rw [if_pos (by simp; lia)]
   refine wpS_pure ⟨hs',.inl ⟨_,_,rfl,?_⟩⟩
   obtain ⟨y,rfl⟩:∃ y,l2=[y]:=List.length_eq_one_iff.mp h9
   obtain ⟨A0,hA0⟩:=hl
   have:y=z:=by
    have e:=congrArg List.getLast? (hA0.symm.trans ea)
    rw [← List.append_assoc] at e
    simpa using e.symm
   subst this
   exact mlLast_ok C hz (Mg.moveA C m low) (by simp [e1] <;> lia) e2
  ·rw [if_neg (by simp; lia),if_neg (by simp; lia)]
   exact fin l1 rfl (by lia)
 ·rw [if_neg h0]
  have:l1=[]:=List.length_eq_zero_iff.mp (by lia)
  subst this
  have:=fin [] rfl (by simpa using h2)
  simpa using this
theorem mergeLo_ok (hc:Asks prog w A s κ f n lt) (C:MgC n lt A' B') {z:Nat} (hz:∀ y∈B',lt y z=true) (hl:∃ A0,A'=A0++[z]) (hk:kindOf st=κ) {b0:Nat} {B0:List Nat} (hb0:B'=b0 :: B0) (h0:∀ y∈A',lt b0 y=true) {Q:Array Keyed→SortSt→Prop}
  (h:∀ r g,MgQ lt f A' B' r→Q r (setGal st g)):wpS (model prog w) A E s (mergeLo' (ar f A') (ar f B')) Q st:=by
 have m:Mg n lt A' B' [b0] [] A' [b0] B0:={
  ea:=rfl
  eb:=hb0
  pm:=List.Perm.refl _
  up:=List.pairwise_singleton _ _
  ba:=fun x hx y hy=>by rw [List.mem_singleton.mp hx]; exact C.L.as _ _ (C.hb b0 (by rw [hb0]; simp)) (C.ha y hy) (h0 y hy)
  bb:=fun x hx y hy=>by
   rw [List.mem_singleton.mp hx]
   have u:=C.ub
   rw [hb0] at u
   exact List.rel_of_pairwise_cons u hy }
 have sa:(ar f A').size=A'.length:=ar_size _
 have sb:(ar f B').size=B0.length+1:=by rw [ar_size,hb0]; rfl
 have aP:1≤A'.length:=by
  obtain ⟨A0,e⟩:=hl
  rw [e]
  simp
 rw [mergeLo'_eq]
 dsimp only
 refine wpS_bind (wpS_lift (wpAny_rule ⟨rfl,wpS_bind ?_⟩))
 have ew:ar f B'=ar f ([]++b0 :: B0):=by rw [hb0]; rfl
 rw [ew]
 refine wpS_elem rfl ?_
 rw [← ew]
 by_cases hq:B0=[]
 ·subst hq
  rw [if_pos (by simp [sb])]
  refine wpS_pure (h _ (gallopOf st) ?_)
  have:=mlDone_ok (f:=f) C m (ia:=0) (ib:=1) rfl rfl
  unfold mlDone at this
  exact this
 ·have bP:1≤B0.length:=List.length_pos_iff.mpr hq
  rw [if_neg (by simp [sb,sa] <;> lia)]
  by_cases hq2:A'.length=1
  ·rw [if_pos (by simp [sb,sa] <;> lia)]
   refine wpS_pure (h _ (gallopOf st) ?_)
   obtain ⟨A0,e⟩:=hl
   have:A0=[]:=by
    rw [e] at hq2
    simp at hq2
    exact hq2
   subst this
   have:=mlLast_ok (f:=f) C hz (by rw [e] at m; rw [e]; exact m) (ia:=0) (ib:=1) rfl rfl
   unfold mlLast at this
   exact this
  ·rw [if_neg (by simp [sb,sa] <;> lia)]
   refine wpS_bind (wpS_get ?_)
   refine wpS_bind (wpS_forRange (fun k c st'=>(∃ g,st'=setGal st g)∧∃ out ia ib mg,c=(none,out,ia,ib,mg)∧MlI n lt f A' B' out ia ib∧k < ia+ib) ?_ ?_ ⟨⟨gallopOf st,rfl⟩,_,_,_,_,rfl,⟨[b0],[],A',[b0],B0,rfl,m,rfl,rfl,by lia,bP⟩,by lia⟩)
   ·rintro k c st' - hkt ⟨hs,out,ia,ib,mg,rfl,hi,hk1⟩
    dsimp only
    refine wpS_bind (wpS_mono (Q:=fun c st'=>(∃ g,st'=setGal st g)∧((∃ x y,c=(some x,y)∧MgQ lt f A' B' x)∨∃ out ia ib p,c=(none,out,ia,ib,p)∧MlI n lt f A' B' out ia ib∧k < ia+ib))
     (wpS_forRange (fun _ c st'=>(∃ g,st'=setGal st g)∧∃ out ia ib ac bc,c=(none,out,ia,ib,ac,bc)∧MlI n lt f A' B' out ia ib∧k < ia+ib) ?_ ?_ ⟨hs,_,_,_,_,_,rfl,hi,hk1⟩) ?_)
    ·clear hs hi hk1
     rintro k1 c st' - - ⟨hs,out,ia,ib,ac,bc,rfl,⟨O,A1,la,B1,lb,rfl,m,e1,e2,h2,h3⟩,hk1⟩
     have hk':kindOf st'=κ:=by
      obtain ⟨g,rfl⟩:=hs
      exact hk
     obtain ⟨y,lb',rfl⟩:∃ y l,lb=y :: l:=by
      cases lb with
      | nil=>simp at h3
      | cons y l=>exact ⟨y,l,rfl⟩
     obtain ⟨x,la',rfl⟩:∃ y l,la=y :: l:=by
      cases la with
      | nil=>simp at h2
      | cons y l=>exact ⟨y,l,rfl⟩
     have xn:=m.ina (List.mem_cons_self ..)
     have yn:=m.inb (List.mem_cons_self ..)
     have ua:=m.ula C
     have ub:=m.ulb C
     have ea:ar f A'=ar f (A1++x :: la'):=by rw [← m.ea]
     have eb:ar f B'=ar f (B1++y :: lb'):=by rw [← m.eb]
     have la2:A'.length=A1.length+1+la'.length:=by rw [m.ea]; simp; lia
     have lb2:B0.length+1=B1.length+1+lb'.length:=by rw [← sb,ar_size,m.eb]; simp; lia
     dsimp only
     have getA:∀ {Q':Keyed→SortSt→Prop},Q' (f x) st'→wpS (model prog w) A E s (elem' (ar f A') ia) Q' st':=fun q=>by
      rw [ea]
      exact wpS_elem e1 q
     have getB:∀ {Q':Keyed→SortSt→Prop},Q' (f y) st'→wpS (model prog w) A E s (elem' (ar f B') ib) Q' st':=fun q=>by
      rw [eb]
      exact wpS_elem e2 q
     refine wpS_bind (getB (wpS_bind (getA (wpS_bind (wpS_lt2 hc hk' (C.hb y yn) (C.ha x xn) ?_)))))
     dsimp only
     cases hw:lt y x with
     | true =>
      rw [if_pos rfl]
      refine wpS_bind (getB ?_)
      have m2:=Mg.moveB C (l1:=[y]) (l2:=lb') m fun u hu=>by rw [List.mem_singleton.mp hu]; exact up_head C.L (C.hb y yn) (fun v hv=>C.ha v (m.ina hv)) ua (C.L.as _ _ (C.hb y yn) (C.ha x xn) hw)
      rw [ar_push]
      by_cases z1:lb'=[]
      ·subst z1
       simp only [List.length_nil] at lb2
       rw [if_pos (by simp [sb,sa] <;> lia)]
       refine wpS_pure ⟨hs,.inl ⟨_,_,rfl,?_⟩⟩
       have:=mlDone_ok (f:=f) C m2 (ia:=ia) (ib:=ib+1) e1 (by simp [e2] <;> lia)
       unfold mlDone at this
       exact this
      ·have z2:1≤lb'.length:=List.length_pos_iff.mpr z1
       rw [if_neg (by simp [sb,sa] <;> lia)]
       have fin:MlI n lt f A' B' (ar f (O++[y])) ia (ib+1):=⟨_,_,_,_,_,rfl,m2,e1,by simp [e2] <;> lia,h2,z2⟩
       split
       ·exact wpS_pure ⟨hs,.inr ⟨_,_,_,_,rfl,fin,by lia⟩⟩
       ·exact wpS_pure ⟨hs,_,_,_,_,_,rfl,fin,by lia⟩
     | false =>
      rw [if_neg (by simp)]
      refine wpS_bind (getA ?_)
      have m2:=Mg.moveA C (l1:=[x]) (l2:=la') m fun u hu=>by rw [List.mem_singleton.mp hu]; exact up_head C.L (C.ha x xn) (fun v hv=>C.hb v (m.inb hv)) ub hw
      rw [ar_push]
      by_cases z1:la'.length=1
      ·rw [if_pos (by simp [sb,sa] <;> lia)]
       refine wpS_pure ⟨hs,.inl ⟨_,_,rfl,?_⟩⟩
       obtain ⟨v,rfl⟩:∃ v,la'=[v]:=List.length_eq_one_iff.mp z1
       obtain ⟨A0,hA0⟩:=hl
       obtain ⟨l0,e0⟩:=last_in (hA0.symm.trans m2.ea) (by simp)
       have:v=z:=by
        have:=congrArg List.getLast? e0
        simpa using this
       subst this
       have:=mlLast_ok (f:=f) C hz m2 (ia:=ia+1) (ib:=ib) (by simp [e1] <;> lia) e2
       unfold mlLast at this
       exact this
      ·have z2:2≤la'.length:=by simp at h2; lia
       rw [if_neg (by simp [sb,sa] <;> lia)]
       have fin:MlI n lt f A' B' (ar f (O++[x])) (ia+1) ib:=⟨_,_,_,_,_,rfl,m2,by simp [e1] <;> lia,e2,z2,h3⟩
       split
       ·exact wpS_pure ⟨hs,.inr ⟨_,_,_,_,rfl,fin,by lia⟩⟩
       ·exact wpS_pure ⟨hs,_,_,_,_,_,rfl,fin,by lia⟩
    ·rintro c st' ⟨hs,out,ia,ib,ac,bc,rfl,hi,hk1⟩
     exact ⟨hs,.inr ⟨_,_,_,_,rfl,hi,hk1⟩⟩
    ·clear hs hi hk1
     rintro c st' ⟨hs,⟨x,y,rfl,hx⟩ | ⟨out,ia,ib,p,rfl,hi,hk1⟩⟩
     ·refine wpS_pure ?_
      obtain ⟨g,rfl⟩:=hs
      exact wpS_pure (h _ _ hx)
     ·dsimp only
      refine wpS_bind (wpS_lift (wpAny_rule ⟨rfl,wpS_bind (wpS_mono (Q:=fun c st'=>(∃ g,st'=setGal st g)∧((∃ x y,c=(some x,y)∧MgQ lt f A' B' x)∨∃ out ia ib p,c=(none,out,ia,ib,p)∧MlI n lt f A' B' out ia ib∧k+1 < ia+ib)) (wpS_forRange (fun j c st'=>(∃ g,st'=setGal st g)∧∃ out ia ib mg ac bc,c=(none,out,ia,ib,mg,ac,bc)∧MlI n lt f A' B' out ia ib∧k+(if j=0 then 0 else 1) < ia+ib) ?_ ?_ ⟨hs,_,_,_,_,_,_,rfl,hi,hk1⟩) ?_)⟩))
      ·clear hs hi hk1
       rintro j c st' - - ⟨hs,out,ia,ib,mg,ac,bc,rfl,hi,hk1⟩
       have key:=fun mg=>mlA_ok (E:=E) (mg:=mg) (ac:=ac) (bc:=bc) hc C hz hl hk hs hi
       by_cases hm1:mg > 1
       ·rw [if_pos hm1]
        refine wpS_mono (key (mg - 1)) ?_
        rintro r st' ⟨hs',⟨x,y,rfl,hx⟩ | ⟨out,ia,ib,mg,p,rfl | rfl,hi',hm⟩⟩
        ·exact ⟨hs',.inl ⟨_,_,rfl,hx⟩⟩
        ·exact ⟨hs',.inr ⟨_,_,_,_,rfl,hi',by split at hk1 <;> lia⟩⟩
        ·exact ⟨hs',_,_,_,_,_,_,rfl,hi',by rw [if_neg (by lia)]; split at hk1 <;> lia⟩
       ·rw [if_neg hm1]
        refine wpS_mono (key mg) ?_
        rintro r st' ⟨hs',⟨x,y,rfl,hx⟩ | ⟨out,ia,ib,mg,p,rfl | rfl,hi',hm⟩⟩
        ·exact ⟨hs',.inl ⟨_,_,rfl,hx⟩⟩
        ·exact ⟨hs',.inr ⟨_,_,_,_,rfl,hi',by split at hk1 <;> lia⟩⟩
        ·exact ⟨hs',_,_,_,_,_,_,rfl,hi',by rw [if_neg (by lia)]; split at hk1 <;> lia⟩
      ·rintro c st' ⟨hs,out,ia,ib,mg,ac,bc,rfl,hi,hk1⟩
       refine ⟨hs,.inr ⟨_,_,_,_,rfl,hi,?_⟩⟩
       rw [if_neg (by lia)] at hk1
       exact hk1
      ·clear hs hi hk1
       rintro c st' ⟨hs,⟨x,y,rfl,hx⟩ | ⟨out,ia,ib,p,rfl,hi,hk1⟩⟩
       ·refine wpS_pure ?_
        obtain ⟨g,rfl⟩:=hs
        exact wpS_pure (h _ _ hx)
       ·dsimp only
        refine wpS_bind ?_
        rw [setMinGallop'_eq]
        refine wpS_modify (wpS_pure ?_)
        obtain ⟨g,rfl⟩:=hs
        exact ⟨⟨_,rfl⟩,_,_,_,_,rfl,hi,hk1⟩
   ·rintro c st' ⟨hs,out,ia,ib,mg,rfl,⟨O,A1,la,B1,lb,rfl,m,e1,e2,h2,h3⟩,hk1⟩
    have la2:A'.length=A1.length+la.length:=by rw [m.ea]; simp
    have lb2:B0.length+1=B1.length+lb.length:=by rw [← sb,ar_size,m.eb]; simp
    lia
end
end L2
namespace L2
open PySem PySem.W PyProof.Rows
noncomputable def mergeHi':Array Keyed→Array Keyed→StateT SortSt Sem (Array Keyed):=sortPriv% PySem.Builtin.mergeHi
theorem mergeHi'_eq (a b:Array Keyed):mergeHi' a b=(do
 rule "list.sort.merge-hi"
 let total:=a.size+b.size
 let done (out:Array Keyed) (na nb:Nat):=a.extract 0 na++b.extract 0 nb++out.reverse
 let firstOfB (out:Array Keyed) (na nb:Nat):=b.extract 0 nb++a.extract 0 na++out.reverse
 let mut na:=a.size - 1
 let mut nb:=b.size
 let mut out:Array Keyed:=#[← elem' a na]
 if na == 0 then return done out na nb
 if nb == 1 then return firstOfB out na nb
 let mut minGallop:=gallopOf (← get)
 for _ in [0:total] do
  let mut acount:=0
  let mut bcount:=0
  for _ in [0:total] do
   let some aWins ← lt' (← elem' b (nb - 1)) (← elem' a (na - 1)) | return done out na nb
   if aWins then
    na:=na - 1; out:=out.push (← elem' a na); acount:=acount+1; bcount:=0
    if na == 0 then return done out na nb
    if acount ≥ minGallop then break
   else
    nb:=nb - 1; out:=out.push (← elem' b nb); bcount:=bcount+1; acount:=0
    if nb == 1 then return firstOfB out na nb
    if bcount ≥ minGallop then break
  rule "list.sort.gallop"
  minGallop:=minGallop+1
  for _ in [0:total] do
   if minGallop > 1 then minGallop:=minGallop - 1
   setMinGallop' minGallop
   let some at_ ← gallop' false (← elem' b (nb - 1)) a 0 na (na - 1) | return done out na nb
   let k:=na - at_
   acount:=k
   if k > 0 then
    out:=out++(a.extract at_ na).reverse; na:=at_
    if na == 0 then return done out na nb
   nb:=nb - 1; out:=out.push (← elem' b nb)
   if nb == 1 then return firstOfB out na nb
   let some at_ ← gallop' true (← elem' a (na - 1)) b 0 nb (nb - 1) | return done out na nb
   let k:=nb - at_
   bcount:=k
   if k > 0 then
    out:=out++(b.extract at_ nb).reverse; nb:=at_
    if nb == 1 then return firstOfB out na nb
    if nb == 0 then return done out na nb
   na:=na - 1; out:=out.push (← elem' a na)
   if na == 0 then return done out na nb
   if acount < 7 && bcount < 7 then break
  minGallop:=minGallop+1
  setMinGallop' minGallop
 unsupported "internal:list.sort.merge-bound"):=rfl
noncomputable abbrev MhT:=Option (Array Keyed) × Nat × Nat × Array Keyed × Nat × Nat × Nat
noncomputable def mhDone (a b out:Array Keyed) (na nb:Nat):Array Keyed:=a.extract 0 na++b.extract 0 nb++out.reverse
noncomputable def mhFirst (a b out:Array Keyed) (na nb:Nat):Array Keyed:=b.extract 0 nb++a.extract 0 na++out.reverse
noncomputable def mhC (a b out:Array Keyed) (na nb mg k k1:Nat):StateT SortSt Sem (ForInStep MhT):=do
 let x ← elem' a (na - 1)
 if na - 1 == 0 then pure (.done (some (mhDone a b (out.push x) (na - 1) nb),na - 1,nb,out.push x,mg,k,k1))
 else if k < 7 && k1 < 7 then pure (.done (none,na - 1,nb,out.push x,mg,k,k1))
 else pure (.yield (none,na - 1,nb,out.push x,mg,k,k1))
noncomputable def mhB (a b out:Array Keyed) (na nb mg k bc:Nat):StateT SortSt Sem (ForInStep MhT):=do
 let x ← elem' b (nb - 1)
 if nb - 1 == 1 then pure (.done (some (mhFirst a b (out.push x) na (nb - 1)),na,nb - 1,out.push x,mg,k,bc))
 else do
  let y ← elem' a (na - 1)
  let r ← gallop' true y b 0 (nb - 1) (nb - 1 - 1)
  match r with
  | some k1 =>
   if nb - 1 - k1 > 0 then
    if k1 == 1 then pure (.done (some (mhFirst a b (out.push x++(b.extract k1 (nb - 1)).reverse) na k1),na,k1,out.push x++(b.extract k1 (nb - 1)).reverse,mg,k,nb - 1 - k1))
    else if k1 == 0 then pure (.done (some (mhDone a b (out.push x++(b.extract k1 (nb - 1)).reverse) na k1),na,k1,out.push x++(b.extract k1 (nb - 1)).reverse,mg,k,nb - 1 - k1))
    else mhC a b (out.push x++(b.extract k1 (nb - 1)).reverse) na k1 mg k (nb - 1 - k1)
   else mhC a b (out.push x) na (nb - 1) mg k (nb - 1 - k1)
  | _=>pure (.done (some (mhDone a b (out.push x) na (nb - 1)),na,nb - 1,out.push x,mg,k,bc))
noncomputable def mhA (a b out:Array Keyed) (na nb mg ac bc:Nat):StateT SortSt Sem (ForInStep MhT):=do
 setMinGallop' mg
 let x ← elem' b (nb - 1)
 let r ← gallop' false x a 0 na (na - 1)
 match r with
 | some k =>
  if na - k > 0 then
   if k == 0 then pure (.done (some (mhDone a b (out++(a.extract k na).reverse) k nb),k,nb,out++(a.extract k na).reverse,mg,na - k,bc))
   else mhB a b (out++(a.extract k na).reverse) k nb mg (na - k) bc
  else mhB a b out na nb mg (na - k) bc
 | _=>pure (.done (some (mhDone a b out na nb),na,nb,out,mg,ac,bc))
section
variable {prog:Program} {w:World} {A:Around} {E:Value→Shared→Prop} {s:Shared} {κ:SortKind} {f:Nat→Keyed} {n:Nat} {lt:Nat→Nat→Bool} {st:SortSt} {A' B':List Nat}
structure Mh (n:Nat) (lt:Nat→Nat→Bool) (A B O A1 la B1 lb:List Nat):Prop where
 ea:A=la++A1
 eb:B=lb++B1
 pm:O.Perm (A1++B1)
 up:Up lt O
 ba:∀ y∈la,∀ x∈O,lt x y=false
 bb:∀ y∈lb,∀ x∈O,lt x y=false
variable {O A1 la B1 lb:List Nat}
theorem Mh.moveA (C:MgC n lt A' B') {l1 l2:List Nat} (m:Mh n lt A' B' O A1 (l2++l1) B1 lb) (h:∀ x∈l1,∀ y∈lb,lt x y=false):Mh n lt A' B' (l1++O) (l1++A1) l2 B1 lb where
 ea:=by rw [m.ea]; simp
 eb:=m.eb
 pm:=by
  rw [List.append_assoc]
  exact m.pm.append_left l1
 up:=by
  have u:=C.ua
  rw [m.ea] at u
  have u1:=(List.pairwise_append.mp (List.pairwise_append.mp u).1).2.1
  exact List.pairwise_append.mpr ⟨u1,m.up,fun x hx y hy=>m.ba x (List.mem_append_right _ hx) y hy⟩
 ba:=fun y hy x hx=>by
  rcases List.mem_append.mp hx with hx | hx
  ·have u:=C.ua
   rw [m.ea] at u
   exact (List.pairwise_append.mp (List.pairwise_append.mp u).1).2.2 y hy x hx
  ·exact m.ba y (List.mem_append_left _ hy) x hx
 bb:=fun y hy x hx=>by
  rcases List.mem_append.mp hx with hx | hx
  ·exact h x hx y hy
  ·exact m.bb y hy x hx
theorem Mh.moveB (C:MgC n lt A' B') {l1 l2:List Nat} (m:Mh n lt A' B' O A1 la B1 (l2++l1)) (h:∀ x∈l1,∀ y∈la,lt x y=false):Mh n lt A' B' (l1++O) A1 la (l1++B1) l2 where
 ea:=m.ea
 eb:=by rw [m.eb]; simp
 pm:=by
  refine (m.pm.append_left l1).trans ?_
  rw [← List.append_assoc,← List.append_assoc]
  exact (List.perm_append_comm).append_right B1
 up:=by
  have u:=C.ub
  rw [m.eb] at u
  have u1:=(List.pairwise_append.mp (List.pairwise_append.mp u).1).2.1
  exact List.pairwise_append.mpr ⟨u1,m.up,fun x hx y hy=>m.bb x (List.mem_append_right _ hx) y hy⟩
 ba:=fun y hy x hx=>by
  rcases List.mem_append.mp hx with hx | hx
  ·exact h x hx y hy
  ·exact m.ba y hy x hx
 bb:=fun y hy x hx=>by
  rcases List.mem_append.mp hx with hx | hx
  ·have u:=C.ub
   rw [m.eb] at u
   exact (List.pairwise_append.mp (List.pairwise_append.mp u).1).2.2 y hy x hx
  ·exact m.bb y (List.mem_append_left _ hy) x hx
theorem Mh.ula (C:MgC n lt A' B') (m:Mh n lt A' B' O A1 la B1 lb):Up lt la:=by
 have u:=C.ua
 rw [m.ea] at u
 exact (List.pairwise_append.mp u).1
theorem Mh.ulb (C:MgC n lt A' B') (m:Mh n lt A' B' O A1 la B1 lb):Up lt lb:=by
 have u:=C.ub
 rw [m.eb] at u
 exact (List.pairwise_append.mp u).1
theorem Mh.ina (m:Mh n lt A' B' O A1 la B1 lb) {x:Nat} (h:x∈la):x∈A':=by rw [m.ea]; exact List.mem_append_left _ h
theorem Mh.inb (m:Mh n lt A' B' O A1 la B1 lb) {x:Nat} (h:x∈lb):x∈B':=by rw [m.eb]; exact List.mem_append_left _ h
theorem Mh.endA (C:MgC n lt A' B') (m:Mh n lt A' B' O A1 [] B1 lb):(lb++O).Perm (A'++B')∧Up lt (lb++O):=by
 refine ⟨?_,List.pairwise_append.mpr ⟨m.ulb C,m.up,m.bb⟩⟩
 rw [m.ea,m.eb]
 refine (m.pm.append_left lb).trans ?_
 rw [← List.append_assoc,← List.append_assoc]
 exact (List.perm_append_comm).append_right B1
theorem up_last (L:LtOk n lt) {x y:Nat} {l:List Nat} (hx:x < n) (hl:∀ z∈l++[y],z < n) (u:Up lt (l++[y])) (h:lt x y=false):∀ z∈l++[y],lt x z=false:=fun z hz=>by
 rcases List.mem_append.mp hz with hz' | hz'
 ·exact L.tr _ _ _ (hl z hz) (hl y (by simp)) hx ((List.pairwise_append.mp u).2.2 z hz' y (by simp)) h
 ·rw [List.mem_singleton.mp hz']
  exact h
theorem ar_rev (l:List Nat):(ar f l).reverse=ar f l.reverse:=by simp [ar]
theorem ar_start (l m:List Nat) {z:Nat} (hz:z=l.length):(ar f (l++m)).extract 0 z=ar f l:=ar_mid [] l m rfl (by simpa using hz)
theorem rv_push (l:List Nat) (x:Nat):(ar f l.reverse).push (f x)=ar f ([x]++l).reverse:=by rw [ar_push]; simp
theorem rv_app (l m:List Nat):ar f l.reverse++(ar f m).reverse=ar f (m++l).reverse:=by rw [ar_rev,ar_app]; simp
theorem mhDone_ok (C:MgC n lt A' B') (m:Mh n lt A' B' O A1 [] B1 lb) {na nb:Nat} (h1:na=0) (h2:nb=lb.length):MgQ lt f A' B' (mhDone (ar f A') (ar f B') (ar f O.reverse) na nb):=by
 refine ⟨lb++O,?_,m.endA C⟩
 unfold mhDone
 rw [m.eb,ar_start lb B1 h2,h1,ar_rev,List.reverse_reverse]
 rw [show (ar f A').extract 0 0=#[] by simp]
 rw [Array.empty_append,ar_app]
theorem mhFirst_ok (C:MgC n lt A' B') {z:Nat} (hz:∀ y∈A',lt z y=true) (m:Mh n lt A' B' O A1 la B1 [z]) {na nb:Nat} (h1:na=la.length) (h2:nb=1):MgQ lt f A' B' (mhFirst (ar f A') (ar f B') (ar f O.reverse) na nb):=by
 have m2:Mh n lt A' B' (la++O) (la++A1) [] B1 [z]:=Mh.moveA C (l1:=la) (l2:=[]) (by rw [List.nil_append]; exact m) fun x hx y hy=>by
  rw [List.mem_singleton.mp hy]
  exact C.L.as _ _ (C.hb z (by rw [m.eb]; simp)) (C.ha x (m.ina hx)) (hz x (m.ina hx))
 refine ⟨[z]++(la++O),?_,m2.endA C⟩
 unfold mhFirst
 rw [m.eb,ar_start [z] B1 h2,m.ea,ar_start la A1 h1,ar_rev,List.reverse_reverse,ar_app,ar_app,List.append_assoc]
noncomputable def MhI (n:Nat) (lt:Nat→Nat→Bool) (f:Nat→Keyed) (A' B':List Nat) (na nb:Nat) (out:Array Keyed):Prop :=
 ∃ O A1 la B1 lb,out=ar f O.reverse∧Mh n lt A' B' O A1 la B1 lb∧na=la.length∧nb=lb.length∧1≤la.length∧2≤lb.length
noncomputable def MhR (n:Nat) (lt:Nat→Nat→Bool) (f:Nat→Keyed) (A' B':List Nat) (m0:Nat) (κ:SortKind) (st0:SortSt) (r:ForInStep MhT) (st:SortSt):Prop :=
 (∃ g,st=setGal st0 g)∧((∃ x y,r=.done (some x,y)∧MgQ lt f A' B' x)∨(∃ na nb out mg p,(r=.done (none,na,nb,out,mg,p)∨r=.yield (none,na,nb,out,mg,p))∧MhI n lt f A' B' na nb out∧na+nb < m0))
theorem conc {l:List Nat} (h:1≤l.length):∃ l0 x,l=l0++[x]:=by
 rcases List.eq_nil_or_concat l with q | ⟨l0,y,q⟩
 ·subst q; simp at h
 ·exact ⟨l0,y,by rw [q,List.concat_eq_append]⟩
theorem get_last {pre post:List Nat} {x k:Nat} {l:List Nat} (e:l=pre++[x]++post) (hk:k=pre.length) {Q:Keyed→SortSt→Prop} {M:Model} (h:Q (f x) st):wpS M A E s (elem' (ar f l) k) Q st:=by
 rw [e,List.append_assoc,List.singleton_append]
 exact wpS_elem hk h
theorem mhC_ok (C:MgC n lt A' B') {st0:SortSt} (hs:∃ g,st=setGal st0 g) {m0:Nat} {x:Nat} {la':List Nat} (m:Mh n lt A' B' O A1 (la'++[x]) B1 lb) (hx:∀ y∈lb,lt x y=false) (h3:2≤lb.length) {na nb mg k k1:Nat} (e1:na=la'.length+1) (e2:nb=lb.length) (hm:na+nb≤m0) :
  wpS (model prog w) A E s (mhC (ar f A') (ar f B') (ar f O.reverse) na nb mg k k1) (MhR n lt f A' B' m0 κ st0) st:=by
 have m2:Mh n lt A' B' ([x]++O) ([x]++A1) la' B1 lb:=Mh.moveA C (l1:=[x]) (l2:=la') m fun y hy=>by rw [List.mem_singleton.mp hy]; exact hx
 unfold mhC
 refine wpS_bind (get_last m.ea (by lia) ?_)
 rw [rv_push]
 by_cases hq:la'=[]
 ·subst hq
  simp only [List.length_nil] at e1
  rw [if_pos (by simp [e1])]
  exact wpS_pure ⟨hs,.inl ⟨_,_,rfl,mhDone_ok C m2 (by lia) e2⟩⟩
 ·have l1:1≤la'.length:=List.length_pos_iff.mpr hq
  rw [if_neg (by simp [e1] <;> lia)]
  have fin:MhI n lt f A' B' (na - 1) nb (ar f ([x]++O).reverse):=⟨_,_,_,_,_,rfl,m2,by lia,e2,l1,h3⟩
  split
  ·exact wpS_pure ⟨hs,.inr ⟨_,_,_,_,_,.inl rfl,fin,by lia⟩⟩
  ·exact wpS_pure ⟨hs,.inr ⟨_,_,_,_,_,.inr rfl,fin,by lia⟩⟩
theorem mhB_ok (hc:Asks prog w A s κ f n lt) (C:MgC n lt A' B') {z:Nat} (hz:∀ y∈A',lt z y=true) {B0:List Nat} (hl:B'=z :: B0) {st0:SortSt} (hk:kindOf st0=κ) (hs:∃ g,st=setGal st0 g) {m0:Nat} {x:Nat} {lb':List Nat} (m:Mh n lt A' B' O A1 la B1 (lb'++[x])) (hx:∀ y∈la,lt x y=false) (h2:1≤la.length) (h3:1≤lb'.length) {na nb mg k bc:Nat} (e1:na=la.length) (e2:nb=lb'.length+1) (hm:na+nb≤m0) :
  wpS (model prog w) A E s (mhB (ar f A') (ar f B') (ar f O.reverse) na nb mg k bc) (MhR n lt f A' B' m0 κ st0) st:=by
 have m2:Mh n lt A' B' ([x]++O) A1 la ([x]++B1) lb':=Mh.moveB C (l1:=[x]) (l2:=lb') m fun y hy=>by rw [List.mem_singleton.mp hy]; exact hx
 have hz1:∀ {l1 l2:List Nat} {O' A1' la':List Nat},Mh n lt A' B' O' A1' la' l2 l1→1≤l1.length→∃ l0,l1=z :: l0:=fun {l1 l2 O' A1' la'} mm hh=>by
  cases l1 with
  | nil=>simp at hh
  | cons u l0 =>
   have:=mm.eb
   rw [hl] at this
   have:=(List.cons.inj this).1
   exact ⟨l0,by rw [this]⟩
 unfold mhB
 refine wpS_bind (get_last m.eb (by lia) ?_)
 rw [rv_push]
 obtain ⟨l0,hl0⟩:=hz1 m2 h3
 by_cases hq:lb'.length=1
 ·rw [if_pos (by simp [e2] <;> lia)]
  have:l0=[]:=by
   rw [hl0] at hq
   simpa using hq
  subst this
  rw [hl0] at m2
  exact wpS_pure ⟨hs,.inl ⟨_,_,rfl,mhFirst_ok C hz m2 e1 (by lia)⟩⟩
 ·rw [if_neg (by simp [e2] <;> lia)]
  obtain ⟨la',y,rfl⟩:=conc h2
  have hk':kindOf st=κ:=by
   obtain ⟨g,rfl⟩:=hs
   exact hk
  have yn:y∈A':=m.ina (by simp)
  refine wpS_bind (get_last m.ea (by simp [e1]) (wpS_bind ?_))
  have eb:=m2.eb
  have eb':ar f B'=ar f ([]++(lb'++([x]++B1))):=by rw [eb]; rfl
  rw [eb']
  refine gallop_list hc C.L hk' (fun u hu=>C.hb u (m2.inb hu)) (C.ha y yn) (m2.ulb C) (by lia) rfl (by lia) fun l1 l2 el b1 b2 _ _=>?_
  rw [← eb']
  subst el
  have up:=m.ula C
  have low:∀ u∈l2,∀ v∈la'++[y],lt u v=false:=fun u hu=>up_last C.L (C.hb u (m2.inb (List.mem_append_right _ hu))) (fun v hv=>C.ha v (m.ina hv)) up (b2 u hu)
  have len:(l1++l2).length=l1.length+l2.length:=by simp
  have l1p:1≤l1.length:=by
   cases l1 with
   | nil =>
    exfalso
    have zl:z∈l2:=by
     rw [List.nil_append] at hl0
     rw [hl0]
     simp
    have q1:=b2 z zl
    have q2:=hz y yn
    rw [q1] at q2
    cases q2
   | cons u l=>simp
  have la1:na=la'.length+1:=by rw [e1]; simp
  dsimp only
  by_cases h0:nb - 1 - l1.length > 0
  ·rw [if_pos h0]
   have m3:=Mh.moveB C m2 low
   have ex:(ar f B').extract l1.length (nb - 1)=ar f l2:=by
    rw [eb,List.append_assoc]
    exact ar_mid l1 l2 _ rfl (by lia)
   rw [ex,rv_app]
   by_cases h9:l1.length=1
   ·rw [if_pos (by simp [h9])]
    obtain ⟨l0',hl0'⟩:=hz1 m3 l1p
    have:l0'=[]:=by
     rw [hl0'] at h9
     simpa using h9
    subst this
    rw [hl0'] at m3 ⊢
    exact wpS_pure ⟨hs,.inl ⟨_,_,rfl,mhFirst_ok C hz m3 e1 rfl⟩⟩
   ·rw [if_neg (by simp [h9]),if_neg (fun e=>by have:=eq_of_beq e; lia)]
    exact mhC_ok C hs m3 b1 (by lia) la1 rfl (by lia)
  ·rw [if_neg h0]
   have:l2=[]:=List.length_eq_zero_iff.mp (by lia)
   subst this
   refine mhC_ok C hs m2 (fun v hv=>b1 v (by simpa using hv)) (by lia) la1 (by lia) (by lia)
theorem mhA_ok (hc:Asks prog w A s κ f n lt) (C:MgC n lt A' B') {z:Nat} (hz:∀ y∈A',lt z y=true) {B0:List Nat} (hl:B'=z :: B0) {st0:SortSt} (hk:kindOf st0=κ) (hs:∃ g,st=setGal st0 g) {out:Array Keyed} {na nb mg ac bc:Nat} (h:MhI n lt f A' B' na nb out) :
  wpS (model prog w) A E s (mhA (ar f A') (ar f B') out na nb mg ac bc) (MhR n lt f A' B' (na+nb) κ st0) st:=by
 obtain ⟨O,A1,la,B1,lb,rfl,m,e1,e2,h2,h3⟩:=h
 unfold mhA
 refine wpS_bind ?_
 rw [setMinGallop'_eq]
 refine wpS_modify ?_
 have hs':∃ g,setGal st mg=setGal st0 g:=by
  obtain ⟨g,rfl⟩:=hs
  exact ⟨mg,rfl⟩
 generalize setGal st mg=st' at hs'
 have hk':kindOf st'=κ:=by
  obtain ⟨g,rfl⟩:=hs'
  exact hk
 obtain ⟨lb',x,rfl⟩:=conc (show 1≤lb.length by lia)
 have xn:x∈B':=m.inb (by simp)
 have lb1:(lb'++[x]).length=lb'.length+1:=by simp
 refine wpS_bind (get_last m.eb (by lia) (wpS_bind ?_))
 have ea:=m.ea
 have ea':ar f A'=ar f ([]++(la++A1)):=by rw [ea]; rfl
 rw [ea']
 refine gallop_list hc C.L hk' (fun u hu=>C.ha u (m.ina hu)) (C.hb x xn) (m.ula C) (by lia) rfl (by lia) fun l1 l2 el b1 b2 _ _=>?_
 rw [← ea']
 subst el
 have ub:=m.ulb C
 have low:∀ u∈l2,∀ v∈lb'++[x],lt u v=false:=fun u hu=>up_last C.L (C.ha u (m.ina (List.mem_append_right _ hu))) (fun v hv=>C.hb v (m.inb hv)) ub (b2 u hu)
 have len:(l1++l2).length=l1.length+l2.length:=by simp
 dsimp only
 by_cases h0:na - l1.length > 0
 ·rw [if_pos h0]
  have m3:=Mh.moveA C m low
  have ex:(ar f A').extract l1.length na=ar f l2:=by
   rw [ea,List.append_assoc]
   exact ar_mid l1 l2 _ rfl (by lia)
  rw [ex,rv_app]
  by_cases h9:l1=[]
  ·subst h9
   rw [if_pos (by simp)]
   exact wpS_pure ⟨hs',.inl ⟨_,_,rfl,mhDone_ok C m3 rfl e2⟩⟩
  ·have l1p:1≤l1.length:=List.length_pos_iff.mpr h9
   rw [if_neg (by simp [h9])]
   exact mhB_ok hc C hz hl hk hs' m3 b1 l1p (by lia) rfl (by lia) (by lia)
 ·rw [if_neg h0]
  have:l2=[]:=List.length_eq_zero_iff.mp (by lia)
  subst this
  exact mhB_ok hc C hz hl hk hs' m (fun v hv=>b1 v (by simpa using hv)) h2 (by lia) e1 (by lia) (by lia)
theorem mergeHi_ok (hc:Asks prog w A s κ f n lt) (C:MgC n lt A' B') {z:Nat} (hz:∀ y∈A',lt z y=true) {B0:List Nat} (hl:B'=z :: B0) (hk:kindOf st=κ) {a0:Nat} {A0:List Nat} (ha0:A'=A0++[a0]) (h0:∀ y∈B',lt y a0=true) {Q:Array Keyed→SortSt→Prop}
  (h:∀ r g,MgQ lt f A' B' r→Q r (setGal st g)):wpS (model prog w) A E s (mergeHi' (ar f A') (ar f B')) Q st:=by
 have m:Mh n lt A' B' [a0] [a0] A0 [] B':={
  ea:=ha0
  eb:=by simp
  pm:=List.Perm.refl _
  up:=List.pairwise_singleton _ _
  ba:=fun y hy x hx=>by
   rw [List.mem_singleton.mp hx]
   have u:=C.ua
   rw [ha0] at u
   exact (List.pairwise_append.mp u).2.2 y hy a0 (by simp)
  bb:=fun y hy x hx=>by rw [List.mem_singleton.mp hx]; exact C.L.as _ _ (C.hb y hy) (C.ha a0 (by rw [ha0]; simp)) (h0 y hy) }
 have sa:(ar f A').size=A0.length+1:=by rw [ar_size,ha0]; simp
 have sb:(ar f B').size=B'.length:=ar_size _
 have bP:1≤B'.length:=by rw [hl]; simp
 have na0:(ar f A').size - 1=A0.length:=by lia
 rw [mergeHi'_eq]
 dsimp only
 refine wpS_bind (wpS_lift (wpAny_rule ⟨rfl,wpS_bind (get_last (x:=a0) (pre:=A0) (post:=[]) (by rw [ha0]; simp) na0 ?_)⟩))
 have o1:#[f a0]=ar f [a0].reverse:=rfl
 rw [o1]
 by_cases hq:A0=[]
 ·subst hq
  simp only [List.length_nil] at na0
  rw [if_pos (by simp [na0])]
  exact wpS_pure (h _ (gallopOf st) (mhDone_ok C m na0 sb))
 ·have aP:1≤A0.length:=List.length_pos_iff.mpr hq
  rw [if_neg (by simp [na0] <;> lia)]
  by_cases hq2:B'.length=1
  ·rw [if_pos (by simp [sb] <;> lia)]
   have:B0=[]:=by
    rw [hl] at hq2
    simpa using hq2
   subst this
   have:=mhFirst_ok (f:=f) C hz (by rw [hl] at m ⊢; exact m) na0 (sb.trans hq2)
   exact wpS_pure (h _ (gallopOf st) this)
  ·rw [if_neg (by simp [sb] <;> lia)]
   refine wpS_bind (wpS_get ?_)
   refine wpS_bind (wpS_forRange (fun k c st'=>(∃ g,st'=setGal st g)∧∃ na nb out mg,c=(none,na,nb,out,mg)∧MhI n lt f A' B' na nb out∧na+nb+k < (ar f A').size+(ar f B').size) ?_ ?_ ⟨⟨gallopOf st,rfl⟩,_,_,_,_,rfl,⟨[a0],[a0],A0,[],B',rfl,m,na0,sb,aP,by lia⟩,by lia⟩)
   ·rintro k c st' - hkt ⟨hs,na,nb,out,mg,rfl,hi,hk1⟩
    dsimp only
    refine wpS_bind (wpS_mono (Q:=fun c st'=>(∃ g,st'=setGal st g)∧((∃ x y,c=(some x,y)∧MgQ lt f A' B' x)∨∃ na nb out p,c=(none,na,nb,out,p)∧MhI n lt f A' B' na nb out∧na+nb+k < (ar f A').size+(ar f B').size))
     (wpS_forRange (fun _ c st'=>(∃ g,st'=setGal st g)∧∃ na nb out ac bc,c=(none,na,nb,out,ac,bc)∧MhI n lt f A' B' na nb out∧na+nb+k < (ar f A').size+(ar f B').size) ?_ ?_ ⟨hs,_,_,_,_,_,rfl,hi,hk1⟩) ?_)
    ·clear hs hi hk1
     rintro k1 c st' - - ⟨hs,na,nb,out,ac,bc,rfl,⟨O,A1,la,B1,lb,rfl,m,e1,e2,h2,h3⟩,hk1⟩
     have hk':kindOf st'=κ:=by
      obtain ⟨g,rfl⟩:=hs
      exact hk
     obtain ⟨la',x,rfl⟩:=conc h2
     obtain ⟨lb',y,rfl⟩:=conc (show 1≤lb.length by lia)
     have xn:x∈A':=m.ina (by simp)
     have yn:y∈B':=m.inb (by simp)
     have ua:=m.ula C
     have ub:=m.ulb C
     have la2:(la'++[x]).length=la'.length+1:=by simp
     have lb2:(lb'++[y]).length=lb'.length+1:=by simp
     dsimp only
     have getA:∀ {Q':Keyed→SortSt→Prop},Q' (f x) st'→wpS (model prog w) A E s (elem' (ar f A') (na - 1)) Q' st':=fun q=>get_last m.ea (by lia) q
     have getB:∀ {Q':Keyed→SortSt→Prop},Q' (f y) st'→wpS (model prog w) A E s (elem' (ar f B') (nb - 1)) Q' st':=fun q=>get_last m.eb (by lia) q
     refine wpS_bind (getB (wpS_bind (getA (wpS_bind (wpS_lt2 hc hk' (C.hb y yn) (C.ha x xn) ?_)))))
     dsimp only
     cases hw:lt y x with
     | true =>
      rw [if_pos rfl]
      refine wpS_bind (getA ?_)
      have m2:=Mh.moveA C (l1:=[x]) (l2:=la') m fun u hu=>by rw [List.mem_singleton.mp hu]; exact up_last C.L (C.ha x xn) (fun v hv=>C.hb v (m.inb hv)) ub (C.L.as _ _ (C.hb y yn) (C.ha x xn) hw)
      rw [rv_push]
      by_cases z1:la'=[]
      ·subst z1
       simp only [List.nil_append,List.length_singleton] at e1
       rw [if_pos (by simp [e1])]
       exact wpS_pure ⟨hs,.inl ⟨_,_,rfl,mhDone_ok C m2 (by lia) e2⟩⟩
      ·have z2:1≤la'.length:=List.length_pos_iff.mpr z1
       rw [if_neg (fun e=>by have:=eq_of_beq e; lia)]
       have fin:MhI n lt f A' B' (na - 1) nb (ar f ([x]++O).reverse):=⟨_,_,_,_,_,rfl,m2,by lia,e2,z2,h3⟩
       split
       ·exact wpS_pure ⟨hs,.inr ⟨_,_,_,_,rfl,fin,by lia⟩⟩
       ·exact wpS_pure ⟨hs,_,_,_,_,_,rfl,fin,by lia⟩
     | false =>
      rw [if_neg (by simp)]
      refine wpS_bind (getB ?_)
      have m2:=Mh.moveB C (l1:=[y]) (l2:=lb') m fun u hu=>by rw [List.mem_singleton.mp hu]; exact up_last C.L (C.hb y yn) (fun v hv=>C.ha v (m.ina hv)) ua hw
      rw [rv_push]
      by_cases z1:lb'.length=1
      ·rw [if_pos (beq_iff_eq.mpr (by lia))]
       obtain ⟨v,rfl⟩:∃ v,lb'=[v]:=List.length_eq_one_iff.mp z1
       have:v=z:=by
        have:=m2.eb
        rw [hl] at this
        exact (List.cons.inj this).1.symm
       subst this
       exact wpS_pure ⟨hs,.inl ⟨_,_,rfl,mhFirst_ok C hz m2 e1 (by lia)⟩⟩
      ·have z2:2≤lb'.length:=by lia
       rw [if_neg (fun e=>by have:=eq_of_beq e; lia)]
       have fin:MhI n lt f A' B' na (nb - 1) (ar f ([y]++O).reverse):=⟨_,_,_,_,_,rfl,m2,e1,by lia,h2,z2⟩
       split
       ·exact wpS_pure ⟨hs,.inr ⟨_,_,_,_,rfl,fin,by lia⟩⟩
       ·exact wpS_pure ⟨hs,_,_,_,_,_,rfl,fin,by lia⟩
    ·rintro c st' ⟨hs,na,nb,out,ac,bc,rfl,hi,hk1⟩
     exact ⟨hs,.inr ⟨_,_,_,_,rfl,hi,hk1⟩⟩
    ·clear hs hi hk1
     rintro c st' ⟨hs,⟨x,y,rfl,hx⟩ | ⟨na,nb,out,p,rfl,hi,hk1⟩⟩
     ·refine wpS_pure ?_
      obtain ⟨g,rfl⟩:=hs
      exact wpS_pure (h _ _ hx)
     ·dsimp only
      refine wpS_bind (wpS_lift (wpAny_rule ⟨rfl,wpS_bind (wpS_mono (Q:=fun c st'=>(∃ g,st'=setGal st g)∧((∃ x y,c=(some x,y)∧MgQ lt f A' B' x)∨∃ na nb out p,c=(none,na,nb,out,p)∧MhI n lt f A' B' na nb out∧na+nb+(k+1) < (ar f A').size+(ar f B').size)) (wpS_forRange (fun j c st'=>(∃ g,st'=setGal st g)∧∃ na nb out mg ac bc,c=(none,na,nb,out,mg,ac,bc)∧MhI n lt f A' B' na nb out∧na+nb+(k+(if j=0 then 0 else 1)) < (ar f A').size+(ar f B').size) ?_ ?_ ⟨hs,_,_,_,_,_,_,rfl,hi,hk1⟩) ?_)⟩))
      ·clear hs hi hk1
       rintro j c st' - - ⟨hs,na,nb,out,mg,ac,bc,rfl,hi,hk1⟩
       have key:=fun mg=>mhA_ok (E:=E) (mg:=mg) (ac:=ac) (bc:=bc) hc C hz hl hk hs hi
       by_cases hm1:mg > 1
       ·rw [if_pos hm1]
        refine wpS_mono (key (mg - 1)) ?_
        rintro r st' ⟨hs',⟨x,y,rfl,hx⟩ | ⟨na,nb,out,mg,p,rfl | rfl,hi',hm⟩⟩
        ·exact ⟨hs',.inl ⟨_,_,rfl,hx⟩⟩
        ·exact ⟨hs',.inr ⟨_,_,_,_,rfl,hi',by split at hk1 <;> lia⟩⟩
        ·exact ⟨hs',_,_,_,_,_,_,rfl,hi',by rw [if_neg (by lia)]; split at hk1 <;> lia⟩
       ·rw [if_neg hm1]
        refine wpS_mono (key mg) ?_
        rintro r st' ⟨hs',⟨x,y,rfl,hx⟩ | ⟨na,nb,out,mg,p,rfl | rfl,hi',hm⟩⟩
        ·exact ⟨hs',.inl ⟨_,_,rfl,hx⟩⟩
        ·exact ⟨hs',.inr ⟨_,_,_,_,rfl,hi',by split at hk1 <;> lia⟩⟩
        ·exact ⟨hs',_,_,_,_,_,_,rfl,hi',by rw [if_neg (by lia)]; split at hk1 <;> lia⟩
      ·rintro c st' ⟨hs,na,nb,out,mg,ac,bc,rfl,hi,hk1⟩
       refine ⟨hs,.inr ⟨_,_,_,_,rfl,hi,?_⟩⟩
       rw [if_neg (by lia)] at hk1
       exact hk1
      ·clear hs hi hk1
       rintro c st' ⟨hs,⟨x,y,rfl,hx⟩ | ⟨na,nb,out,p,rfl,hi,hk1⟩⟩
       ·refine wpS_pure ?_
        obtain ⟨g,rfl⟩:=hs
        exact wpS_pure (h _ _ hx)
       ·dsimp only
        refine wpS_bind ?_
        rw [setMinGallop'_eq]
        refine wpS_modify (wpS_pure ?_)
        obtain ⟨g,rfl⟩:=hs
        exact ⟨⟨_,rfl⟩,_,_,_,_,rfl,hi,hk1⟩
   ·rintro c st' ⟨hs,na,nb,out,mg,rfl,hi,hk1⟩
    lia
end
end L2
namespace L2
open PySem PySem.W PyProof.Rows
section
variable {prog:Program} {w:World} {A:Around} {E:Value→Shared→Prop} {s:Shared} {κ:SortKind} {f:Nat→Keyed} {n:Nat} {lt:Nat→Nat→Bool} {st:SortSt} {p:Array Nat}
structure PermOk (n:Nat) (p:Array Nat):Prop where
 sz:p.size=n
 lt:∀ i,i < n→p.getD i 0 < n
 inj:∀ i j,i < n→j < n→p.getD i 0=p.getD j 0→i=j
theorem getD_eq (p:Array Nat) (i:Nat):p.getD i 0=(p[i]?).getD 0:=by
 by_cases h:i < p.size
 ·simp [Array.getD,h]
 ·simp [Array.getD,h]
theorem PermOk.of (hp:p.Perm (List.range n).toArray):PermOk n p where
 sz:=by rw [hp.size_eq]; simp
 lt:=fun i hi=>by
  have hs:p.size=n:=by rw [hp.size_eq]; simp
  have hm:p[i]'(by lia)∈p:=Array.getElem_mem _
  have:p[i]'(by lia)∈(List.range n).toArray:=hp.mem_iff.mp hm
  rw [getD_eq,Array.getElem?_eq_getElem (by lia)]
  simpa using this
 inj:=fun i j hi hj e=>by
  have hs:p.size=n:=by rw [hp.size_eq]; simp
  have nd:p.toList.Nodup:=by
   have:=hp.toList
   rw [this.nodup_iff]
   simp [List.nodup_range]
  rw [getD_eq,getD_eq,Array.getElem?_eq_getElem (by lia),Array.getElem?_eq_getElem (by lia)] at e
  have e':p.toList[i]'(by simp; lia)=p.toList[j]'(by simp; lia):=by simpa using e
  exact (List.getElem_inj nd).mp e'
noncomputable def SPl (lt:Nat→Nat→Bool) (p:Array Nat) (lo k:Nat):Prop:=∀ i j,lo≤i→i < j→j < lo+k→lt (p.getD j 0) (p.getD i 0)=false
noncomputable def DPl (lt:Nat→Nat→Bool) (p:Array Nat) (lo k:Nat):Prop:=∀ i j,lo≤i→i < j→j < lo+k→lt (p.getD i 0) (p.getD j 0)=false
theorem wpS_ltAt2 (hc:Asks prog w A s κ f n lt) (hk:kindOf st=κ) (P:PermOk n p) (ha:arrOf st=p.map f) {i j:Nat} (hi:i < n) (hj:j < n) {Q:Option Bool→SortSt→Prop} (h:Q (some (lt (p.getD i 0) (p.getD j 0))) st):wpS (model prog w) A E s (ltAt' i j) Q st:=by
 have g:∀ i,i < n→(arrOf st)[i]?=some (f (p.getD i 0)):=fun i hi=>by
  have hz:i < p.size:=by rw [P.sz]; exact hi
  rw [ha,getD_eq]
  simp [hz]
 rw [ltAt'_eq]
 refine wpS_bind (wpS_get ?_)
 show wpS _ _ _ _ (do let x ← elem' (arrOf st) i; let y ← elem' (arrOf st) j; lt' x y) Q st
 rw [elem'_eq,elem'_eq,g i hi,g j hj]
 exact wpS_bind (wpS_pure (wpS_bind (wpS_pure (wpS_lt2 hc hk (P.lt i hi) (P.lt j hj) h))))
theorem swaps_map (u v:Nat→Nat) (l:List Nat) (xs:Array Nat):l.foldl (fun a k=>a.swapIfInBounds (u k) (v k)) (xs.map f)=(l.foldl (fun a k=>a.swapIfInBounds (u k) (v k)) xs).map f:=kas_swaps_map f u v l xs
theorem wpS_rev (ha:arrOf st=p.map f) {i j:Nat} {Q:Unit→SortSt→Prop} (h:Q () (setArr st ((mirror p i j ((j - i) / 2)).map f))):wpS (model prog w) A E s (reverseSlice' i j) Q st:=by
 rw [reverseSlice'_eq]
 refine wpS_modify ?_
 have e:mirror (arrOf st) i j ((j - i) / 2)=(mirror p i j ((j - i) / 2)).map f:=by rw [ha]; exact swaps_map (fun k=>i+k) (fun k=>j - 1 - k) _ p
 rw [e]
 exact h
theorem wpS_down (ha:arrOf st=p.map f) {k l:Nat} {Q:Unit→SortSt→Prop} (h:Q () (setArr st ((bubble p k (k - l)).map f))):wpS (model prog w) A E s (moveDown' k l) Q st:=by
 rw [moveDown'_eq]
 refine wpS_modify ?_
 have e:bubble (arrOf st) k (k - l)=(bubble p k (k - l)).map f:=by rw [ha]; exact swaps_map (fun i=>k - i) (fun i=>k - i - 1) _ p
 rw [e]
 exact h
theorem SPl.snoc (L:LtOk n lt) (P:PermOk n p) {lo k:Nat} (h:SPl lt p lo k) (hk:lo+k < n) (h1:1≤k) (e:lt (p.getD (lo+k) 0) (p.getD (lo+k - 1) 0)=false):SPl lt p lo (k+1):=fun i j h0 hi hj=>by
 have l1:=e
 by_cases hjk:j=lo+k
 ·subst hjk
  by_cases hik:i=lo+k - 1
  ·rw [hik]; exact l1
  ·exact L.tr _ _ _ (P.lt i (by lia)) (P.lt (lo+k - 1) (by lia)) (P.lt (lo+k) hk) (h i (lo+k - 1) h0 (by lia) (by lia)) l1
 ·exact h i j h0 hi (by lia)
theorem mirror_getD {i j:Nat} (hj:j≤p.size) (k:Nat):(mirror p i j ((j - i) / 2)).getD k 0=if i≤k∧k < j then p.getD (i+j - 1 - k) 0 else p.getD k 0:=by
 rw [getD_eq,getElem?_mirror_all hj k]
 by_cases h:i≤k∧k < j
 ·rw [if_pos h,if_pos h,getD_eq]
 ·rw [if_neg h,if_neg h,getD_eq]
theorem rev_SPl {lo k:Nat} (hj:lo+k≤p.size) (h:DPl lt p lo k):SPl lt (mirror p lo (lo+k) ((lo+k - lo) / 2)) lo k:=fun a b h0 hab hb=>by
 rw [mirror_getD hj,mirror_getD hj,if_pos (by lia),if_pos (by lia)]
 exact h _ _ (by lia) (by lia) (by lia)
noncomputable def RunQ (n:Nat) (lt:Nat→Nat→Bool) (f:Nat→Keyed) (lo:Nat) (p:Array Nat) (st:SortSt) (m:Nat) (st':SortSt):Prop :=
 ∃ q:Array Nat,st'=setArr st (q.map f)∧q.Perm p∧(∀ i,i < lo→q.getD i 0=p.getD i 0)∧SPl lt q lo m
theorem setArr_same {a:Array Keyed} (ha:arrOf st=a):setArr st a=st:=by subst ha; rfl
theorem DPl.snoc2 (L:LtOk n lt) (P:PermOk n p) {lo k:Nat} (h:DPl lt p lo k) (hk:lo+k < n) (h1:1≤k) (e:lt (p.getD (lo+k - 1) 0) (p.getD (lo+k) 0)=false):DPl lt p lo (k+1):=fun i j h0 hi hj=>by
 by_cases hjk:j=lo+k
 ·subst hjk
  by_cases hik:i=lo+k - 1
  ·rw [hik]; exact e
  ·exact L.tr _ _ _ (P.lt (lo+k) hk) (P.lt (lo+k - 1) (by lia)) (P.lt i (by lia)) e (h i (lo+k - 1) h0 (by lia) (by lia))
 ·exact h i j h0 hi (by lia)
noncomputable def crAsc (lo nrem n0:Nat):StateT SortSt Sem (Option Nat):=do
 reverseSlice' lo (lo+n0)
 let mut n:=n0
 for _ in [n0:nrem] do
  let some smaller ← ltAt' (lo+n) (lo+n - 1) | return none
  if smaller then break
  n:=n+1
 return some n
noncomputable def crDesc (lo nrem n0:Nat):StateT SortSt Sem (Option Nat):=do
 rule "list.sort.descending-run"
 let mut n:=n0+1
 let mut neq:=0
 for _ in [n:nrem] do
  let some smaller ← ltAt' (lo+n) (lo+n - 1) | return none
  if smaller then
   if neq > 0 then reverseSlice' (lo+n - (neq+1)) (lo+n)
   neq:=0
  else
   let some larger ← ltAt' (lo+n - 1) (lo+n) | return none
   if larger then break
   neq:=neq+1
  n:=n+1
 if neq > 0 then reverseSlice' (lo+n - (neq+1)) (lo+n)
 crAsc lo nrem n
theorem countRun'_eq2 (lo nrem:Nat):countRun' lo nrem=(do
 let mut n:=1
 for _ in [1:nrem] do
  let some smaller ← ltAt' (lo+n) (lo+n - 1) | return none
  if smaller then break
  n:=n+1
 if n == nrem then return some n
 if n > 1 then
  let some rose ← ltAt' lo (lo+n - 1) | return none
  if rose then return some n
  reverseSlice' lo (lo+n)
 crDesc lo nrem n):=rfl
noncomputable def EPl (lt:Nat→Nat→Bool) (p:Array Nat) (a b:Nat):Prop:=∀ i j,a≤i→i < b→a≤j→j < b→lt (p.getD i 0) (p.getD j 0)=false
theorem rev_DPl {lo k a b:Nat} (hb:b≤p.size) (h0:lo≤a) (hk:b≤lo+k) (e:EPl lt p a b) (h:DPl lt p lo k):DPl lt (mirror p a b ((b - a) / 2)) lo k:=fun i j hi hij hj=>by
 rw [mirror_getD hb,mirror_getD hb]
 by_cases c1:a≤i∧i < b
 ·rw [if_pos c1]
  by_cases c2:a≤j∧j < b
  ·rw [if_pos c2]
   exact e _ _ (by lia) (by lia) (by lia) (by lia)
  ·rw [if_neg c2]
   exact h _ _ (by lia) (by lia) hj
 ·rw [if_neg c1]
  by_cases c2:a≤j∧j < b
  ·rw [if_pos c2]
   exact h _ _ hi (by lia) (by lia)
  ·rw [if_neg c2]
   exact h _ _ hi hij hj
structure CrI (n:Nat) (f:Nat→Keyed) (lo:Nat) (p:Array Nat) (st:SortSt) (q:Array Nat) (st':SortSt):Prop where
 st:st'=setArr st (q.map f)
 pm:q.Perm p
 bef:∀ i,i < lo→q.getD i 0=p.getD i 0
theorem CrI.rev {lo a b:Nat} {q:Array Nat} {st':SortSt} (h:CrI n f lo p st q st') (hb:b≤q.size) (ha:lo≤a):CrI n f lo p st (mirror q a b ((b - a) / 2)) (setArr st' ((mirror q a b ((b - a) / 2)).map f)):=by
 refine ⟨by rw [h.st],(mirror_perm _ _ _ _).trans h.pm,fun i hi=>?_⟩
 rw [mirror_getD hb,if_neg (by lia)]
 exact h.bef i hi
theorem crAsc_ok (hc:Asks prog w A s κ f n lt) (L:LtOk n lt) (hk:kindOf st=κ) (hp:p.Perm (List.range n).toArray) {lo nrem:Nat} (hn:lo+nrem=n) {q:Array Nat} {st':SortSt} (I:CrI n f lo p st q st') {m:Nat} (k1:2≤m) (k2:m≤nrem) (hd:DPl lt q lo m) {Q:Option Nat→SortSt→Prop}
  (h:∀ m st',1≤m→m≤nrem→RunQ n lt f lo p st m st'→Q (some m) st'):wpS (model prog w) A E s (crAsc lo nrem m) Q st':=by
 have P:=PermOk.of (I.pm.trans hp)
 have hz:lo+m≤q.size:=by rw [P.sz]; lia
 have I2:=I.rev hz (Nat.le_refl lo)
 have s2:=rev_SPl (lt:=lt) hz hd
 have ha:arrOf st'=q.map f:=by rw [I.st]
 unfold crAsc
 refine wpS_bind (wpS_rev ha ?_)
 have P2:=PermOk.of (I2.pm.trans hp)
 have hk2:kindOf (setArr st' ((mirror q lo (lo+m) ((lo+m - lo) / 2)).map f))=κ:=by rw [I2.st]; exact hk
 have ha2:arrOf (setArr st' ((mirror q lo (lo+m) ((lo+m - lo) / 2)).map f))=(mirror q lo (lo+m) ((lo+m - lo) / 2)).map f:=rfl
 generalize mirror q lo (lo+m) ((lo+m - lo) / 2)=r at *
 generalize setArr st' (r.map f)=st2 at *
 refine wpS_bind (wpS_mono (Q:=fun c st3=>st3=st2∧∃ m,c=(none,m)∧1≤m∧m≤nrem∧SPl lt r lo m)
  (wpS_forRange (fun i c st3=>st3=st2∧c=(none,i)∧i≤nrem∧SPl lt r lo i) ?_ ?_ ⟨rfl,rfl,k2,s2⟩) ?_)
 ·rintro i c st3 hi1 hi2 ⟨rfl,rfl,hi,hs⟩
  dsimp only
  refine wpS_bind (wpS_ltAt2 hc hk2 P2 ha2 (by lia) (by lia) ?_)
  dsimp only
  cases e:lt (r.getD (lo+i) 0) (r.getD (lo+i - 1) 0) with
  | true =>
   rw [if_pos rfl]
   exact wpS_pure ⟨rfl,i,rfl,by lia,hi,hs⟩
  | false =>
   rw [if_neg (by simp)]
   exact wpS_pure ⟨rfl,rfl,by lia,hs.snoc L P2 (by lia) (by lia) e⟩
 ·rintro c st3 ⟨rfl,rfl,hi,hs⟩
  have e:max m nrem=nrem:=by lia
  rw [e] at hs ⊢
  exact ⟨rfl,nrem,rfl,by lia,by lia,hs⟩
 ·rintro c st3 ⟨rfl,m',rfl,j1,j2,hs⟩
  exact wpS_pure (h m' _ j1 j2 ⟨r,I2.st,I2.pm,I2.bef,hs⟩)
theorem crDesc_ok (hc:Asks prog w A s κ f n lt) (L:LtOk n lt) (hk:kindOf st=κ) (hp:p.Perm (List.range n).toArray) {lo nrem:Nat} (hn:lo+nrem=n) {q:Array Nat} {st':SortSt} (I:CrI n f lo p st q st') {m:Nat} (k1:1≤m) (k2:m < nrem) (hd:DPl lt q lo (m+1)) {Q:Option Nat→SortSt→Prop}
  (h:∀ m st',1≤m→m≤nrem→RunQ n lt f lo p st m st'→Q (some m) st'):wpS (model prog w) A E s (crDesc lo nrem m) Q st':=by
 unfold crDesc
 refine wpS_bind (wpS_lift (wpAny_rule ⟨rfl,?_⟩))
 refine wpS_bind (wpS_mono (Q:=fun c st2=>∃ q m neq,c=(none,m,neq)∧CrI n f lo p st q st2∧2≤m∧m≤nrem∧neq+1≤m∧DPl lt q lo m∧EPl lt q (lo+m - (neq+1)) (lo+m))
  (wpS_forRange (fun i c st2=>∃ q neq,c=(none,i,neq)∧CrI n f lo p st q st2∧i≤nrem∧neq+1≤i∧DPl lt q lo i∧EPl lt q (lo+i - (neq+1)) (lo+i)) ?_ ?_ ⟨q,0,rfl,I,by lia,by lia,hd,fun i j a b c d=>?_⟩) ?_)
 ·rintro i c st2 hi1 hi2 ⟨q,neq,rfl,I,hi,hq,hd,he⟩
  have P:=PermOk.of (I.pm.trans hp)
  have ha:arrOf st2=q.map f:=by rw [I.st]
  have hk2:kindOf st2=κ:=by rw [I.st]; exact hk
  dsimp only
  refine wpS_bind (wpS_ltAt2 hc hk2 P ha (by lia) (by lia) ?_)
  dsimp only
  cases e:lt (q.getD (lo+i) 0) (q.getD (lo+i - 1) 0) with
  | true =>
   rw [if_pos rfl]
   have e1:=L.as _ _ (P.lt _ (by lia)) (P.lt _ (by lia)) e
   have one:∀ r:Array Nat,EPl lt r (lo+(i+1) - (0+1)) (lo+(i+1))↔lt (r.getD (lo+i) 0) (r.getD (lo+i) 0)=false:=fun r=>⟨fun z=>z _ _ (by lia) (by lia) (by lia) (by lia),fun z a b c d e' f'=>by
    rw [show a=lo+i by lia,show b=lo+i by lia]
    exact z⟩
   have irr:∀ x,x < n→lt x x=false:=fun x hx=>by
    cases z:lt x x with
    | false=>rfl
    | true=>rw [← z]; exact L.as x x hx hx z
   by_cases hz:neq > 0
   ·rw [if_pos hz]
    refine wpS_bind (wpS_rev ha ?_)
    have hb:lo+i≤q.size:=by rw [P.sz]; lia
    have I2:=I.rev (a:=lo+i - (neq+1)) hb (by lia)
    have d2:=rev_DPl (lt:=lt) (a:=lo+i - (neq+1)) hb (by lia) (Nat.le_refl _) he hd
    have g:∀ k,(mirror q (lo+i - (neq+1)) (lo+i) ((lo+i - (lo+i - (neq+1))) / 2)).getD k 0=if lo+i - (neq+1)≤k∧k < lo+i then q.getD (lo+i - (neq+1)+(lo+i) - 1 - k) 0 else q.getD k 0:=fun k=>mirror_getD hb k
    have P2:=PermOk.of (I2.pm.trans hp)
    generalize mirror q (lo+i - (neq+1)) (lo+i) ((lo+i - (lo+i - (neq+1))) / 2)=r at *
    refine wpS_pure ⟨r,0,rfl,I2,by lia,by lia,?_,(one r).mpr (irr _ (P2.lt _ (by lia)))⟩
    refine d2.snoc2 L P2 (by lia) (by lia) ?_
    rw [g (lo+i),if_neg (by lia),g (lo+i - 1),if_pos (by lia)]
    exact L.tr _ _ _ (P.lt _ (by lia)) (P.lt _ (by lia)) (P.lt _ (by lia)) e1 (he _ _ (by lia) (by lia) (by lia) (by lia))
   ·rw [if_neg hz]
    exact wpS_pure ⟨q,0,rfl,I,by lia,by lia,hd.snoc2 L P (by lia) (by lia) e1,(one q).mpr (irr _ (P.lt _ (by lia)))⟩
  | false =>
   rw [if_neg (by simp)]
   refine wpS_bind (wpS_ltAt2 hc hk2 P ha (by lia) (by lia) ?_)
   dsimp only
   cases e2:lt (q.getD (lo+i - 1) 0) (q.getD (lo+i) 0) with
   | true =>
    rw [if_pos rfl]
    exact wpS_pure ⟨q,i,neq,rfl,I,by lia,hi,hq,hd,he⟩
   | false =>
    rw [if_neg (by simp)]
    refine wpS_pure ⟨q,neq+1,rfl,I,by lia,by lia,hd.snoc2 L P (by lia) (by lia) e2,fun a b c d c' d'=>?_⟩
    have irr:∀ x,x < n→lt x x=false:=fun x hx=>by
     cases z:lt x x with
     | false=>rfl
     | true=>rw [← z]; exact L.as x x hx hx z
    have lst:∀ a,lo+(i+1) - (neq+1+1)≤a→a < lo+i→lt (q.getD a 0) (q.getD (lo+i) 0)=false∧lt (q.getD (lo+i) 0) (q.getD a 0)=false:=fun a x y =>
     ⟨L.tr _ _ _ (P.lt _ (by lia)) (P.lt (lo+i - 1) (by lia)) (P.lt _ (by lia)) e2 (he _ _ (by lia) (by lia) (by lia) (by lia)),L.tr _ _ _ (P.lt _ (by lia)) (P.lt (lo+i - 1) (by lia)) (P.lt _ (by lia)) (he _ _ (by lia) (by lia) (by lia) (by lia)) e⟩
    by_cases ea:a=lo+i
    ·rw [ea]
     by_cases eb:b=lo+i
     ·rw [eb]; exact irr _ (P.lt _ (by lia))
     ·exact (lst b c' (by lia)).2
    ·by_cases eb:b=lo+i
     ·rw [eb]; exact (lst a c (by lia)).1
     ·exact he _ _ (by lia) (by lia) (by lia) (by lia)
 ·rintro c st2 ⟨q,neq,rfl,I,hi,hq,hd,he⟩
  have e:max (m+1) nrem=nrem:=by lia
  rw [e] at hd he hq ⊢
  exact ⟨q,nrem,neq,rfl,I,by lia,by lia,hq,hd,he⟩
 ·have P:=PermOk.of (I.pm.trans hp)
  have ij:i=lo+m∧j=lo+m:=by lia
  rw [ij.1,ij.2]
  cases z:lt (q.getD (lo+m) 0) (q.getD (lo+m) 0) with
  | false=>rfl
  | true=>rw [← z]; exact L.as _ _ (P.lt _ (by lia)) (P.lt _ (by lia)) z
 ·rintro c st2 ⟨q,m,neq,rfl,I,j1,j2,hq,hd,he⟩
  dsimp only
  have P:=PermOk.of (I.pm.trans hp)
  have ha:arrOf st2=q.map f:=by rw [I.st]
  by_cases hz:neq > 0
  ·rw [if_pos hz]
   refine wpS_bind (wpS_rev ha ?_)
   have hb:lo+m≤q.size:=by rw [P.sz]; lia
   exact crAsc_ok hc L hk hp hn (I.rev (a:=lo+m - (neq+1)) hb (by lia)) j1 j2 (rev_DPl (lt:=lt) (a:=lo+m - (neq+1)) hb (by lia) (Nat.le_refl _) he hd) h
  ·rw [if_neg hz]
   exact crAsc_ok hc L hk hp hn I j1 j2 hd h
theorem count_ok (hc:Asks prog w A s κ f n lt) (L:LtOk n lt) (hk:kindOf st=κ) (hp:p.Perm (List.range n).toArray) (ha:arrOf st=p.map f) {lo nrem:Nat} (h1:1≤nrem) (hn:lo+nrem=n) {Q:Option Nat→SortSt→Prop}
  (h:∀ m st',1≤m→m≤nrem→RunQ n lt f lo p st m st'→Q (some m) st'):wpS (model prog w) A E s (countRun' lo nrem) Q st:=by
 have P:=PermOk.of hp
 rw [countRun'_eq2]
 dsimp only
 refine wpS_bind (wpS_mono (Q:=fun c st'=>st'=st∧∃ m,c=(none,m)∧1≤m∧m≤nrem∧SPl lt p lo m∧(m < nrem→lt (p.getD (lo+m) 0) (p.getD (lo+m - 1) 0)=true))
  (wpS_forRange (fun i c st'=>st'=st∧c=(none,i)∧i≤nrem∧SPl lt p lo i) ?_ ?_ ⟨rfl,rfl,h1,fun i j h0 hi hj=>by lia⟩) ?_)
 ·rintro i c st' hi1 hi2 ⟨rfl,rfl,hi,hs⟩
  dsimp only
  refine wpS_bind (wpS_ltAt2 hc hk P ha (by lia) (by lia) ?_)
  dsimp only
  cases e:lt (p.getD (lo+i) 0) (p.getD (lo+i - 1) 0) with
  | true =>
   rw [if_pos rfl]
   exact wpS_pure ⟨rfl,i,rfl,hi1,hi,hs,fun _=>e⟩
  | false =>
   rw [if_neg (by simp)]
   exact wpS_pure ⟨rfl,rfl,by lia,hs.snoc L P (by lia) hi1 e⟩
 ·rintro c st' ⟨rfl,rfl,hi,hs⟩
  have e:max 1 nrem=nrem:=by lia
  rw [e] at hs ⊢
  exact ⟨rfl,nrem,rfl,h1,by lia,hs,fun z=>by lia⟩
 ·rintro c st' ⟨rfl,m,rfl,m1,m2,hs,hl⟩
  dsimp only
  have same:RunQ n lt f lo p st' m st':=⟨p,(setArr_same ha).symm,.refl _,fun _ _=>rfl,hs⟩
  have I0:CrI n f lo p st' p st':=⟨(setArr_same ha).symm,.refl _,fun _ _=>rfl⟩
  by_cases hm:m=nrem
  ·rw [if_pos (beq_iff_eq.mpr hm)]
   exact wpS_pure (h m st' m1 m2 same)
  ·rw [if_neg (fun e=>hm (eq_of_beq e))]
   have e0:=L.as _ _ (P.lt _ (by lia)) (P.lt _ (by lia)) (hl (by lia))
   by_cases hm1:m > 1
   ·rw [if_pos hm1]
    refine wpS_bind (wpS_ltAt2 hc hk P ha (by lia) (by lia) ?_)
    dsimp only
    cases e:lt (p.getD lo 0) (p.getD (lo+m - 1) 0) with
    | true =>
     rw [if_pos rfl]
     exact wpS_pure (h m st' m1 m2 same)
    | false =>
     rw [if_neg (by simp)]
     refine wpS_bind (wpS_rev ha ?_)
     have irr:∀ x,x < n→lt x x=false:=fun x hx=>by
      cases z:lt x x with
      | false=>rfl
      | true=>rw [← z]; exact L.as x x hx hx z
     have sle:∀ i j,lo≤i→i≤j→j < lo+m→lt (p.getD j 0) (p.getD i 0)=false:=fun i j a b c=>by
      by_cases z:i=j
      ·rw [z]; exact irr _ (P.lt _ (by lia))
      ·exact hs i j a (by lia) c
     have al:EPl lt p lo (lo+m):=fun i j a b c d =>
      L.tr _ _ _ (P.lt j (by lia)) (P.lt lo (by lia)) (P.lt i (by lia)) (L.tr _ _ _ (P.lt j (by lia)) (P.lt (lo+m - 1) (by lia)) (P.lt lo (by lia)) (sle j (lo+m - 1) c (by lia) (by lia)) e) (sle lo i (Nat.le_refl lo) a b)
     have hb:lo+m≤p.size:=by rw [P.sz]; lia
     refine crDesc_ok hc L hk hp hn (I0.rev hb (Nat.le_refl lo)) m1 (by lia) (fun i j a b c=>?_) h
     rw [mirror_getD hb,mirror_getD hb,if_pos (by lia)]
     by_cases ej:j=lo+m
     ·rw [if_neg (by lia),ej]
      exact L.tr _ _ _ (P.lt _ (by lia)) (P.lt (lo+m - 1) (by lia)) (P.lt _ (by lia)) e0 (al _ _ (by lia) (by lia) (by lia) (by lia))
     ·rw [if_pos (by lia)]
      exact al _ _ (by lia) (by lia) (by lia) (by lia)
   ·rw [if_neg hm1]
    have:m=1:=by lia
    subst this
    refine crDesc_ok hc L hk hp hn I0 (Nat.le_refl 1) (by lia) (fun i j a b c=>?_) h
    rw [show i=lo by lia,show j=lo+1 by lia]
    exact e0
theorem bubble_getD {src d:Nat} (hs:src < p.size) (hd:d≤src) (k:Nat):(bubble p src d).getD k 0=if k=src - d then p.getD src 0 else if src - d < k∧k≤src then p.getD (k - 1) 0 else p.getD k 0:=by
 rw [getD_eq,getElem?_bubble hs d hd k]
 by_cases h1:k=src - d
 ·rw [if_pos h1,if_pos h1,getD_eq]
 ·rw [if_neg h1,if_neg h1]
  by_cases h2:src - d < k∧k≤src
  ·rw [if_pos h2,if_pos h2,getD_eq]
  ·rw [if_neg h2,if_neg h2,getD_eq]
theorem bubble_SPl {lo k l:Nat} (hz:lo+k < p.size) (hl:l≤k) (hs:SPl lt p lo k) (c:∀ i,i < l→lt (p.getD (lo+k) 0) (p.getD (lo+i) 0)=false) (d:∀ i,l≤i→i < k→lt (p.getD (lo+i) 0) (p.getD (lo+k) 0)=false) :
  SPl lt (bubble p (lo+k) (lo+k - (lo+l))) lo (k+1):=fun i j h0 hi hj=>by
 have G:=bubble_getD (p:=p) (src:=lo+k) (d:=lo+k - (lo+l)) hz (by lia)
 rw [G i,G j,show lo+k - (lo+k - (lo+l))=lo+l by lia]
 by_cases i1:i=lo+l
 ·rw [if_pos i1,if_neg (by lia),if_pos (by lia)]
  have:=d (j - 1 - lo) (by lia) (by lia)
  rw [show lo+(j - 1 - lo)=j - 1 by lia] at this
  exact this
 ·rw [if_neg i1]
  by_cases j1:j=lo+l
  ·rw [if_pos j1,if_neg (by lia)]
   have:=c (i - lo) (by lia)
   rw [show lo+(i - lo)=i by lia] at this
   exact this
  ·rw [if_neg j1]
   by_cases i2:lo+l < i
   ·rw [if_pos (by lia),if_pos (by lia)]
    exact hs (i - 1) (j - 1) (by lia) (by lia) (by lia)
   ·rw [if_neg (show ¬ (lo+l < i∧i≤lo+k) by lia)]
    by_cases j2:lo+l < j
    ·rw [if_pos (by lia)]
     exact hs i (j - 1) (by lia) (by lia) (by lia)
    ·rw [if_neg (by lia)]
     exact hs i j (by lia) hi (by lia)
theorem bin_ok (hc:Asks prog w A s κ f n lt) (L:LtOk n lt) (hk:kindOf st=κ) (hp:p.Perm (List.range n).toArray) (ha:arrOf st=p.map f) {lo ok m:Nat} (h1:1≤ok) (hm:ok≤m) (hn:lo+m≤n) (hs:SPl lt p lo ok) {Q:Bool→SortSt→Prop}
  (h:∀ st',RunQ n lt f lo p st m st'→Q true st'):wpS (model prog w) A E s (binarySort' lo m ok) Q st:=by
 rw [binarySort'_eq]
 dsimp only
 have e1:max ok 1=ok:=by lia
 rw [e1]
 refine wpS_bind (wpS_forRange (fun k c st'=>c=(none,())∧RunQ n lt f lo p st k st') ?_ ?_ ⟨rfl,p,(setArr_same ha).symm,.refl _,fun _ _=>rfl,hs⟩)
 ·rintro k c st' hk1 hk2 ⟨rfl,q,rfl,hq,bef,hs⟩
  have P:=PermOk.of (hq.trans hp)
  refine wpS_bind (wpS_mono (Q:=fun c st'=>st'=setArr st (q.map f)∧∃ l r,c=(none,l,r)∧l≤k∧(∀ i,i < l→lt (q.getD (lo+k) 0) (q.getD (lo+i) 0)=false)∧(∀ i,l≤i→i < k→lt (q.getD (lo+i) 0) (q.getD (lo+k) 0)=false))
   (wpS_forRange (fun j c st'=>st'=setArr st (q.map f)∧∃ l r,c=(none,l,r)∧l≤r∧r≤k∧r - l≤k - j∧(∀ i,i < l→lt (q.getD (lo+k) 0) (q.getD (lo+i) 0)=false)∧(∀ i,r≤i→i < k→lt (q.getD (lo+i) 0) (q.getD (lo+k) 0)=false)) ?_ ?_ ⟨rfl,0,k,rfl,by lia,by lia,by lia,fun i hi=>by lia,fun i h1 h2=>by lia⟩) ?_)
  ·rintro j c st' - hj ⟨rfl,l,r,rfl,a1,a2,a3,a4,a5⟩
   dsimp only
   by_cases hlr:l ≥ r
   ·rw [if_pos hlr]
    have:l=r:=by lia
    subst this
    exact wpS_pure ⟨rfl,_,_,rfl,a2,a4,a5⟩
   ·rw [if_neg hlr]
    refine wpS_bind (wpS_ltAt2 (st:=setArr st (q.map f)) hc hk P rfl (by lia) (by lia) ?_)
    dsimp only
    cases e:lt (q.getD (lo+k) 0) (q.getD (lo+(l+r) / 2) 0) with
    | true =>
     rw [if_pos rfl]
     have e:=L.as _ _ (P.lt _ (by lia)) (P.lt _ (by lia)) e
     refine wpS_pure ⟨rfl,_,_,rfl,by lia,by lia,by lia,a4,fun i b1 b2=>?_⟩
     by_cases z:i=(l+r) / 2
     ·rw [z]; exact e
     ·exact L.tr _ _ _ (P.lt _ (by lia)) (P.lt _ (by lia)) (P.lt _ (by lia)) e (hs (lo+(l+r) / 2) (lo+i) (by lia) (by lia) (by lia))
    | false =>
     rw [if_neg (by simp)]
     have l1:=e
     refine wpS_pure ⟨rfl,_,_,rfl,by lia,by lia,by lia,fun i b1=>?_,a5⟩
     by_cases z:i=(l+r) / 2
     ·rw [z]; exact l1
     ·exact L.tr _ _ _ (P.lt _ (by lia)) (P.lt _ (by lia)) (P.lt _ (by lia)) (hs (lo+i) (lo+(l+r) / 2) (by lia) (by lia) (by lia)) l1
  ·rintro c st' ⟨rfl,l,r,rfl,a1,a2,a3,a4,a5⟩
   have:l=r:=by lia
   subst this
   exact ⟨rfl,_,_,rfl,a2,a4,a5⟩
  ·rintro c st' ⟨rfl,l,r,rfl,a2,a4,a5⟩
   dsimp only
   refine wpS_bind (wpS_down (st:=setArr st (q.map f)) rfl (wpS_pure ⟨rfl,_,rfl,(bubble_perm _ _ _).trans hq,fun i hi=>?_,?_⟩))
   ·rw [bubble_getD (by rw [P.sz]; lia) (by lia),if_neg (by lia),if_neg (by lia)]
    exact bef i hi
   ·exact bubble_SPl (by rw [P.sz]; lia) a2 hs a4 a5
 ·rintro c st' ⟨rfl,hr⟩
  rw [show max ok m=m by lia] at hr
  exact wpS_pure (h st' hr)
end
end L2
namespace L2
open PySem PySem.W PyProof.Rows
theorem mergeAt'_eq (i:Nat):mergeAt' i=(do
 let s ← get
 let (some (sa,na,power),some (sb,nb,_)):=((pendingOf s)[i]?,(pendingOf s)[i+1]?) | unsupported "internal:list.sort.pending"
 set (setPending s (((pendingOf s).setIfInBounds i (sa,na+nb,power)).eraseIdxIfInBounds (i+1)))
 let some k ← gallop' false (← elem' (arrOf s) sb) (arrOf s) sa na 0 | return false
 let (sa,na):=(sa+k,na - k)
 if na == 0 then return true
 let some nb ← gallop' true (← elem' (arrOf s) (sa+na - 1)) (arrOf s) sb nb (nb - 1) | return false
 if nb == 0 then return true
 let x:=(arrOf s).extract sa sb
 let y:=(arrOf s).extract sb (sb+nb)
 let merged ← if na≤nb then mergeLo' x y else mergeHi' x y
 modify fun s=>setArr s (merged.toList.zipIdx.foldl (fun a (p,j)=>a.setIfInBounds (sa+j) p) (arrOf s))
 return (failedOf (← get)).isNone):=rfl
section
variable {prog:Program} {w:World} {A:Around} {E:Value→Shared→Prop} {s:Shared} {κ:SortKind} {f:Nat→Keyed} {n:Nat} {lt:Nat→Nat→Bool} {st:SortSt}
theorem wpS_set {M:Model} {σ:Type} {x st:σ} {Q:PUnit→σ→Prop} (h:Q ⟨⟩ x):wpS M A E s (set x:StateT σ Sem PUnit) Q st:=by
 unfold wpS; rw [StateT.run_set]; exact wpAny_pure ⟨rfl,h⟩
noncomputable def enc:Nat→List (List Nat × Nat)→List (Nat × Nat × Nat)
 | _,[]=>[]
 | k,(r,p) :: t=>(k,r.length,p) :: enc (k+r.length) t
noncomputable def flat (rp:List (List Nat × Nat)):List Nat:=(rp.map (·.1)).flatten
theorem flat_app (a b:List (List Nat × Nat)):flat (a++b)=flat a++flat b:=by simp [flat]
theorem flat_cons (r:List Nat) (p:Nat) (t:List (List Nat × Nat)):flat ((r,p) :: t)=r++flat t:=by simp [flat]
theorem enc_app:∀ (a b:List (List Nat × Nat)) (k:Nat),enc k (a++b)=enc k a++enc (k+(flat a).length) b
 | [],b,k=>by simp [enc,flat]
 | (r,p) :: t,b,k=>by
  rw [List.cons_append,enc,enc,enc_app t b,flat_cons,List.length_append,Nat.add_assoc]
  rfl
theorem enc_len:∀ (a:List (List Nat × Nat)) (k:Nat),(enc k a).length=a.length
 | [],k=>rfl
 | (r,p) :: t,k=>by rw [enc,List.length_cons,enc_len t,List.length_cons]
structure RunsOk (n:Nat) (lt:Nat→Nat→Bool) (κ:SortKind) (f:Nat→Keyed) (rp:List (List Nat × Nat)) (rest:List Nat) (st:SortSt):Prop where
 kd:kindOf st=κ
 arr:arrOf st=ar f (flat rp++rest)
 pd:pendingOf st=(enc 0 rp).toArray
 fl:failedOf st=none
 pm:(flat rp++rest).Perm (List.range n)
 up:∀ r∈rp,Up lt r.1∧r.1≠[]
theorem fold_set:∀ (X Y P S:List Nat) (b k:Nat),Y.length=X.length→b+k=P.length →
  ((Y.map f).zipIdx k).foldl (fun a x=>a.setIfInBounds (b+x.snd) x.fst) (ar f (P++(X++S)))=ar f (P++(Y++S))
 | [],[],P,S,b,k,_,_=>by simp
 | x :: X,[],P,S,b,k,h,_=>by simp at h
 | [],y :: Y,P,S,b,k,h,_=>by simp at h
 | x :: X,y :: Y,P,S,b,k,h,hb=>by
  rw [List.map_cons,List.zipIdx_cons,List.foldl_cons]
  have e:(ar f (P++(x :: X++S))).setIfInBounds (b+k) (f y)=ar f (P++[y]++(X++S)):=by
   rw [hb]
   simp [ar]
  show List.foldl _ ((ar f (P++(x :: X++S))).setIfInBounds (b+k) (f y)) _=_
  rw [e,fold_set X Y (P++[y]) S b (k+1) (by simpa using h) (by simp; lia)]
  simp
theorem mergeAt_ok (hc:Asks prog w A s κ f n lt) (L:LtOk n lt) {pre post:List (List Nat × Nat)} {r1 r2:List Nat} {p1 p2:Nat} {rest:List Nat} (R:RunsOk n lt κ f (pre++(r1,p1) :: (r2,p2) :: post) rest st) {i:Nat} (hi:i=pre.length) {Q:Bool→SortSt→Prop}
  (h:∀ r' st',RunsOk n lt κ f (pre++(r',p1) :: post) rest st'→Q true st'):wpS (model prog w) A E s (mergeAt' i) Q st:=by
 obtain ⟨kd,arr,pd,fl,pm,up⟩:=R
 obtain ⟨u1,ne1⟩:=up (r1,p1) (by simp)
 obtain ⟨u2,ne2⟩:=up (r2,p2) (by simp)
 have upp:∀ r∈pre,Up lt r.1∧r.1≠[]:=fun r hr=>up r (by simp [hr])
 have upq:∀ r∈post,Up lt r.1∧r.1≠[]:=fun r hr=>up r (by simp [hr])
 clear up
 dsimp only at u1 ne1 u2 ne2
 have eT:flat (pre++(r1,p1) :: (r2,p2) :: post)++rest=flat pre++(r1++(r2++(flat post++rest))):=by
  rw [flat_app,flat_cons,flat_cons]
  simp
 rw [eT] at arr pm
 have eP:enc 0 (pre++(r1,p1) :: (r2,p2) :: post)=enc 0 pre++((flat pre).length,r1.length,p1) :: ((flat pre).length+r1.length,r2.length,p2) :: enc ((flat pre).length+r1.length+r2.length) post:=by
  rw [enc_app,enc,enc,Nat.zero_add]
 have eN:∀ r':List Nat,r'.length=r1.length+r2.length→enc 0 (pre++(r',p1) :: post)=enc 0 pre++((flat pre).length,r1.length+r2.length,p1) :: enc ((flat pre).length+r1.length+r2.length) post:=fun r' hr=>by
  rw [enc_app,enc,Nat.zero_add,hr,Nat.add_assoc]
 have eF:∀ r':List Nat,flat (pre++(r',p1) :: post)++rest=flat pre++(r'++(flat post++rest)):=fun r'=>by
  rw [flat_app,flat_cons]
  simp
 rw [eP] at pd
 have hil:i=(enc 0 pre).length:=by rw [enc_len]; exact hi
 generalize flat pre=L0 at arr pm pd eN eF
 generalize flat post++rest=L1 at arr pm eF
 have nd:(L0++(r1++(r2++L1))).Nodup:=pm.nodup_iff.mpr List.nodup_range
 have mem:∀ x∈L0++(r1++(r2++L1)),x < n:=fun x hx=>by simpa using pm.mem_iff.mp hx
 have m1:∀ x∈r1,x < n:=fun x hx=>mem x (by simp [hx])
 have m2:∀ x∈r2,x < n:=fun x hx=>mem x (by simp [hx])
 have dis:∀ x∈r1,x∉r2:=fun x hx hy=>by
  have:=(List.nodup_append.mp (List.nodup_append.mp nd).2.1).2.2 x hx x (List.mem_append_left _ hy)
  exact this rfl
 have fin:∀ r' g,r'.Perm (r1++r2)→Up lt r'→RunsOk n lt κ f (pre++(r',p1) :: post) rest (SortSt.mk' (kindOf st) (ar f (L0++(r'++L1))) (enc 0 pre++(L0.length,r1.length+r2.length,p1) :: enc (L0.length+r1.length+r2.length) post).toArray g (failedOf st)):=fun r' g hp hu=>{
  kd:=kd
  arr:=by rw [eF]
  pd:=by
   rw [eN r' (by rw [hp.length_eq]; simp)]
  fl:=fl
  pm:=by
   rw [eF]
   refine List.Perm.trans ?_ pm
   rw [← List.append_assoc r1]
   exact (hp.append_right L1).append_left L0
  up:=fun r hr=>by
   rcases List.mem_append.mp hr with hr | hr
   ·exact upp r hr
   ·rcases List.mem_cons.mp hr with rfl | hr
    ·exact ⟨hu,fun e=>by
      have hr':r'=[]:=e
      subst hr'
      exact ne1 (List.append_eq_nil_iff.mp hp.nil_eq.symm).1⟩
    ·exact upq r hr }
 rw [mergeAt'_eq]
 dsimp only
 refine wpS_bind (wpS_get ?_)
 have g1:(pendingOf st)[i]?=some (L0.length,r1.length,p1):=by rw [pd,hil]; simp
 have g2:(pendingOf st)[i+1]?=some (L0.length+r1.length,r2.length,p2):=by rw [pd,hil]; simp
 rw [g1,g2]
 dsimp only
 have pd2:((pendingOf st).setIfInBounds i (L0.length,r1.length+r2.length,p1)).eraseIdxIfInBounds (i+1)=(enc 0 pre++(L0.length,r1.length+r2.length,p1) :: enc (L0.length+r1.length+r2.length) post).toArray:=by
  rw [pd,hil]
  simp [List.eraseIdx_append]
  intro h
  lia
 rw [pd2]
 refine wpS_bind (wpS_set (wpS_bind ?_))
 obtain ⟨b0,r2',hb0⟩:∃ b r,r2=b :: r:=by
  cases r2 with
  | nil=>exact absurd rfl ne2
  | cons b r=>exact ⟨b,r,rfl⟩
 have b0m:b0∈r2:=by rw [hb0]; simp
 have kd2:∀ {pe:Array (Nat × Nat × Nat)},kindOf (setPending st pe)=κ:=kd
 rw [arr]
 refine get_last (x:=b0) (pre:=L0++r1) (post:=r2'++L1) (by rw [hb0]; simp) (by simp) (wpS_bind ?_)
 refine gallop_list hc L kd2 m1 (m2 b0 b0m) u1 (List.length_pos_iff.mpr ne1) rfl rfl fun l1 l2 el c1 _ _ c2=>?_
 have c2:=c2 rfl
 dsimp only
 have lr:r1.length=l1.length+l2.length:=by rw [el]; simp
 have ul:=List.pairwise_append.mp (el ▸ u1)
 have low1:∀ x∈l1,∀ y∈r2,lt y x=false:=fun x hx=>by
  rw [hb0]
  exact up_head L (m1 x (by rw [el]; simp [hx])) (by rw [← hb0]; exact m2) (hb0 ▸ u2) (c1 x hx)
 by_cases hz:l2=[]
 ·rw [if_pos (by simp [lr,hz])]
  refine wpS_pure (h (r1++r2) _ ?_)
  have e:=fin (r1++r2) (gallopOf st) (.refl _) (List.pairwise_append.mpr ⟨u1,u2,fun x hx y hy=>low1 x (by rw [el,hz] at hx; simpa using hx) y hy⟩)
  rw [List.append_assoc,← arr] at e
  exact e
 ·have l2p:1≤l2.length:=List.length_pos_iff.mpr hz
  rw [if_neg (fun e=>by have:=eq_of_beq e; lia)]
  obtain ⟨l2',z,ez⟩:=conc l2p
  have l2l:l2.length=l2'.length+1:=by rw [ez]; simp
  have zm:z∈r1:=by rw [el,ez]; simp
  have zl:z∈l2:=by rw [ez]; simp
  refine wpS_bind (get_last (pre:=L0++l1++l2') (post:=r2++L1) (x:=z) (by rw [el,ez]; simp) (by simp; lia) (wpS_bind ?_))
  rw [← List.append_assoc L0 r1]
  refine gallop_list hc L kd2 m2 (m1 z zm) u2 (by have:=List.length_pos_iff.mpr ne2; lia) (by simp) rfl fun q1 q2 eq _ d2 d1 _=>?_
  have d1:=d1 rfl
  dsimp only
  have b0z:lt b0 z=true:=c2 z zl
  have bq:∃ q1',q1=b0 :: q1':=by
   cases q1 with
   | nil =>
    exfalso
    have:lt b0 z=false:=d2 b0 (by rw [List.nil_append] at eq; rw [← eq]; exact b0m)
    rw [this] at b0z
    cases b0z
   | cons u q1' =>
    rw [hb0] at eq
    exact ⟨q1',by rw [(List.cons.inj eq).1]⟩
  obtain ⟨q1',eq1⟩:=bq
  have q1p:1≤q1.length:=by rw [eq1]; simp
  rw [if_neg (fun e=>by have:=eq_of_beq e; lia)]
  have ex1:(ar f (L0++r1++(r2++L1))).extract (L0.length+l1.length) (L0.length+r1.length)=ar f l2:=by
   have:L0++r1++(r2++L1)=(L0++l1)++(l2++(r2++L1)):=by rw [el]; simp
   rw [this]
   exact ar_mid _ _ _ (by simp) (by simp; lia)
  have ex2:(ar f (L0++r1++(r2++L1))).extract (L0.length+r1.length) (L0.length+r1.length+q1.length)=ar f q1:=by
   have:L0++r1++(r2++L1)=(L0++r1)++(q1++(q2++L1)):=by rw [eq]; simp
   rw [this]
   exact ar_mid _ _ _ (by simp) (by simp)
  rw [ex1,ex2]
  have uq:=List.pairwise_append.mp (eq ▸ u2)
  have C:MgC n lt l2 q1:={
   L:=L
   ha:=fun x hx=>m1 x (by rw [el]; simp [hx])
   hb:=fun x hx=>m2 x (by rw [eq]; simp [hx])
   nd:=fun x hx hy=>dis x (by rw [el]; simp [hx]) (by rw [eq]; simp [hy])
   ua:=ul.2.1
   ub:=uq.1 }
  have lowz:∀ x∈l2,∀ y∈q2,lt y x=false:=fun x hx y hy=>by
   have ym:=m2 y (by rw [eq]; simp [hy])
   exact up_last L ym (fun v hv=>C.ha v (ez ▸ hv)) (ez ▸ ul.2.1) (d2 y hy) x (ez ▸ hx)
  have fin2:∀ r g,MgQ lt f l2 q1 r→wpS (model prog w) A E s (do
    modify fun s=>setArr s (List.foldl (fun a x=>a.setIfInBounds (L0.length+l1.length+x.snd) x.fst) (arrOf s) r.toList.zipIdx)
    let __do_lift ← get
    pure (failedOf __do_lift).isNone) Q (setGal (setPending st (enc 0 pre++(L0.length,r1.length+r2.length,p1) :: enc (L0.length+r1.length+r2.length) post).toArray) g):=fun r g hr=>by
   obtain ⟨Y,rfl,hY,uY⟩:=hr
   refine wpS_bind (wpS_modify (wpS_bind (wpS_get (wpS_pure ?_))))
   have hfl:(failedOf st).isNone=true:=by rw [fl]; rfl
   show Q (failedOf st).isNone _
   rw [hfl]
   refine h (l1++(Y++q2)) _ ?_
   have e:=fin (l1++(Y++q2)) g ?_ ?_
   ·have fs:=fold_set (f:=f) (l2++q1) Y (L0++l1) (q2++L1) (L0.length+l1.length) 0 hY.length_eq (by simp)
    have ea:arrOf st=ar f (L0++l1++(l2++q1++(q2++L1))):=by rw [arr,el,eq]; simp
    rw [← ea] at fs
    have eb:L0++l1++(Y++(q2++L1))=L0++(l1++(Y++q2)++L1):=by simp
    rw [eb] at fs
    rw [← fs] at e
    exact e
   ·rw [el,eq,List.append_assoc,← List.append_assoc l2]
    exact (hY.append_right q2).append_left l1
   ·refine List.pairwise_append.mpr ⟨ul.1,List.pairwise_append.mpr ⟨uY,uq.2.1,fun x hx y hy=>?_⟩,fun x hx y hy=>?_⟩
    ·rcases List.mem_append.mp (hY.mem_iff.mp hx) with hx | hx
     ·exact lowz x hx y hy
     ·exact uq.2.2 x hx y hy
    ·rcases List.mem_append.mp hy with hy | hy
     ·rcases List.mem_append.mp (hY.mem_iff.mp hy) with hy | hy
      ·exact ul.2.2 x hx y hy
      ·exact low1 x hx y (by rw [eq]; simp [hy])
     ·exact low1 x hx y (by rw [eq]; simp [hy])
  by_cases hle:r1.length - l1.length≤q1.length
  ·rw [if_pos hle]
   exact wpS_bind (mergeLo_ok hc C d1 ⟨l2',ez⟩ kd2 eq1 c2 fin2)
  ·rw [if_neg hle]
   exact wpS_bind (mergeHi_ok hc C c2 eq1 kd2 ez d1 fin2)
end
end L2
namespace L2
open PySem PySem.W PyProof.Rows
noncomputable def srPush (size lo n:Nat):StateT SortSt Sem (ForInStep (Option Unit × Nat)):=do
 let g ← get
 match (pendingOf g).back? with
 | some (s1,n1,_)=>do
  let r ← forIn [0:size] ((none,()):Option Unit × Unit) fun _ _=>do
   let g ← get
   match (if (pendingOf g).size > 1 then (pendingOf g)[(pendingOf g).size - 2]? else none) with
   | some (_,_,older) =>
    if older≤power' size (2 * s1+n1) (2 * s1+n1+n1+n) size then pure (.done (none,()))
    else do
     let b ← mergeAt' ((pendingOf g).size - 2)
     if !b then pure (.done (some (),())) else pure (.yield (none,()))
   | _=>pure (.done (none,()))
  match r.fst with
  | some r=>pure (.done (some r,lo))
  | none=>do
   modify fun s=>setPending s ((pendingOf s).modify ((pendingOf s).size - 1) fun x=>(x.fst,x.2.fst,power' size (2 * s1+n1) (2 * s1+n1+n1+n) size))
   modify fun s=>setPending s ((pendingOf s).push (lo,n,0))
   pure (.yield (none,lo+n))
 | _=>do
  modify fun s=>setPending s ((pendingOf s).push (lo,n,0))
  pure (.yield (none,lo+n))
section
variable {prog:Program} {w:World} {A:Around} {E:Value→Shared→Prop} {s:Shared} {κ:SortKind} {f:Nat→Keyed} {n:Nat} {lt:Nat→Nat→Bool} {st:SortSt}
theorem split_at {α:Type} {l:List α} {i:Nat} (h:i+1 < l.length):∃ pre a b post,l=pre++a :: b :: post∧i=pre.length:=by
 refine ⟨l.take i,l[i],l[i+1],l.drop (i+2),?_,by simp; lia⟩
 rw [← List.drop_eq_getElem_cons h,← List.drop_eq_getElem_cons (by lia),List.take_append_drop]
theorem RunsOk.merge (hc:Asks prog w A s κ f n lt) (L:LtOk n lt) {rp:List (List Nat × Nat)} {rest:List Nat} (R:RunsOk n lt κ f rp rest st) {i:Nat} (hi:i+1 < rp.length) {Q:Bool→SortSt→Prop}
  (h:∀ rp' st',RunsOk n lt κ f rp' rest st'→rp'.length+1=rp.length→Q true st'):wpS (model prog w) A E s (mergeAt' i) Q st:=by
 obtain ⟨pre,⟨r1,p1⟩,⟨r2,p2⟩,post,rfl,e⟩:=split_at hi
 exact mergeAt_ok hc L R e fun r' st' R'=>h _ st' R' (by simp; lia)
theorem RunsOk.len {rp:List (List Nat × Nat)} {rest:List Nat} (R:RunsOk n lt κ f rp rest st):(flat rp).length+rest.length=n:=by
 have:=R.pm.length_eq
 simpa using this
theorem modify_last {α:Type} (g:α→α) (x:α):∀ a:List α,(a++[x]).modify a.length g=a++[g x]
 | []=>rfl
 | y :: a=>congrArg (y :: ·) (modify_last g x a)
theorem enc_up (k:Nat) (pre:List (List Nat × Nat)) (r:List Nat) (p pw:Nat):((enc k (pre++[(r,p)])).toArray.modify ((enc k (pre++[(r,p)])).toArray.size - 1) fun x=>(x.fst,x.2.fst,pw))=(enc k (pre++[(r,pw)])).toArray:=by
 rw [enc_app,enc_app,enc,enc,enc,enc]
 apply Array.ext'
 simp [modify_last]
theorem RunsOk.push {rp:List (List Nat × Nat)} {r rest:List Nat} (R:RunsOk n lt κ f rp (r++rest) st) (u:Up lt r) (ne:r≠[]) {lo m:Nat} (hlo:lo=(flat rp).length) (hm:m=r.length):RunsOk n lt κ f (rp++[(r,0)]) rest (setPending st ((pendingOf st).push (lo,m,0))) where
 kd:=R.kd
 arr:=by
  show arrOf st=_
  rw [R.arr,flat_app,flat_cons]
  simp [flat]
 pd:=by
  show (pendingOf st).push (lo,m,0)=_
  rw [R.pd,enc_app,enc,enc,hlo,hm]
  simp
 fl:=R.fl
 pm:=by
  have:=R.pm
  rw [flat_app,flat_cons]
  simpa [flat] using this
 up:=fun x hx=>by
  rcases List.mem_append.mp hx with hx | hx
  ·exact R.up x hx
  ·rw [List.mem_singleton.mp hx]
   exact ⟨u,ne⟩
theorem RunsOk.power {pre:List (List Nat × Nat)} {r0 rest:List Nat} {p0 pw:Nat} (R:RunsOk n lt κ f (pre++[(r0,p0)]) rest st):RunsOk n lt κ f (pre++[(r0,pw)]) rest (setPending st ((pendingOf st).modify ((pendingOf st).size - 1) fun x=>(x.fst,x.2.fst,pw))) where
 kd:=R.kd
 arr:=by
  show arrOf st=_
  rw [R.arr]
  simp [flat]
 pd:=(congrArg (fun z:Array (Nat × Nat × Nat)=>z.modify (z.size - 1) fun x=>(x.fst,x.2.fst,pw)) R.pd).trans (enc_up _ _ _ _ _)
 fl:=R.fl
 pm:=by
  have:=R.pm
  simpa [flat] using this
 up:=fun x hx=>by
  rcases List.mem_append.mp hx with hx | hx
  ·exact R.up x (by simp [hx])
  ·rw [List.mem_singleton.mp hx]
   exact R.up (r0,p0) (by simp)
theorem srPush_ok (hc:Asks prog w A s κ f n lt) (L:LtOk n lt) {rp:List (List Nat × Nat)} {r rest:List Nat} (R:RunsOk n lt κ f rp (r++rest) st) (u:Up lt r) (ne:r≠[]) {size lo m:Nat} (hlo:lo=(flat rp).length) (hm:m=r.length):wpS (model prog w) A E s (srPush size lo m) (fun r st'=>r=.yield (none,lo+m)∧∃ rp',RunsOk n lt κ f rp' rest st') st:=by
 unfold srPush
 refine wpS_bind (wpS_get ?_)
 cases e:(pendingOf st).back? with
 | none=>exact wpS_bind (wpS_modify (wpS_pure ⟨rfl,_,R.push u ne hlo hm⟩))
 | some x =>
  obtain ⟨s1,n1,p1⟩:=x
  dsimp only
  have ne0:rp≠[]:=fun z=>by
   subst z
   rw [R.pd] at e
   simp [enc] at e
  refine wpS_bind (wpS_mono (Q:=fun c st'=>c=(none,())∧∃ rp',RunsOk n lt κ f rp' (r++rest) st'∧rp'≠[]) (wpS_forRange (fun _ c st'=>c=(none,())∧∃ rp',RunsOk n lt κ f rp' (r++rest) st'∧rp'≠[]) ?_ (fun c st' q=>q) ⟨rfl,rp,R,ne0⟩) ?_)
  ·rintro i c st' - - ⟨rfl,rp',R',ne'⟩
   refine wpS_bind (wpS_get ?_)
   have sz:(pendingOf st').size=rp'.length:=by rw [R'.pd,List.size_toArray,enc_len]
   by_cases h2:(pendingOf st').size > 1
   ·rw [if_pos h2]
    cases e2:(pendingOf st')[(pendingOf st').size - 2]? with
    | none=>exact wpS_pure ⟨rfl,rp',R',ne'⟩
    | some y =>
     obtain ⟨a,b,older⟩:=y
     dsimp only
     split
     ·exact wpS_pure ⟨rfl,rp',R',ne'⟩
     ·refine wpS_bind (R'.merge hc L (by lia) fun rp2 st2 R2 l2=>?_)
      rw [if_neg (by simp)]
      exact wpS_pure ⟨rfl,rp2,R2,fun z=>by subst z; simp at l2; lia⟩
   ·rw [if_neg h2]
    exact wpS_pure ⟨rfl,rp',R',ne'⟩
  ·rintro c st' ⟨rfl,rp',R',ne'⟩
   dsimp only
   obtain ⟨pre,⟨r0,p0⟩,rfl⟩:∃ pre x,rp'=pre++[x]:=by
    rcases List.eq_nil_or_concat rp' with q | ⟨l0,y,q⟩
    ·exact absurd q ne'
    ·exact ⟨l0,y,by rw [q,List.concat_eq_append]⟩
   refine wpS_bind (wpS_modify (wpS_bind (wpS_modify (wpS_pure ⟨rfl,_,(R'.power).push u ne ?_ hm⟩))))
   have l1:=R.len
   have l2:=(R'.power (pw:=0)).len
   have l3:(flat (pre++[(r0,0)])).length=(flat (pre++[(r0,p0)])).length:=by simp [flat]
   have l4:∀ pw,(flat (pre++[(r0,pw)])).length=(flat (pre++[(r0,0)])).length:=fun pw=>by simp [flat]
   rw [l4]
   lia
theorem runq_list {p:Array Nat} {F rest:List Nat} {lo m:Nat} {st':SortSt} (hp:p=(F++rest).toArray) (hlo:lo=F.length) (hm:lo+m≤(F++rest).length) (h:RunQ n lt f lo p st m st') :
  ∃ r rest',st'=setArr st (ar f (F++(r++rest')))∧(F++(r++rest')).Perm (F++rest)∧r.length=m∧SPl lt (F++(r++rest')).toArray lo m∧Up lt r:=by
 obtain ⟨q,rfl,hq,bef,hs⟩:=h
 have ql:q.toList.length=(F++rest).length:=by
  have:=hq.size_eq
  rw [hp,List.size_toArray] at this
  simpa using this
 have gd:∀ i (hi:i < q.toList.length),q.getD i 0=q.toList[i]:=fun i hi=>by
  have hz:i < q.size:=by simpa using hi
  rw [getD_eq]
  simp [hz]
 have hF:q.toList.take lo=F:=by
  apply List.ext_getElem
  ·rw [List.length_take,ql,List.length_append]
   lia
  ·intro i h1 h2
   have hi:i < q.toList.length:=by rw [ql,List.length_append]; lia
   rw [List.getElem_take,← gd i hi,bef i (by lia),hp,getD_eq]
   simp [List.getElem?_append,h2]
 have e1:q.toList=F++((q.toList.drop lo).take m++(q.toList.drop lo).drop m):=by
  rw [List.take_append_drop,← hF]
  simp
 have len1:((q.toList.drop lo).take m).length=m:=by
  rw [List.length_take,List.length_drop,ql]
  lia
 refine ⟨(q.toList.drop lo).take m,(q.toList.drop lo).drop m,?_,?_,len1,by rw [← e1]; simpa using hs,?_⟩
 ·rw [← e1]
  exact congrArg (setArr st) (Array.ext' (by simp [ar]))
 ·rw [← e1]
  have:=hq.toList
  rw [hp] at this
  simpa using this
 ·rw [Up,List.pairwise_iff_getElem]
  intro i j hi hj hij
  rw [List.getElem_take,List.getElem_take,List.getElem_drop,List.getElem_drop]
  have:=hs (lo+i) (lo+j) (by lia) (by lia) (by lia)
  rw [gd _ (by rw [ql]; lia),gd _ (by rw [ql]; lia)] at this
  exact this
theorem ar_map (l:List Nat):ar f l=l.toArray.map f:=by simp [ar]
theorem sort_all (hc:Asks prog w A s κ f n lt) (L:LtOk n lt) (h1:1≤n) (R:RunsOk n lt κ f [] (List.range n) st) {Q:Unit→SortSt→Prop}
  (h:∀ (q:List Nat) st',q.Perm (List.range n)→Up lt q→arrOf st'=ar f q→failedOf st'=none→Q () st'):wpS (model prog w) A E s sortRuns' Q st:=by
 rw [sortRuns'_eq]
 dsimp only
 refine wpS_bind (wpS_get ?_)
 have sz:(arrOf st).size=n:=by rw [R.arr,ar_size]; simp [flat]
 rw [sz]
 generalize minRun' n n 0=mr
 refine wpS_bind (wpS_mono (Q:=fun c st'=>∃ lo,c=(none,lo)∧∃ rp,RunsOk n lt κ f rp [] st') (wpS_forRange (fun k c st'=>∃ lo,c=(none,lo)∧k≤lo∧∃ rp rest,RunsOk n lt κ f rp rest st'∧lo=(flat rp).length) ?_ ?_ ⟨0,rfl,Nat.le_refl _,[],List.range n,R,rfl⟩) ?_)
 ·rintro k c st' - hk ⟨lo,rfl,hkl,rp,rest,R',hlo⟩
  have len:=R'.len
  by_cases hge:lo ≥ n
  ·rw [if_pos hge]
   have:rest=[]:=List.length_eq_zero_iff.mp (by lia)
   subst this
   exact wpS_pure ⟨lo,rfl,rp,R'⟩
  ·rw [if_neg hge]
   have hp0:((flat rp++rest).toArray).Perm (List.range n).toArray:=by
    have:=R'.pm
    exact List.Perm.toArray this
   have lenT:(flat rp++rest).length=n:=by rw [List.length_append]; exact len
   refine wpS_bind (count_ok hc L R'.kd hp0 (by rw [R'.arr,ar_map]) (by lia) (by lia) fun m st2 m1 m2 hr=>?_)
   obtain ⟨r,rest',e2,pm2,rl,rs,ru⟩:=runq_list rfl hlo (by lia) hr
   have R2:RunsOk n lt κ f rp (r++rest') st2:={
    kd:=by rw [e2]; exact R'.kd
    arr:=by rw [e2]
    pd:=by rw [e2]; exact R'.pd
    fl:=by rw [e2]; exact R'.fl
    pm:=pm2.trans R'.pm
    up:=R'.up }
   dsimp only
   by_cases hmr:m < mr
   ·rw [if_pos hmr]
    refine wpS_bind (wpS_lift (wpAny_rule ⟨rfl,?_⟩))
    have len2:=R2.len
    have hp2:((flat rp++(r++rest')).toArray).Perm (List.range n).toArray:=List.Perm.toArray R2.pm
    refine wpS_bind (bin_ok hc L R2.kd hp2 (by rw [R2.arr,ar_map]) m1 (by lia) (by lia) rs fun st3 hr3=>?_)
    rw [if_neg (by simp)]
    obtain ⟨r3,rest3,e3,pm3,rl3,-,ru3⟩:=runq_list rfl hlo (by rw [List.length_append]; lia) hr3
    have R3:RunsOk n lt κ f rp (r3++rest3) st3:={
     kd:=by rw [e3]; exact R2.kd
     arr:=by rw [e3]
     pd:=by rw [e3]; exact R2.pd
     fl:=by rw [e3]; exact R2.fl
     pm:=pm3.trans R2.pm
     up:=R2.up }
    refine Eq.mp (congrArg (fun z=>wpS (model prog w) A E s z _ _) ?eq) (wpS_mono (srPush_ok (size:=n) (E:=E) hc L R3 ru3 (fun z=>by subst z; simp at rl3; lia) hlo rl3.symm) ?_)
    case eq =>
     unfold srPush
     refine congrArg (fun z=>get >>= z) (funext fun g=>?_)
     cases (pendingOf g).back? with
     | none=>rfl
     | some x =>
      obtain ⟨a,b,c⟩:=x
      dsimp only
      refine congr (congrArg bind (congrArg (forIn [0:n] (none,())) (funext fun i=>funext fun j=>congrArg (fun z=>get >>= z) (funext fun g2=>?_)))) (funext fun r=>?_)
      ·cases (if (pendingOf g2).size > 1 then (pendingOf g2)[(pendingOf g2).size - 2]? else none) with
       | none=>rfl
       | some y=>rfl
      ·obtain ⟨r,_⟩:=r
       cases r <;> rfl
    rintro x st4 ⟨rfl,rp',R4⟩
    have l4:=R4.len
    have l3:=R3.len
    rw [List.length_append] at l3
    exact ⟨_,rfl,by lia,rp',rest3,R4,by lia⟩
   ·rw [if_neg hmr]
    refine Eq.mp (congrArg (fun z=>wpS (model prog w) A E s z _ _) ?eq) (wpS_mono (srPush_ok (size:=n) (E:=E) hc L R2 ru (fun z=>by subst z; simp at rl; lia) hlo rl.symm) ?_)
    case eq =>
     unfold srPush
     refine congrArg (fun z=>get >>= z) (funext fun g=>?_)
     cases (pendingOf g).back? with
     | none=>rfl
     | some x =>
      obtain ⟨a,b,c⟩:=x
      dsimp only
      refine congr (congrArg bind (congrArg (forIn [0:n] (none,())) (funext fun i=>funext fun j=>congrArg (fun z=>get >>= z) (funext fun g2=>?_)))) (funext fun r=>?_)
      ·cases (if (pendingOf g2).size > 1 then (pendingOf g2)[(pendingOf g2).size - 2]? else none) with
       | none=>rfl
       | some y=>rfl
      ·obtain ⟨r,_⟩:=r
       cases r <;> rfl
    rintro x st4 ⟨rfl,rp',R4⟩
    have l4:=R4.len
    have l3:=R2.len
    rw [List.length_append] at l3
    exact ⟨_,rfl,by lia,rp',rest',R4,by lia⟩
 ·rintro c st' ⟨lo,rfl,hkl,rp,rest,R',hlo⟩
  have len:=R'.len
  have:rest=[]:=List.length_eq_zero_iff.mp (by lia)
  subst this
  exact ⟨lo,rfl,rp,R'⟩
 ·rintro c st' ⟨lo,rfl,rp,R'⟩
  dsimp only
  have fin:∀ rp st',RunsOk n lt κ f rp [] st'→rp.length≤1→Q () st':=fun rp st' R' hl=>by
   have len:=R'.len
   cases rp with
   | nil=>simp [flat] at len; lia
   | cons x t =>
    have:t=[]:=by simpa using hl
    subst this
    obtain ⟨r,p⟩:=x
    have e:flat [(r,p)]++[]=r:=by simp [flat]
    refine h r st' (by have:=R'.pm; rw [e] at this; exact this) (R'.up (r,p) (by simp)).1 (by have:=R'.arr; rw [e] at this; exact this) R'.fl
  have many:∀ rp:List (List Nat × Nat),(∀ r∈rp,r.1≠[])→rp.length≤(flat rp).length:=fun rp=>by
   induction rp with
   | nil=>intro _; simp
   | cons x t ih =>
    intro hx
    obtain ⟨r,p⟩:=x
    have:=ih fun r hr=>hx r (by simp [hr])
    have r1:1≤r.length:=List.length_pos_iff.mpr (hx (r,p) (by simp))
    rw [flat_cons,List.length_append,List.length_cons]
    lia
  refine wpS_bind (wpS_forRange (fun k c st'=>c=(none,())∧∃ rp,RunsOk n lt κ f rp [] st'∧rp.length+k≤n) ?_ ?_ ⟨rfl,rp,R',by have:=many rp fun r hr=>(R'.up r hr).2; have:=R'.len; simp at this; lia⟩)
  ·rintro k c st' - hk ⟨rfl,rp,R',hl⟩
   refine wpS_bind (wpS_get ?_)
   have sz:(pendingOf st').size=rp.length:=by rw [R'.pd,List.size_toArray,enc_len]
   by_cases h2:(pendingOf st').size≤1
   ·rw [if_pos h2]
    exact wpS_pure (wpS_pure (fin rp st' R' (by lia)))
   ·rw [if_neg h2]
    refine wpS_bind ?_
    have key:∀ i,i+1 < rp.length→wpS (model prog w) A E s (mergeAt' i) (fun b st2=>b=true∧∃ rp,RunsOk n lt κ f rp [] st2∧rp.length+(k+1)≤n) st':=fun i hi=>R'.merge hc L hi fun rp2 st2 R2 l2=>⟨rfl,rp2,R2,by lia⟩
    refine wpS_mono (key _ (by split <;> lia)) ?_
    rintro b st2 ⟨rfl,hq⟩
    rw [if_neg (by simp)]
    exact wpS_pure ⟨rfl,hq⟩
  ·rintro c st' ⟨rfl,rp,R',hl⟩
   exact wpS_pure (fin rp st' R' (by lia))
end
end L2
namespace L2
open PySem PySem.Spec PyProof.Rows PySem.W
noncomputable def LtA (A:Around) (s:Shared) (x y:Value) (c:Bool):Prop:=∀ (prog:Program) (w:World) (E:Value→Shared→Prop) (Q:Value→Shared→Prop),Q (.bool c) s→wpAny (model prog w) A (richCompare .Lt x y) Q E s
noncomputable def LtC (A:Around) (s:Shared) (p q:Addr) (c:Bool):Prop:=∀ (prog:Program) (w:World) (E:Value→Shared→Prop) (Q:Value→Shared→Prop),Q (.bool c) s→wpAny (model prog w) A (call (.builtin "tuple.__lt__") [.ref p,.ref q]) Q E s
noncomputable def lexV (e l:Nat→Bool) (z:Bool):Nat→Nat→Bool
 | 0,_=>z
 | k+1,i=>if e i=true then lexV e l z k (i+1) else l i
theorem tup_lt (p q:Addr) (us ws:Array Value) (m k:Nat) (dp dq:Option Addr) (sp sq:Array (Option Value)) (e c:Nat→Bool) :
  Meets (Builtin.«tuple.__lt__» ⟨[.ref p,.ref q],[]⟩)
   (fun A R s=>s.heap.get? p=some { cls:=.type "tuple",dict:=dp,data:=.seq us m,slots:=sp }∧s.heap.get? q=some { cls:=.type "tuple",dict:=dq,data:=.seq ws k,slots:=sq } ∧
    (∀ j (h1:j < us.size) (h2:j < ws.size),SeqAt.EqAt A.in1 s us[j] ws[j] (e j))∧(∀ j (h1:j < us.size) (h2:j < ws.size),e j=false→LtA A.in1 s us[j] ws[j] (c j)) ∧
    R (.ok (.ret (.bool (lexV e c (decide (us.size < ws.size)) (min us.size ws.size) 0)))) s) :=
 .of_wp fun prog w A R s h=>by
  obtain ⟨h1,g1,d1,t1,o1⟩:=s
  obtain ⟨hl,hb,he,hc,hR0⟩:=h
  have f2:=AutoSeq1.sub_tuple_tuple
  have hZ:(us.toList.zip ws.toList).length=min us.size ws.size:=by simp
  wp_walk using wpAny_loadPart' hl,wpAny_loadPart' hb,wpAny_forIn_list _ (fun rest b s'=>b.1=none∧s'=⟨h1,g1,d1,t1,o1⟩∧∃ i k,i+k=min us.size ws.size∧rest=(us.toList.zip ws.toList).drop i ∧
   R (.ok (.ret (.bool (lexV e c (decide (us.size < ws.size)) k i)))) ⟨h1,g1,d1,t1,o1⟩) _
  case turn =>
   rintro ⟨y,x⟩ rest b s' ⟨hb',rfl,i,k,hik,hz,hR⟩
   have hm:i < (us.toList.zip ws.toList).length:=by
    apply Nat.lt_of_not_le
    intro z
    rw [List.drop_of_length_le z] at hz
    cases hz
   have l1:i < us.size:=by lia
   have l2:i < ws.size:=by lia
   rw [List.drop_eq_getElem_cons hm] at hz
   injection hz with hyx hrest
   obtain rfl:y=us[i]:=by simpa using congrArg Prod.fst hyx
   obtain rfl:x=ws[i]:=by simpa using congrArg Prod.snd hyx
   obtain ⟨k,rfl⟩:∃ k',k=k'+1:=⟨k - 1,by lia⟩
   have hR':R (.ok (.ret (.bool (if e i=true then lexV e c (decide (us.size < ws.size)) k (i+1) else c i)))) ⟨h1,g1,d1,t1,o1⟩:=hR
   refine wpAny_bind (he i l1 l2 prog w _ _ ?_)
   cases hy:e i with
   | true =>
    rw [hy,if_pos rfl] at hR'
    wp_walk
    exact ⟨rfl,rfl,i+1,k,by lia,hrest,hR'⟩
   | false =>
    rw [hy,if_neg (by decide)] at hR'
    simp only [Bool.not_false,if_true]
    refine wpAny_bind (wpAny_rule (wpAny_bind (hc i l1 l2 hy prog w _ _ ?_)))
    wp_walk
    exact ⟨_,rfl,hR'⟩
  case fin =>
   rintro ⟨b1,b2⟩ s' ⟨hb',rfl,i,k,hik,hz,hR⟩
   simp only at hb'
   subst hb'
   have hk:k=0:=by
    rcases Nat.lt_or_ge i (us.toList.zip ws.toList).length with z | z
    ·rw [List.drop_eq_getElem_cons z] at hz; cases hz
    ·lia
   subst hk
   wp_walk
   exact ⟨_,rfl,by simpa [Builtin.Tuple.tupleCompareSizes,lexV] using hR⟩
  case h =>
   exact ⟨rfl,rfl,0,_,Nat.zero_add _,rfl,hR0⟩
section
variable {A:Around} {s:Shared} {p q:Addr} {us ws:Array Value} {e c:Nat→Bool}
theorem LtA.tups (hp:s.heap.IsTuple p us) (hq:s.heap.IsTuple q ws) (hu:A.units < cLine) (he:∀ j (h1:j < us.size) (h2:j < ws.size),SeqAt.EqAt A.in1 s us[j] ws[j] (e j))
  (hc:∀ j (h1:j < us.size) (h2:j < ws.size),e j=false→LtA A.in1 s us[j] ws[j] (c j)):LtA A s (.ref p) (.ref q) (lexV e c (decide (us.size < ws.size)) (min us.size ws.size) 0)∧LtC A s p q (lexV e c (decide (us.size < ws.size)) (min us.size ws.size) 0):=by
 obtain ⟨⟨cl1,dp,da1,sp⟩,o1,z1,m,y1⟩:=id hp
 obtain ⟨⟨cl2,dq,da2,sq⟩,o2,z2,k,y2⟩:=id hq
 cases z1; cases y1; cases z2; cases y2
 refine ⟨fun prog w E Q h=>?_,fun prog w E Q h=>call_meets F.slot_tuple_lt ⟨_,o1,rfl⟩ F.entry_tuple_lt (F.args_tuple_lt_2 _ _) (tup_lt p q us ws m k dp dq sp sq e c) ⟨o1,o2,he,hc,h⟩⟩
 exact richCompare_meets_room (op:=.Lt) ⟨_,o1,rfl⟩ ⟨_,o2,rfl⟩ F.slot_tuple_lt F.entry_tuple_lt (F.args_tuple_lt_2 _ _) (tup_lt p q us ws m k dp dq sp sq e c) ⟨o1,o2,he,hc,(fun x=>nomatch x),h⟩ hu
theorem LtA.strs {a b:Str} {t u:Tok}:LtA A s (.str a t) (.str b u) (decide (a.cps.toList < b.cps.toList)):=fun prog w E Q h=>by
 refine wpAny_richCompare_same_or (typeIs_str s a t) (typeIs_str s b u) slot_str_lt (call_str_lt (Q:=fun v s'=>v≠.notImplemented∧Q v s') ⟨(fun x=>nomatch x),h⟩) (.inl rfl)
end
mutual
noncomputable def ltD:D→D→Bool
 | .str a,.str b=>decide (a.cps.toList < b.cps.toList)
 | .tup ds,.tup es=>ltDs ds es
 | _,_=>false
noncomputable def ltDs:List D→List D→Bool
 | [],[]=>false
 | [],_ :: _=>true
 | _ :: _,[]=>false
 | d :: ds,e :: es=>if eqD d e=true then ltDs ds es else ltD d e
end
mutual
noncomputable def ordD:D→D→Bool
 | .str _,.str _=>true
 | .tup ds,.tup es=>ordDs ds es
 | _,_=>false
noncomputable def ordDs:List D→List D→Bool
 | d :: ds,e :: es=>ordD d e && ordDs ds es
 | _,_=>true
end
mutual
theorem ord_cmp:∀ (d e:D),ordD d e=true→cmpD d e=true
 | .str _,e,h=>by
  cases e <;> first | rfl | (unfold ordD at h; cases h)
 | .tup ds,e,h=>by
  cases e <;> first | (unfold ordD at h; cases h; done) | skip
  rename_i es
  unfold ordD at h
  unfold cmpD
  exact ords_cmp ds es h
 | .non,e,h=>by unfold ordD at h; cases h
 | .bl _,e,h=>by unfold ordD at h; cases h
 | .int _,e,h=>by unfold ordD at h; cases h
 | .lst _,e,h=>by unfold ordD at h; cases h
 | .dT _ _,e,h=>by unfold ordD at h; cases h
 | .dK _ _,e,h=>by unfold ordD at h; cases h
 | .scr _,e,h=>by unfold ordD at h; cases h
 | .kt _,e,h=>by unfold ordD at h; cases h
 | .exc _,e,h=>by unfold ordD at h; cases h
theorem ords_cmp:∀ (ds es:List D),ordDs ds es=true→cmpDs ds es=true
 | [],_,_=>by unfold cmpDs; rfl
 | _ :: _,[],_=>by unfold cmpDs; rfl
 | d :: ds,e :: es,h=>by
  unfold ordDs at h
  rw [Bool.and_eq_true] at h
  unfold cmpDs
  rw [ord_cmp d e h.1,ords_cmp ds es h.2]
  rfl
end
theorem ordDs_at:∀ {ds es:List D} {j:Nat} {d e:D},ordDs ds es=true→ds[j]?=some d→es[j]?=some e→ordD d e=true
 | [],_,j,_,_,_,q,_=>by simp at q
 | _ :: _,[],j,_,_,_,_,q=>by simp at q
 | d :: ds,e :: es,0,_,_,h,q1,q2=>by
  unfold ordDs at h
  rw [Bool.and_eq_true] at h
  simp at q1 q2
  rw [← q1,← q2]
  exact h.1
 | d :: ds,e :: es,j+1,_,_,h,q1,q2=>by
  unfold ordDs at h
  rw [Bool.and_eq_true] at h
  exact ordDs_at h.2 (by simpa using q1) (by simpa using q2)
theorem lexV_shift (e l:Nat→Bool) (z:Bool):∀ k i,lexV e l z k (i+1)=lexV (fun j=>e (j+1)) (fun j=>l (j+1)) z k i
 | 0,_=>rfl
 | k+1,i=>by
  show (if e (i+1)=true then lexV e l z k (i+1+1) else l (i+1))=if e (i+1)=true then lexV (fun j=>e (j+1)) (fun j=>l (j+1)) z k (i+1) else l (i+1)
  rw [lexV_shift e l z k (i+1)]
theorem lexV_D:∀ ds es:List D,lexV (fun j=>eqD (ds.getD j .non) (es.getD j .non)) (fun j=>ltD (ds.getD j .non) (es.getD j .non)) (decide (ds.length < es.length)) (min ds.length es.length) 0=ltDs ds es
 | [],[]=>by unfold ltDs; rfl
 | [],_ :: _=>by unfold ltDs; simp [lexV]
 | _ :: _,[]=>by unfold ltDs; simp [lexV]
 | d :: ds,e :: es=>by
  have ih:=lexV_D ds es
  rw [List.length_cons,List.length_cons,Nat.add_min_add_right]
  show (if eqD d e=true then lexV _ _ _ (min ds.length es.length) (0+1) else ltD d e)=_
  rw [lexV_shift]
  unfold ltDs
  have ed:decide (ds.length+1 < es.length+1)=decide (ds.length < es.length):=decide_eq_decide.mpr (by lia)
  rw [ed]
  have h2:lexV (fun j=>eqD ((d :: ds).getD (j+1) .non) ((e :: es).getD (j+1) .non)) (fun j=>ltD ((d :: ds).getD (j+1) .non) ((e :: es).getD (j+1) .non)) (decide (ds.length < es.length)) (min ds.length es.length) 0=ltDs ds es:=ih
  rw [h2]
section
variable {X:Cx} {pins:List (Addr × Obj)} {σ:St} {H:Hp} {s:Shared}
theorem lt_tup {A:Around} (I:Inv X pins σ H s) {a b:Addr} {ds es:List D} {xs ys:List V} (ha:SqT X.K H a xs) (hb:SqT X.K H b ys) (r1:Reps X.K H ds xs) (r2:Reps X.K H es ys) (ho:ordDs ds es=true) (hu:A.units+depDs ds+1 < cLine)
  (ih:∀ d∈ds,∀ (e:D) (v z:V) (u w:Value),Rep X.K H d v→Rep X.K H e z→RelV v u→RelV z w→ordD d e=true→LtA A.in1 s u w (ltD d e)):LtA A s (.ref a) (.ref b) (ltDs ds es)∧LtC A s a b (ltDs ds es):=by
 obtain ⟨its,v1,p1,_⟩:=I.tuple ha
 obtain ⟨its2,v2,p2,_⟩:=I.tuple hb
 have hc:=ords_cmp ds es ho
 have ihe:∀ d∈ds,∀ (e:D) (v z:V) (u w:Value),Rep X.K H d v→Rep X.K H e z→RelV v u→RelV z w→cmpD d e=true→SeqAt.EqAt A.in1 s u w (eqD d e):=fun d hd e v z u w h1 h2 h3 h4 h5 =>
  eqAt_D I _ A.in1 d e v z u w (Nat.le_refl _) h1 h2 h3 h4 h5 (by have:=depD_mem hd; have un:A.in1.units=A.units+1:=rfl; lia)
 have:=LtA.tups (A:=A) (s:=s) (e:=fun j=>eqD (ds.getD j .non) (es.getD j .non)) (c:=fun j=>ltD (ds.getD j .non) (es.getD j .non)) (show s.heap.IsTuple a its.toArray from p1) (show s.heap.IsTuple b its2.toArray from p2) (by lia) (items_D r1 r2 v1 v2 hc ihe) ?_
 ·rw [List.size_toArray,List.size_toArray,← v1.length,← v2.length,← r1.length,← r2.length,lexV_D] at this
  exact this
 ·intro j h1 h2 _
  have l1:j < ds.length:=by rw [r1.length,v1.length]; simpa using h1
  have l2:j < es.length:=by rw [r2.length,v2.length]; simpa using h2
  obtain ⟨x,qx,rx⟩:=r1.at (List.getElem?_eq_getElem l1)
  obtain ⟨y,qy,ry⟩:=r2.at (List.getElem?_eq_getElem l2)
  obtain ⟨ux,e1,rux⟩:=v1.get qx
  obtain ⟨uy,e2,ruy⟩:=v2.get qy
  have e1':its.toArray[j]=ux:=by
   have z:its[j]?=some its.toArray[j]:=by simp
   rw [e1] at z
   exact (Option.some.inj z).symm
  have e2':its2.toArray[j]=uy:=by
   have z:its2[j]?=some its2.toArray[j]:=by simp
   rw [e2] at z
   exact (Option.some.inj z).symm
  have e3:ds.getD j .non=ds[j]:=by simp [List.getD_eq_getElem?_getD,l1]
  have e4:es.getD j .non=es[j]:=by simp [List.getD_eq_getElem?_getD,l2]
  rw [e1',e2',e3,e4]
  exact ih ds[j] (List.getElem_mem l1) es[j] x y ux uy rx ry rux ruy (ordDs_at ho (List.getElem?_eq_getElem l1) (List.getElem?_eq_getElem l2))
theorem ltAt_D (I:Inv X pins σ H s):∀ (n:Nat) (A:Around) (d e:D) (v z:V) (u w:Value),sizeOf d≤n→Rep X.K H d v→Rep X.K H e z→RelV v u→RelV z w→ordD d e=true→A.units+depD d < cLine→LtA A s u w (ltD d e)
 | 0,_,d,_,_,_,_,_,hn,_,_,_,_,_,_=>by cases d <;> simp at hn
 | n+1,A,d,e,v,z,u,w,hn,hd,he,ru,rw',ho,hu=>by
  have un:A.in1.units=A.units+1:=rfl
  cases d with
  | str a =>
   cases e with
   | str b =>
    unfold Rep at hd he
    subst hd he
    obtain ⟨t1,rfl⟩:=ru
    obtain ⟨t2,rfl⟩:=rw'
    unfold ltD
    exact LtA.strs
   | _=>unfold ordD at ho; cases ho
  | tup ds =>
   cases e with
   | tup es =>
    unfold Rep at hd he
    obtain ⟨a,xs,rfl,ha,r1⟩:=hd
    obtain ⟨b,ys,rfl,hb,r2⟩:=he
    cases ru
    cases rw'
    unfold ordD at ho
    unfold ltD
    unfold depD at hu
    refine (lt_tup I ha.sq hb.sq r1 r2 ho (by lia) fun d hd e v z u w h1 h2 h3 h4 h5=>ltAt_D I n A.in1 d e v z u w ?_ h1 h2 h3 h4 h5 ?_).1
    ·have:=List.sizeOf_lt_of_mem hd
     simp at hn
     lia
    ·have:=depD_mem hd
     lia
   | _=>unfold ordD at ho; cases ho
  | _=>unfold ordD at ho; cases ho
end
end L2
namespace L2
open PySem PySem.Spec PyProof.Rows PySem.W
section
variable {X:Cx} {pins:List (Addr × Obj)} {σ:St} {H:Hp} {s:Shared} {E:Value→Shared→Prop}
theorem oneLt_D (I:Inv X pins σ H s) {A:Around} (c:Bool) {d e:D} {v z:V} {u w:Value} {Q:Bool→Shared→Prop} (hd:Rep X.K H d v) (he:Rep X.K H e z) (ru:RelV v u) (rw':RelV z w) (ho:ordD d e=true) (hu:A.units+depD d+1 < cLine) (h:Q (ltD d e) s) :
  wpAny (model X.prog X.w) A (oneLt' c u w) Q E s:=by
 have L:=ltAt_D I _ A d e v z u w (Nat.le_refl _) hd he ru rw' ho (by lia)
 cases c with
 | false=>exact kat_one u w (L X.prog X.w E (PySem.W.BoolBack Q) h)
 | true =>
  cases d with
  | str a =>
   cases e with
   | str b =>
    unfold Rep at hd he
    subst hd he
    obtain ⟨t1,rfl⟩:=ru
    obtain ⟨t2,rfl⟩:=rw'
    unfold ltD at h
    exact oneLt_str h
   | _=>unfold ordD at ho; cases ho
  | tup ds =>
   cases e with
   | tup es =>
    unfold Rep at hd he
    obtain ⟨a,xs,rfl,ha,r1⟩:=hd
    obtain ⟨b,ys,rfl,hb,r2⟩:=he
    cases ru
    cases rw'
    unfold ordD at ho
    unfold ltD at h
    unfold depD at hu
    have C:=(lt_tup (A:=A) I ha.sq hb.sq r1 r2 ho (by lia) fun d hd e v z u w h1 h2 h3 h4 h5=>ltAt_D I _ A.in1 d e v z u w (Nat.le_refl _) h1 h2 h3 h4 h5 (by have:=depD_mem hd; have un:A.in1.units=A.units+1:=rfl; lia)).2
    obtain ⟨its,_,pl,_⟩:=I.tuple ha.sq
    rw [oneLt'_eq]
    simp only [if_true]
    refine wpAny_bind (wpAny_cRoomFor (by lia) (wpAny_bind (wpAny_callSpecialIfBound?_slot pl.typeIs F.slot_tuple_lt (C X.prog X.w _ _ ?_))))
    exact wpAny_truthy_bool h
   | _=>unfold ordD at ho; cases ho
  | _=>unfold ordD at ho; cases ho
theorem lex_D (I:Inv X pins σ H s) {A:Around} {b z:Bool} {Q:Bool→Shared→Prop}:∀ (ds es:List D) (xs ys:List V) (us ws:List Value) (i:Nat),Reps X.K H ds xs→Reps X.K H es ys→Vals xs us→Vals ys ws→ordDs ds es=true→A.units+depDs ds+1 < cLine→decide (ds.length < es.length)=z→Q (ltDs ds es) s →
  KatLex X.prog X.w A b z Q (us.zip ws) i s
 | [],es,xs,ys,us,ws,i,r1,r2,v1,v2,ho,hu,hz,h=>by
  have e1:=r1.length
  have e2:=v1.length
  have:us=[]:=List.length_eq_zero_iff.mp (by rw [← e2,← e1]; rfl)
  subst this
  rw [List.zip_nil_left]
  refine kat_nil ?_
  cases es with
  | nil=>unfold ltDs at h; rw [← hz]; exact h
  | cons e es=>unfold ltDs at h; rw [← hz]; simpa using h
 | d :: ds,[],xs,ys,us,ws,i,r1,r2,v1,v2,ho,hu,hz,h=>by
  have e1:=r2.length
  have e2:=v2.length
  have:ws=[]:=List.length_eq_zero_iff.mp (by rw [← e2,← e1]; rfl)
  subst this
  rw [List.zip_nil_right]
  refine kat_nil ?_
  unfold ltDs at h
  rw [← hz]
  simpa using h
 | d :: ds,e :: es,xs,ys,us,ws,i,r1,r2,v1,v2,ho,hu,hz,h=>by
  unfold Reps at r1 r2
  obtain ⟨x,xs,rfl,rx,r1⟩:=r1
  obtain ⟨y,ys,rfl,ry,r2⟩:=r2
  cases v1 with
  | cons ru v1 =>
  cases v2 with
  | cons rw' v2 =>
  rename_i u us w ws
  unfold ordDs at ho
  rw [Bool.and_eq_true] at ho
  have hd1:depD d≤depDs (d :: ds):=depD_mem (List.mem_cons_self ..)
  have hd2:depDs ds≤depDs (d :: ds):=by show _≤max (depD d) (depDs ds); lia
  show KatLex X.prog X.w A b z Q ((u,w) :: us.zip ws) i s
  refine kat_cons (eqAt_D I _ A d e x y u w (Nat.le_refl _) rx ry ru rw' (ord_cmp d e ho.1) (by lia) X.prog X.w _ _ ?_)
  unfold ltDs at h
  cases he:eqD d e with
  | true =>
   rw [he,if_pos rfl] at h
   refine kat_yes (lex_D I ds es xs ys us ws (i+1) r1 r2 v1 v2 ho.2 (by lia) ?_ h)
   rw [← hz,List.length_cons,List.length_cons]
   exact decide_eq_decide.mpr (by lia)
  | false =>
   rw [he,if_neg (by decide)] at h
   exact kat_no (oneLt_D I _ rx ry ru rw' ho.1 (by lia) h)
theorem keyLt_D (I:Inv X pins σ H s) {A:Around} (κ:SortKind) {ds es:List D} {v z:V} {u w:Value} {Q:Bool→Shared→Prop} (hd:Rep X.K H (.tup ds) v) (he:Rep X.K H (.tup es) z) (ru:RelV v u) (rw':RelV z w) (ho:ordDs ds es=true) (hu:A.units+depDs ds+2 < cLine) (h:Q (ltDs ds es) s) :
  wpAny (model X.prog X.w) A (keyLt' κ u w) Q E s:=by
 have hl:ltD (.tup ds) (.tup es)=ltDs ds es:=by unfold ltD; rfl
 have ho':ordD (.tup ds) (.tup es)=true:=by unfold ordD; exact ho
 have hdp:depD (.tup ds)=depDs ds+1:=by unfold depD; rfl
 have one:∀ c,wpAny (model X.prog X.w) A (oneLt' c u w) Q E s:=fun c=>oneLt_D I c hd he ru rw' ho' (by lia) (by rw [hl]; exact h)
 cases κ with
 | general=>exact one false
 | oneType=>exact one true
 | tuples b =>
  unfold Rep at hd he
  obtain ⟨a,xs,rfl,ha,r1⟩:=hd
  obtain ⟨c,ys,rfl,hb,r2⟩:=he
  cases ru
  cases rw'
  obtain ⟨its,v1,p1,_⟩:=I.tuple ha.sq
  obtain ⟨its2,v2,p2,_⟩:=I.tuple hb.sq
  obtain ⟨o1,q1,_,n1,y1⟩:=id p1
  obtain ⟨o2,q2,_,n2,y2⟩:=id p2
  refine kat_lt q1 y1 q2 y2 ?_
  refine lex_D I ds es xs ys _ _ 0 r1 r2 v1 v2 ho (by lia) ?_ h
  rw [r1.length,r2.length,v1.length,v2.length]
  simp
end
end L2
namespace L2
open PySem PySem.Spec PyProof.Rows PySem.W
section
variable {M:Model} {A:Around} {E:Value→Shared→Prop} {s:Shared}
theorem mapM_any {α β:Type} {f:α→Sem β} {P:β→Prop}:∀ (l:List α) {Q:List β→Shared→Prop},(∀ v∈l,∀ (Q':β→Shared→Prop),(∀ r,P r→Q' r s)→wpAny M A (f v) Q' E s)→(∀ rs,(∀ r∈rs,P r)→Q rs s)→wpAny M A (l.mapM f) Q E s
 | [],_,_,h=>by rw [List.mapM_nil]; exact wpAny_pure (h [] (by simp))
 | x :: l,Q,hf,h=>by
  rw [List.mapM_cons]
  refine wpAny_bind (hf x (List.mem_cons_self ..) _ fun r hr=>wpAny_bind (mapM_any l (fun v hv=>hf v (List.mem_cons_of_mem _ hv)) fun rs hrs=>wpAny_pure (h _ fun y hy=>?_)))
  rcases List.mem_cons.mp hy with rfl | hy
  ·exact hr
  ·exact hrs y hy
noncomputable def TyOk (h:Heap) (u:Value):Prop:=∃ T,∀ M:Model,Looks M h (typeOf u) T
theorem oneType_any {vs:Array Value} {Q:Option Value→Shared→Prop} (ht:∀ u∈vs.toList,TyOk s.heap u) (h:∀ r,Q r s):wpAny M A (oneTypeOnly' vs) Q E s:=by
 rw [oneTypeOnly'_eq]
 obtain ⟨vs⟩:=vs
 rw [List.mapM_toArray,map_eq_pure_bind]
 refine wpAny_bind (wpAny_bind (mapM_any (P:=fun _=>True) vs (fun v hv Q' hq=>?_) fun rs _=>wpAny_pure ?_))
 ·obtain ⟨T,hT⟩:=ht v hv
  exact (hT M).here (hq T trivial)
 ·cases rs.toArray[0]? with
  | none=>exact wpAny_pure (h _)
  | some t=>exact wpAny_pure (h _)
theorem kind_any {vs:List Value} {Q:SortKind→Shared→Prop} (ht:∀ v∈vs,∃ (a:Addr) (o:Obj) (us:Array Value) (n:Nat),v=.ref a∧s.heap.get? a=some o∧o.cls=.type "tuple" ∧ o.data=.seq us n∧∀ f,us[0]?=some f→TyOk s.heap f) (h:∀ κ,Q κ s):wpAny M A (keyKind' vs.toArray) Q E s:=by
 have tr:∀ (a:Addr) (o:Obj),s.heap.get? a=some o→∀ M:Model,Looks M s.heap (typeOf (.ref a)) o.cls:=fun a o ho M=>(Looks.ld ho).andThen .now
 rw [keyKind'_eq,List.mapM_toArray,map_eq_pure_bind]
 refine wpAny_bind (wpAny_bind (mapM_any (P:=fun r=>∀ f,r=some f→TyOk s.heap f) vs (fun v hv Q' hq=>?_) fun rs hrs=>wpAny_pure ?_))
 ·obtain ⟨a,o,us,n,rfl,ho,hc,hd,hf⟩:=ht v hv
  rw [kas_first_eq]
  refine wpAny_bind ((tr a o ho M).here ?_)
  rw [hc,if_neg (by simp)]
  exact wpAny_bind (listItems_at ho hd (wpAny_pure (hq _ fun f e=>hf f e)))
 ·split
  ·refine wpAny_bind (wpAny_rule (wpAny_bind (oneType_any (fun u hu=>?_) fun r=>wpAny_pure (h _))))
   have hu':u∈rs.filterMap id:=by simpa using hu
   obtain ⟨r,hr,e⟩:=List.mem_filterMap.mp hu'
   exact hrs r hr u e
  ·split
   ·exact wpAny_pure (h _)
   ·refine wpAny_bind (oneType_any (fun u hu=>?_) fun r=>?_)
    ·obtain ⟨a,o,us,n,rfl,ho,_⟩:=ht u hu
     exact ⟨o.cls,tr a o ho⟩
    ·split <;> exact wpAny_pure (h _)
end
section
variable {K:PySem.W.Frag} {H:Hp}
theorem Reps.pick {ds:List D} {xs:List V} (r:Reps K H ds xs):∀ l:List Nat,(∀ i∈l,i < ds.length)→Reps K H (l.map fun i=>ds.getD i .non) (l.map fun i=>xs.getD i .non)
 | [],_=>.nil
 | i :: l,h=>by
  have hi:=h i (List.mem_cons_self ..)
  obtain ⟨x,hx,rx⟩:=r.at (List.getElem?_eq_getElem hi)
  refine .cons ?_ (r.pick l fun j hj=>h j (List.mem_cons_of_mem _ hj))
  have e1:ds.getD i .non=ds[i]:=by simp [List.getD_eq_getElem?_getD,hi]
  have e2:xs.getD i .non=x:=by simp [List.getD_eq_getElem?_getD,hx]
  show Rep K H (ds.getD i .non) (xs.getD i .non)
  rw [e1,e2]
  exact rx
theorem Vals.pick {xs:List V} {us:List Value} (r:Vals xs us):∀ l:List Nat,(∀ i∈l,i < xs.length)→Vals (l.map fun i=>xs.getD i .non) (l.map fun i=>us.getD i Value.none)
 | [],_=>.nil
 | i :: l,h=>by
  have hi:=h i (List.mem_cons_self ..)
  obtain ⟨u,hu,ru⟩:=r.get (List.getElem?_eq_getElem hi)
  refine .cons ?_ (Vals.pick r l fun j hj=>h j (List.mem_cons_of_mem _ hj))
  have e1:xs.getD i .non=xs[i]:=by simp [List.getD_eq_getElem?_getD,hi]
  have e2:us.getD i Value.none=u:=by simp [List.getD_eq_getElem?_getD,hu]
  show RelV (xs.getD i .non) (us.getD i Value.none)
  rw [e1,e2]
  exact ru
end
noncomputable def keyish:D→Bool
 | .str _=>true
 | .tup _=>true
 | _=>false
structure SortD (ds:List D):Prop where
 tup:(∀ d∈ds,∃ es,d=.tup es∧depDs es≤20∧∀ x,es[0]?=some x→keyish x=true)∨∀ d∈ds,∃ z,d=.str z
 ord:∀ d∈ds,∀ e∈ds,ordD d e=true
 tr:∀ a∈ds,∀ b∈ds,∀ c∈ds,ltD a b=true→ltD b c=true→ltD a c=true
 as:∀ a∈ds,∀ b∈ds,ltD a b=true→ltD b a=false
 tot:∀ a∈ds,∀ b∈ds,a≠b→ltD a b=true∨ltD b a=true
 nd:ds.Nodup
theorem getD_mem {ds:List D} {i:Nat} (h:i < ds.length):ds.getD i .non∈ds:=by
 have e1:ds.getD i .non=ds[i]:=by simp [List.getD_eq_getElem?_getD,h]
 rw [e1]
 exact List.getElem_mem h
structure SortW (ds:List D):Prop where
 tup:(∀ d∈ds,∃ es,d=.tup es∧depDs es≤20∧∀ x,es[0]?=some x→keyish x=true)∨∀ d∈ds,∃ z,d=.str z
 ord:∀ d∈ds,∀ e∈ds,ordD d e=true
 tr:∀ a∈ds,∀ b∈ds,∀ c∈ds,ltD b a=false→ltD c b=false→ltD c a=false
 as:∀ a∈ds,∀ b∈ds,ltD a b=true→ltD b a=false
theorem SortD.w {ds:List D} (S:SortD ds):SortW ds:=⟨S.tup,S.ord,fun a ha b hb c hc h1 h2=>by
 cases h:ltD c a with
 | false=>rfl
 | true =>
  by_cases e1:a=b
  ·rw [e1,h2] at h; cases h
  by_cases e2:b=c
  ·rw [← e2,h1] at h; cases h
  have q1:=(S.tot a ha b hb e1).resolve_right (by rw [h1]; exact Bool.false_ne_true)
  have q2:=(S.tot b hb c hc e2).resolve_right (by rw [h2]; exact Bool.false_ne_true)
  have:=S.as a ha c hc (S.tr a ha b hb c hc q1 q2)
  exact absurd (this.symm.trans h) Bool.false_ne_true,S.as⟩
theorem SortW.ltOk {ds:List D} (S:SortW ds):LtOk ds.length fun i j=>ltD (ds.getD i .non) (ds.getD j .non) where
 tr:=fun a b c ha hb hc=>S.tr _ (getD_mem ha) _ (getD_mem hb) _ (getD_mem hc)
 as:=fun a b ha hb=>S.as _ (getD_mem ha) _ (getD_mem hb)
end L2
namespace L2
open PySem PySem.Spec PyProof.Rows PySem.W
theorem range_getD (vs:List Value):((List.range vs.length).map fun i=>vs.getD i Value.none)=vs:=by
 apply List.ext_getElem
 ·simp
 ·intro i h1 h2
  simp [List.getD_eq_getElem?_getD,h2]
section
variable {X:Cx} {pins:List (Addr × Obj)} {σ:St} {H:Hp} {s:Shared} {E:Value→Shared→Prop}
theorem run_D (I:Inv X pins σ H s) {A:Around} {ds:List D} {xs:List V} {vs:List Value} (r:Reps X.K H ds xs) (v:Vals xs vs) (S:SortW ds) (h2:2≤vs.length) (hu:A.units+30 < cLine) (κ:SortKind) (hκ:(∀ d∈ds,∃ z,d=.str z)→2≤ds.length→κ=oneType') {Q:SortSt→Shared→Prop}
  (h:∀ (st:SortSt) (q:List Nat),q.Perm (List.range ds.length)→q.Pairwise (fun i j=>ltD (ds.getD j .non) (ds.getD i .non)=false)→(arrOf st).map (·.2)=List.toArray (q.map fun i=>vs.getD i Value.none)→failedOf st=none→Q st s) :
  wpAny (model X.prog X.w) A ((sortRuns').run (SortSt.mk' κ (vs.toArray.zip vs.toArray) #[] 7 none)) (fun r s'=>Q r.2 s') E s:=by
 have hl:ds.length=vs.length:=r.length.trans v.length
 have hc:Asks X.prog X.w A s κ (kas_item (vs.toArray.zip vs.toArray)) ds.length (fun i j=>ltD (ds.getD i .non) (ds.getD j .non)):=fun i j hi hj C hC'=>by
  obtain ⟨x,hx,rx⟩:=r.at (List.getElem?_eq_getElem hi)
  obtain ⟨y,hy,ry⟩:=r.at (List.getElem?_eq_getElem hj)
  obtain ⟨u,eu,ru⟩:=v.get hx
  obtain ⟨w,ew,rw'⟩:=v.get hy
  have e1:ds.getD i .non=ds[i]:=by simp [List.getD_eq_getElem?_getD,hi]
  have e2:ds.getD j .non=ds[j]:=by simp [List.getD_eq_getElem?_getD,hj]
  have e3:vs.getD i Value.none=u:=by simp [List.getD_eq_getElem?_getD,eu]
  have e4:vs.getD j Value.none=w:=by simp [List.getD_eq_getElem?_getD,ew]
  have m1:ds[i]∈ds:=List.getElem_mem hi
  have m2:ds[j]∈ds:=List.getElem_mem hj
  have ho:=S.ord _ m1 _ m2
  dsimp only at hC'
  rw [e1,e2] at hC'
  rw [kat_item rfl,kat_item rfl]
  show wpAny (model X.prog X.w) A (keyLt' κ (vs.getD i Value.none) (vs.getD j Value.none)) C (fun _ _=>False) s
  rw [e3,e4]
  rcases S.tup with T | T
  ·obtain ⟨es,ee,he,_⟩:=T _ m1
   obtain ⟨fs,ef,_,_⟩:=T _ m2
   rw [ee,ef] at hC'
   rw [ee,ef] at ho
   rw [ee] at rx
   rw [ef] at ry
   have hlt:ltD (.tup es) (.tup fs)=ltDs es fs:=by unfold ltD; rfl
   have hoo:ordDs es fs=true:=by unfold ordD at ho; exact ho
   rw [hlt] at hC'
   exact keyLt_D I κ rx ry ru rw' hoo (by lia) hC'
  ·rw [hκ T (by lia),keyLt'_oneType]
   exact oneLt_D I true rx ry ru rw' ho (by obtain ⟨z,ez⟩:=T _ m1; rw [ez]; unfold depD; lia) hC'
 have har:vs.toArray.zip vs.toArray=ar (kas_item (vs.toArray.zip vs.toArray)) (List.range ds.length):=by
  rw [ar_map,hl]
  have e:=kas_range (vs.toArray.zip vs.toArray)
  rw [show (vs.toArray.zip vs.toArray).size=vs.length by simp] at e
  exact e.symm
 have R0:RunsOk ds.length (fun i j=>ltD (ds.getD i .non) (ds.getD j .non)) κ (kas_item (vs.toArray.zip vs.toArray)) [] (List.range ds.length) (SortSt.mk' κ (vs.toArray.zip vs.toArray) #[] 7 none):={
  kd:=rfl
  arr:=har
  pd:=rfl
  fl:=rfl
  pm:=List.Perm.refl _
  up:=fun r hr=>by cases hr }
 refine wpAny_mono (sort_all (E:=E) hc S.ltOk (by lia) R0 (Q:=fun _ st=>Q st s) fun q st hp hu ha hf=>h st q hp hu ?_ hf) (fun r' s' hr=>?_) fun _ _ z=>z
 ·have:=kat_snds (ks:=vs) (vs:=vs) rfl (ha.trans (ar_map q))
  simpa using this
 ·obtain ⟨rfl,hq⟩:=hr
  exact hq
theorem lsort_D {A:Around} {a:Addr} {n:Nat} {ds:List D} {xs:List V} {vs:List Value} {P:Fin→Shared→Prop} (ho:s.heap.get? a=some (seqObj "list" vs.toArray n))
  (I:∀ h',(∀ b o,b≠a→s.heap.get? b=some o→h'.get? b=some o)→Inv X pins σ H { s with heap:=h' }) (r:Reps X.K H ds xs) (v:Vals xs vs) (S:SortW ds) (h64:vs.length≤sizeLine) (hu:A.units+30 < cLine)
  (h:∀ (q:List Nat) (h':Heap) (m:Nat),q.Perm (List.range ds.length)→q.Pairwise (fun i j=>ltD (ds.getD j .non) (ds.getD i .non)=false)→(∀ b o,b≠a→s.heap.get? b=some o→h'.get? b=some o)→h'.get? a=some (seqObj "list" (q.map fun i=>vs.getD i Value.none).toArray m) →
   P (.done (.ret .none)) { s with heap:=h' }):wpAny (model X.prog X.w) A (Builtin.«list.sort» ⟨[.ref a],[]⟩) P E s:=by
 have hl:ds.length=vs.length:=r.length.trans v.length
 rw [list_sort_plain]
 have ha:a < s.heap.objs.size:=Heap.lt_size ho
 have hz:vs.toArray.size≤sizeLine:=by rw [List.size_toArray]; exact h64
 refine wpAny_bind (listItems_at ho rfl (wpAny_bind (listUpdate_at ho rfl ?_ hz (Nat.zero_le _))))
 generalize e1:s.heap.update a (Obj.mapSeq fun _=>#[])=h1
 obtain ⟨m1,ho1⟩:∃ m1,h1.get? a=some (seqObj "list" #[] m1):=⟨_,by rw [← e1]; exact get?_update_seq ho (fun _=>#[])⟩
 have k1:∀ b o,b≠a→s.heap.get? b=some o→h1.get? b=some o:=fun b o hb hq=>by
  rw [← e1,Heap.get?_update_ne _ _ _ _ hb]
  exact hq
 refine wpAny_bind (seqEpoch_at (s:={ s with heap:=h1 }) ho1 rfl (wpAny_bind (wpAny_newTuple ?_ h64)))
 generalize e2:h1.push { cls:=.type "tuple",data:=.seq vs.toArray }=h2
 have k2:∀ b o,h1.get? b=some o→h2.get? b=some o:=fun b o hq=>by rw [← e2]; exact Heap.get?_push_of_some _ hq
 refine wpAny_bind (wpAny_newList ?_ (Nat.zero_le _))
 generalize e3:Heap.push _ _=h3
 have k3:∀ b o,h2.get? b=some o→h3.get? b=some o:=fun b o hq=>by rw [← e3]; exact Heap.get?_push_of_some _ hq
 have ho3:h3.get? a=some (seqObj "list" #[] m1):=k3 _ _ (k2 _ _ ho1)
 have kk:∀ b o,b≠a→s.heap.get? b=some o→h3.get? b=some o:=fun b o hb hq=>k3 _ _ (k2 _ _ (k1 b o hb hq))
 have I3:Inv X pins σ H { s with heap:=h3 }:=I h3 kk
 refine wpAny_holding ?_
 show wpAny (model X.prog X.w) A _ P E { s with heap:=h3 }
 have fin:∀ (q:List Nat) (out:Array Value),q.Perm (List.range ds.length)→q.Pairwise (fun i j=>ltD (ds.getD j .non) (ds.getD i .non)=false)→out=(q.map fun i=>vs.getD i Value.none).toArray →
   P (.done (.ret .none)) { s with heap:=h3.update a (Obj.mapSeq fun _=>out) }:=fun q out hq hp e=>by
  subst e
  refine h q _ _ hq hp (fun b o hb hs=>?_) (get?_update_seq ho3 (fun _=>_))
  rw [Heap.get?_update_ne _ _ _ _ hb]
  exact kk b o hb hs
 dsimp only
 by_cases h2':vs.toArray.size < 2
 ·rw [if_pos h2']
  refine wpAny_bind (wpAny_pure ?_)
  rw [if_pos h2',StateT.run_pure]
  refine wpAny_bind (wpAny_pure ?_)
  dsimp only
  refine wpAny_bind (seqEpoch_at (s:={ s with heap:=h3 }) ho3 rfl (wpAny_bind (listUpdate_at (s:={ s with heap:=h3 }) ho3 rfl ?_ (Nat.zero_le _) ?_)))
  ·simp only [bne_self_eq_false,Bool.false_eq_true,if_false]
   refine wpAny_pure (fin (List.range ds.length) _ (List.Perm.refl _) ?_ ?_)
   ·rw [List.size_toArray] at h2'
    rw [List.pairwise_iff_getElem]
    intro i j hi hj hij
    simp at hi hj
    lia
   ·apply Array.toList_inj.mp
    show (Array.map (fun x:Value × Value=>x.2) (vs.toArray.zip vs.toArray)).toList=_
    rw [hl,range_getD]
    simp only [Array.toList_map,Array.toList_zip]
    exact List.map_snd_zip (Nat.le_refl _)
  ·show (Array.map (fun x:Value × Value=>x.2) (vs.toArray.zip vs.toArray)).size≤_
   simp
   lia
 ·rw [if_neg h2']
  have h2v:2≤vs.length:=by rw [List.size_toArray] at h2'; lia
  have kind:∀ Q:SortKind→Shared→Prop,(∀ κ,((∀ d∈ds,∃ z,d=.str z)→2≤ds.length→κ=oneType')→Q κ { s with heap:=h3 })→wpAny (model X.prog X.w) A (keyKind' vs.toArray) Q E { s with heap:=h3 }:=fun Q hQ=>by
   rcases S.tup with T | T
   case inr =>
    refine kas_kind (T:=.type "str") (s:={ s with heap:=h3 }) h2v (fun u hu=>?_) (by decide) (by decide) (hQ _ fun _ _=>rfl)
    obtain ⟨i,hi,rfl⟩:=List.mem_iff_getElem.mp hu
    have hi2:i < ds.length:=by lia
    obtain ⟨x,hx,rx⟩:=r.at (List.getElem?_eq_getElem hi2)
    obtain ⟨u',eu,ru⟩:=v.get hx
    rw [List.getElem?_eq_getElem hi] at eu
    cases eu
    obtain ⟨z,ez⟩:=T _ (List.getElem_mem hi2)
    rw [ez] at rx
    unfold Rep at rx
    subst rx
    obtain ⟨t,et⟩:=ru
    rw [et]
    exact .now
   refine kind_any (s:={ s with heap:=h3 }) (fun u hu=>?_) fun κ=>hQ κ fun hstr hlen=>?b
   case b =>
    have m0:ds[0]'(by lia)∈ds:=List.getElem_mem _
    obtain ⟨es,ee,_⟩:=T _ m0
    obtain ⟨z,ez⟩:=hstr _ m0
    rw [ee] at ez
    cases ez
   obtain ⟨i,hi,rfl⟩:=List.mem_iff_getElem.mp hu
   have hi2:i < ds.length:=by lia
   obtain ⟨x,hx,rx⟩:=r.at (List.getElem?_eq_getElem hi2)
   obtain ⟨u',eu,ru⟩:=v.get hx
   rw [List.getElem?_eq_getElem hi] at eu
   cases eu
   obtain ⟨es,ee,he,hk⟩:=T _ (List.getElem_mem hi2)
   rw [ee] at rx
   unfold Rep at rx
   obtain ⟨b,ys,rfl,hb,r1⟩:=rx
   obtain ⟨its,v1,p1,_⟩:=I3.tuple hb.sq
   obtain ⟨o1,q1,c1,n1,y1⟩:=id p1
   refine ⟨b,o1,its.toArray,n1,ru,q1,c1,y1,fun f hf=>?_⟩
   have hf':its[0]?=some f:=by simpa using hf
   have h0:0 < es.length:=by
    rw [r1.length,v1.length]
    exact (List.getElem?_eq_some_iff.mp hf').1
   obtain ⟨y,hy,ry⟩:=r1.at (List.getElem?_eq_getElem h0)
   obtain ⟨f',ef,rf⟩:=v1.get hy
   rw [hf'] at ef
   cases ef
   have hkey:=hk _ (List.getElem?_eq_getElem h0)
   generalize es[0]=d0 at hkey ry
   cases d0 with
   | str z =>
    unfold Rep at ry
    subst ry
    obtain ⟨t,rfl⟩:=rf
    exact ⟨.type "str",fun M=>.now⟩
   | tup gs =>
    unfold Rep at ry
    obtain ⟨c,zs,rfl,hc,_⟩:=ry
    cases rf
    obtain ⟨its3,_,p3,_⟩:=I3.tuple hc.sq
    obtain ⟨o3,q3,_⟩:=id p3
    exact ⟨o3.cls,fun M=>(Looks.ld q3).andThen .now⟩
   | _=>cases hkey
  refine wpAny_bind (kind _ fun κ hκ=>?_)
  ·rw [if_neg h2']
   refine wpAny_bind (wpAny_mono (run_D I3 r v S h2v hu κ hκ (Q:=fun st s'=>s'={ s with heap:=h3 }∧∃ q:List Nat,q.Perm (List.range ds.length)∧q.Pairwise (fun i j=>ltD (ds.getD j .non) (ds.getD i .non)=false)∧(arrOf st).map (·.2)=List.toArray (q.map fun i=>vs.getD i Value.none)∧failedOf st=none)
    fun st q a1 a2 a3 a4=>⟨rfl,q,a1,a2,a3,a4⟩) ?_ fun _ _ z=>z)
   rintro ⟨⟨⟩,st⟩ s' ⟨rfl,q,a1,a2,a3,a4⟩
   have hql:q.length=ds.length:=by
    have:=a1.length_eq
    simpa using this
   dsimp only
   refine wpAny_bind (seqEpoch_at (s:={ s with heap:=h3 }) ho3 rfl (wpAny_bind (listUpdate_at (s:={ s with heap:=h3 }) ho3 rfl ?_ (Nat.zero_le _) ?_)))
   ·rw [a4]
    simp only [bne_self_eq_false,Bool.false_eq_true,if_false]
    exact wpAny_pure (fin q _ a1 a2 a3)
   ·show ((arrOf st).map (·.2)).size≤_
    rw [a3]
    simp
    lia
theorem call_sorted (hu:X.A.units+60 < cLine):CallR X (.builtin "sorted") (fun xs H Q=>∃ p ys ds,xs=[.ref p]∧SqL X.K H p ys∧Reps X.K H ds ys∧SortW ds∧∀ l (q:List Nat),H l=none→q.Perm (List.range ds.length)→q.Pairwise (fun i j=>ltD (ds.getD j .non) (ds.getD i .non)=false)→Q (.ref l) (upd H l (.lst (q.map fun i=>ys.getD i .non)))):=by
 intro pins s σ H xs us Q I rx h
 obtain ⟨p,ys,ds,rfl,hp,r,S,hq⟩:=h
 obtain ⟨u,rfl,ru⟩:=vals1 rx
 cases ru
 obtain ⟨its,v,pl,hz⟩:=I.list hp
 have hl:ds.length=its.length:=r.length.trans v.length
 refine Calls.call_function_entry kind_sorted plain_sorted entry_sorted (args_sorted1 _) ?_
 unfold Builtin.«sorted»
 refine wpAny_bind (m:=checkCount "sorted" 1 1 _) (wpAny_pure ?_)
 have hz':its.length≤sizeLine:=by rw [← v.length]; exact hz
 refine wpAny_bind (collect_list pl.isList (wpAny_bind (wpAny_newList ?_ hz')) hz')
 generalize e1:(s.heap.push (seqObj "list" #[] 0)).update s.heap.objs.size _=h1
 have n1:h1.objs.size=s.heap.objs.size+1:=by rw [← e1,Heap.size_update,size_push']
 have k1:∀ b o,s.heap.get? b=some o→h1.get? b=some o:=fun b o q=>by
  have lt:b < s.heap.objs.size:=Heap.lt_size q
  rw [← e1,Heap.get?_update_ne _ _ _ _ (Nat.ne_of_lt lt)]
  exact Heap.get?_push_of_some _ q
 generalize e2:Heap.push _ _=h2
 have hD:h2.get? h1.objs.size=some (seqObj "list" its.toArray 0):=by rw [← e2]; exact Heap.get?_push_size _ rfl
 have k2:∀ b o,s.heap.get? b=some o→h2.get? b=some o:=fun b o q=>by rw [← e2]; exact Heap.get?_push_of_some _ (k1 b o q)
 have un:X.A.in1.units=X.A.units+1:=rfl
 have un2:X.A.in1.in1.units=X.A.units+2:=rfl
 show wpAny (model X.prog X.w) X.A.in1 (do let _ ← holding [Value.ref h1.objs.size] (call (.builtin "list.sort") [.ref h1.objs.size]); ret (.ref h1.objs.size)) _ X.xe { s with heap:=h2 }
 refine wpAny_bind (wpAny_holding (wpAny_call_entry (s:={ s with heap:=h2 }) slot_list_sort ⟨_,hD,rfl⟩ entry_list_sort ?_ (args_list_sort _)))
 refine lsort_D (s:={ s with heap:=h2 }) (H:=H) (σ:=σ) (pins:=pins) (X:=X) hD (fun h' kp=>?_) r v S hz' (by lia) fun q h' m hqp hqs kp he=>⟨_,rfl,?_⟩
 ·refine I.kept (t':=s.toks) fun b o e=>?_
  refine kp b o (fun z=>?_) (k2 b o e)
  have lt:b < s.heap.objs.size:=Heap.lt_size e
  rw [z,n1] at lt
  exact Nat.not_succ_le_self _ (Nat.le_of_lt lt)
 ·refine wpAny_pure ⟨_,rfl,.ref h1.objs.size,upd H h1.objs.size (.lst (q.map fun i=>ys.getD i .non)),?_,rfl,hq _ q (I.hok.fresh (by lia)) hqp hqs⟩
  have hqm:∀ i∈q,i < ys.length:=fun i hi=>by
   have:=hqp.mem_iff.mp hi
   rw [← r.length]
   simpa using this
  refine I.laid (t':=s.toks) (fun b o e=>?_) (by lia) ⟨?_,_,m,v.pick q hqm,he⟩
  ·refine kp b o (fun z=>?_) (k2 b o e)
   have lt:b < s.heap.objs.size:=Heap.lt_size e
   rw [z,n1] at lt
   exact Nat.not_succ_le_self _ (Nat.le_of_lt lt)
  ·have:=hqp.length_eq
   rw [List.length_map,this,List.length_range]
   have:=r.length
   lia
end
end L2
namespace L2
open PySem PySem.Spec PyProof.Rows
section
variable {X:Cx} {EX:St→XK} {K:PySem.W.Frag} {B H H0:Hp} {e:Expr} {es:List Expr} {tA:TVA} {x y:Str} {p pos:Pos}
noncomputable def vSorted (rx:R) (Q:R→Prop):Prop:=match rx.d with
 | .lst ds=>SortD ds∧∀ ds',ds'.Perm ds→ds'.Pairwise (fun a b=>ltD a b=true)→Q (.own (.lst ds'))
 | _=>False
noncomputable def vSortedW (rx:R) (Q:R→Prop):Prop:=match rx.d with
 | .lst ds=>SortW ds∧∀ ds',ds'.Perm ds→ds'.Pairwise (fun a b=>ltD b a=false)→Q (.own (.lst ds'))
 | _=>False
theorem vf_sortedW (hu64:X.A.units+64 < cLine):VF X (.builtin "sorted") vSortedW:=by
 have hu:X.A.units+60 < cLine:=by lia
 refine ⟨_,call_sorted hu,fun B H x rx Q Qd s px h k=>?_⟩
 unfold vSortedW at h
 split at h
 ·rename_i ds e1
  obtain ⟨hS,hq⟩:=h
  obtain ⟨a,xs,rfl,h1,r1⟩:=px.lst s e1
  refine ⟨a,xs,ds,rfl,SqL.of h1,r1.same s,hS,fun l q hn hp hs=>?_⟩
  have hm:∀ i∈q,i < ds.length:=fun i hi=>by simpa using hp.mem_iff.mp hi
  have hr:((List.range ds.length).map fun i=>ds.getD i .non)=ds:=by
   apply List.ext_getElem
   ·simp
   ·intro i h1 h2
    simp [List.getD_eq_getElem?_getD,h2]
  refine k (.own (.lst (q.map fun i=>ds.getD i .non))) _ B _ (.grow s (same_upd hn _)) ⟨l,rfl,hn,s.free hn,own_newL (r1.pick q hm)⟩ (hq _ ?_ ?_)
  ·have:=hp.map fun i=>ds.getD i .non
   rw [hr] at this
   exact this
  ·rw [List.pairwise_map]
   exact hs
 ·exact h.elim
theorem sorted_strict {ds es:List D} (S:SortD ds) (hp:es.Perm ds) (h:es.Pairwise (fun a b=>ltD b a=false)):es.Pairwise (fun a b=>ltD a b=true):=by
 have nd:=hp.nodup_iff.mpr S.nd
 rw [List.nodup_iff_pairwise_ne] at nd
 exact (nd.and h).imp_of_mem fun {a b} ha hb z=>(S.tot a (hp.mem_iff.mp ha) b (hp.mem_iff.mp hb) z.1).resolve_right (by rw [z.2]; exact Bool.false_ne_true)
theorem vf_sorted (hu64:X.A.units+64 < cLine):VF X (.builtin "sorted") vSorted :=
 let ⟨_,h1,h2⟩:=(vf_sortedW hu64).u; ⟨_,h1,fun B H x rx Q Qd s px h k=>h2 B H x rx Q Qd s px (by
  unfold vSorted at h
  unfold vSortedW
  split at h
  ·rename_i ds e1
   exact ⟨h.1.w,fun ds' hp hs=>h.2 ds' hp (sorted_strict h.1 hp hs)⟩
  ·exact h.elim) k⟩
noncomputable def scalR (r:R) (Q:R→Prop):Prop:=match r with
 | .val d=>match dV d with
  | some _=>Q (.val d)
  | none=>False
 | _=>False
noncomputable def vCalB (g:DP) (i:Nat) (tA:TVA):TV:=fun τ Q=>match τ[i]? with
 | some (some (.own d))=>tA τ fun a=>exA a (fun _=>False) fun ds=>g (d :: ds) fun r=>scalR r Q
 | _=>False
theorem ve_calB {k:Nat} {ps:List Str} {g:DP} {i:Nat} {p2:Pos} (C:Cal X.prog X.w X.K X.mg X.base k x ps (spOf X.K g)) (hr:Room k X.A) (hg:Gl X x) (ha:VA X EX es tA) (hN:X.N[i]?=some y:=by rfl) (hv:Vis X.env.scope y:=by first | exact Or.inl rfl | exact Or.inr (Or.inl rfl) | exact Or.inr (Or.inr rfl))
  (hd:(y == ("__debug__" : Str))=false:=by decide) (hcd:(y == ("__classdict__" : Str))=false:=by decide) (hp:(Expr.Name y p2 :: es).all plainE=true:=by rfl) (hdb:(x == ("__debug__" : Str))=false:=by decide) :
  VE X EX (.Call (.Name x p) (.Name y p2 :: es) [] pos) (vCalB g i tA) :=
 let ⟨_,a1,a2⟩:=ha.u; ⟨_,qe_cal C hr hg (qac (qv i hN hv hd hcd) a1 rfl) hp hdb,fun H0 B H τ σ Q Qd s S h xc kk=>by
  unfold vCalB at h
  split at h
  ·rename_i d e1
   obtain ⟨ad,e2,_,hb,ow⟩:=S.own i d e1
   refine ⟨.ref ad,e2,a2 H0 B H τ σ _ _ s S h (xno fun _ q=>q) fun ds vs B1 H1 p1 q1 h1=>?_⟩
   have ow1:OwnAt X.K B1 H1 d ad:=ow.step p1.b (p1.h.at ow.some)
   have hb1:B1 ad=none:=p1.keep hb ow.some ow.nt
   obtain ⟨o,eo,rp⟩:=ow1.pub hb1
   refine ⟨d :: ds,upd B1 ad o,_,same_updL p1.s eo,?_,h1,fun n C B' H' hq _ _=>?_,fun r v B2 H2 hq p2 q2=>?_⟩
   ·rw [List.append_nil]
    exact .cons rp (q1.same (same_upd hb1 _))
   ·exact (show False from hq).elim
   ·unfold scalR at hq
    split at hq
    ·rename_i d'
     split at hq
     ·rename_i z ez
      have:=(show Pk X.K B2 H2 (.val d') v from q2).scal ez
      subst this
      exact kk (.val d') _ B1 H2 (p1.trans (.grow p1.s p2.h)) (repV ez) hq
     ·exact hq.elim
    ·exact hq.elim
  ·exact h.elim⟩
end
noncomputable def keyW (w:List Str):List (List Nat):=w.map (·.cps.toList)
theorem keyW_inj:∀ {a b:List Str},keyW a=keyW b→a=b
 | [],[],_=>rfl
 | [],_ :: _,h=>by cases h
 | _ :: _,[],h=>by cases h
 | x :: a,y :: b,h=>by
  injection h with h1 h2
  rw [str_ext h1,keyW_inj h2]
theorem ltDs_way:∀ a b:List Str,ltDs (a.map D.str) (b.map D.str)=decide (keyW a < keyW b)
 | [],[]=>by unfold ltDs; simp [keyW]
 | [],y :: b=>by
  show ltDs [] (.str y :: b.map D.str)=_
  unfold ltDs
  simp [keyW]
 | x :: a,[]=>by
  show ltDs (.str x :: a.map D.str) []=_
  unfold ltDs
  simp [keyW]
 | x :: a,y :: b=>by
  show ltDs (.str x :: a.map D.str) (.str y :: b.map D.str)=decide (x.cps.toList :: keyW a < y.cps.toList :: keyW b)
  unfold ltDs
  rw [ltDs_way a b]
  by_cases e:x=y
  ·subst e
   rw [if_pos (eqD_refl _)]
   exact decide_eq_decide.mpr (by rw [List.cons_lt_cons_iff]; simp [List.lt_irrefl])
  ·rw [if_neg (fun z=>e (D.str.inj (eqD_eq z)))]
   unfold ltD
   refine decide_eq_decide.mpr ?_
   rw [List.cons_lt_cons_iff]
   constructor
   ·exact .inl
   ·rintro (z | ⟨z,_⟩)
    ·exact z
    ·exact absurd (str_ext z) e
theorem keyW_tr {a b c:List (List Nat)} (h1:a < b) (h2:b < c):a < c:=List.lt_trans h1 h2
theorem keyW_as {a b:List (List Nat)} (h1:a < b):¬ b < a:=fun h2=>List.lt_irrefl a (List.lt_trans h1 h2)
theorem keyW_tot (a b:List (List Nat)) (h:a≠b):a < b∨b < a:=by
 by_cases h1:a < b
 ·exact .inl h1
 ·by_cases h2:b < a
  ·exact .inr h2
  ·exact absurd (List.le_antisymm (List.not_lt.mp h2) (List.not_lt.mp h1)) h
noncomputable def ltW (a b:List Str):Bool:=decide (keyW a < keyW b)
theorem ltD_way (a b:List Str):ltD (wayD a) (wayD b)=ltW a b:=by
 show ltD (.tup (a.map D.str)) (.tup (b.map D.str))=_
 unfold ltD
 exact ltDs_way a b
theorem ltW_tr {a b c:List Str} (h1:ltW a b=true) (h2:ltW b c=true):ltW a c=true:=decide_eq_true (keyW_tr (of_decide_eq_true h1) (of_decide_eq_true h2))
theorem ltW_as {a b:List Str} (h1:ltW a b=true):ltW b a=false:=decide_eq_false (keyW_as (of_decide_eq_true h1))
theorem ltW_tot {a b:List Str} (h:a≠b):ltW a b=true∨ltW b a=true:=(keyW_tot _ _ fun e=>h (keyW_inj e)).imp decide_eq_true decide_eq_true
theorem ord_strs:∀ a b:List Str,ordDs (a.map D.str) (b.map D.str)=true
 | [],_=>by
  show ordDs [] _=true
  unfold ordDs
  rfl
 | _ :: _,[]=>by
  show ordDs (_ :: _) []=true
  unfold ordDs
  rfl
 | x :: a,y :: b=>by
  show ordDs (.str x :: a.map D.str) (.str y :: b.map D.str)=true
  unfold ordDs
  rw [ord_strs a b]
  unfold ordD
  rfl
theorem dep_way (a:List Str):depDs (a.map D.str)=0:=by
 induction a with
 | nil=>rfl
 | cons x a ih =>
  show max (depD (.str x)) (depDs (a.map D.str))=0
  rw [ih]
  rfl
theorem wayD_inj {a b:List Str} (h:wayD a=wayD b):a=b:=by
 have h':a.map D.str=b.map D.str:=D.tup.inj h
 exact (map_str_iff _ _).mp h'
theorem sortD_ways {ws:List (List Str)} (nd:ws.Nodup):SortD (ws.map wayD) where
 tup:=.inl fun d hd=>by
  obtain ⟨w,_,rfl⟩:=List.mem_map.mp hd
  refine ⟨w.map D.str,rfl,by rw [dep_way]; lia,fun x hx=>?_⟩
  rw [List.getElem?_map] at hx
  obtain ⟨z,_,rfl⟩:=Option.map_eq_some_iff.mp hx
  rfl
 ord:=fun d hd e he=>by
  obtain ⟨a,_,rfl⟩:=List.mem_map.mp hd
  obtain ⟨b,_,rfl⟩:=List.mem_map.mp he
  show ordD (.tup _) (.tup _)=true
  unfold ordD
  exact ord_strs a b
 tr:=fun d hd e he f hf=>by
  obtain ⟨a,_,rfl⟩:=List.mem_map.mp hd
  obtain ⟨b,_,rfl⟩:=List.mem_map.mp he
  obtain ⟨c,_,rfl⟩:=List.mem_map.mp hf
  rw [ltD_way,ltD_way,ltD_way]
  exact ltW_tr
 as:=fun d hd e he=>by
  obtain ⟨a,_,rfl⟩:=List.mem_map.mp hd
  obtain ⟨b,_,rfl⟩:=List.mem_map.mp he
  rw [ltD_way,ltD_way]
  exact ltW_as
 tot:=fun d hd e he ne=>by
  obtain ⟨a,_,rfl⟩:=List.mem_map.mp hd
  obtain ⟨b,_,rfl⟩:=List.mem_map.mp he
  rw [ltD_way,ltD_way]
  exact ltW_tot fun z=>ne (by rw [z])
 nd:=by
  rw [List.nodup_iff_pairwise_ne] at nd ⊢
  rw [List.pairwise_map]
  exact nd.imp fun h z=>h (wayD_inj z)
theorem sorted_one {α:Type} {lt:α→α→Bool} (as:∀ a b,lt a b=true→lt b a=false):∀ {xs ys:List α},xs.Perm ys→xs.Pairwise (fun a b=>lt a b=true)→ys.Pairwise (fun a b=>lt a b=true)→xs=ys
 | [],ys,hp,_,_=>(List.nil_perm.mp hp).symm ▸ rfl
 | x :: xs,[],hp,_,_=>by cases hp.length_eq
 | x :: xs,y :: ys,hp,hx,hy=>by
  rw [List.pairwise_cons] at hx hy
  have e:x=y:=by
   have m1:x∈y :: ys:=hp.mem_iff.mp (List.mem_cons_self ..)
   have m2:y∈x :: xs:=hp.mem_iff.mpr (List.mem_cons_self ..)
   rcases List.mem_cons.mp m1 with z | z
   ·exact z
   rcases List.mem_cons.mp m2 with w | w
   ·exact w.symm
   have l1:=hx.1 y w
   have l2:=hy.1 x z
   rw [as _ _ l1] at l2
   cases l2
  subst e
  rw [sorted_one as (List.perm_cons x |>.mp hp) hx.2 hy.2]
end L2
namespace L2
open PySem PySem.Spec PyProof.Rows
section
variable {X:Cx} {pos:Pos} {k v:Expr} {tk tv:TE}
end
section
variable {X:Cx} {EX:St→XK} {pos:Pos} {k v:Expr} {tk tv:TV}
end
end L2
namespace L2
open PySem PySem.Spec PyProof.Rows
theorem Room.dict {k:Nat} {A:Around} (r:Room k A):A.units+64 < cLine:=by
 have:=r.un
 lia
end L2
namespace L2
open PySem PySem.Spec PyProof.Rows
section
variable {X:Cx} {EX:St→XK} {a:Expr} {ta:TV} {p pos:Pos}
end
end L2
namespace L2
open PySem PySem.Spec PyProof.Rows
theorem eqW (a b:List Str):eqD (.tup (a.map D.str)) (.tup (b.map D.str))=decide (a=b):=bool_iff (by
  rw [eqD_iff,decide_eq_true_eq]
  exact ⟨fun z=>wayD_inj z,fun z=>by rw [z]⟩)
theorem cmpW (a b:List Str):cmpD (.tup (a.map D.str)) (.tup (b.map D.str))=true:=by
 unfold cmpD
 exact cmp_strs _ _
theorem depW (a:List Str):depD (.tup (a.map D.str))≤50:=by
 unfold depD
 rw [dep_strs]
 decide
noncomputable def unW:D→List Str
 | .tup es=>(strsOf es).getD []
 | _=>[]
theorem unW_way (w:List Str):unW (wayD w)=w:=by
 show (strsOf (w.map D.str)).getD []=w
 rw [strsOf_map]
 rfl
theorem ways_back {ds:List D} {ws:List (List Str)} (hp:ds.Perm (ws.map wayD)) (hs:ds.Pairwise (fun a b=>ltD a b=true)):∃ vs:List (List Str),ds=vs.map wayD∧vs.Perm ws∧vs.Pairwise (fun a b=>ltW a b=true):=by
 have e:ds=(ds.map unW).map wayD:=by
  rw [List.map_map]
  refine (List.map_id _).symm.trans (List.map_congr_left fun d hd=>?_)
  obtain ⟨w,_,rfl⟩:=List.mem_map.mp (hp.mem_iff.mp hd)
  show wayD w=wayD (unW (wayD w))
  rw [unW_way]
 refine ⟨ds.map unW,e,?_,?_⟩
 ·have:=hp.map unW
  rw [List.map_map] at this
  exact this.trans (List.Perm.of_eq ((List.map_congr_left fun w _=>unW_way w).trans (List.map_id _)))
 ·rw [e,List.pairwise_map] at hs
  exact hs.imp fun h=>by rw [← ltD_way]; exact h
noncomputable abbrev Row:=List Str × Str × Str
noncomputable def rowD (r:Row):D:=.tup [wayD r.1,.str r.2.1,.str r.2.2]
noncomputable def unR:D→Row
 | .tup [w,.str m,.str t]=>(unW w,m,t)
 | _=>([],"","")
theorem unR_row (r:Row):unR (rowD r)=r:=by
 show (unW (wayD r.1),r.2.1,r.2.2)=r
 rw [unW_way]
theorem rowD_inj {a b:Row} (h:rowD a=rowD b):a=b:=by rw [← unR_row a,← unR_row b,h]
theorem cmpR (a b:Row):cmpD (rowD a) (rowD b)=true:=by
 show cmpD (.tup [.tup (a.1.map D.str),.str a.2.1,.str a.2.2]) (.tup [.tup (b.1.map D.str),.str b.2.1,.str b.2.2])=true
 have h:=cmpW a.1 b.1
 unfold cmpD at h ⊢
 simp only [cmpDs,cmpD,h,cmp_str,Bool.and_self,Bool.true_and]
theorem dep_row (a:Row):depD (rowD a)=1+0∨depD (rowD a)≤20:=by
 right
 show depD (.tup [.tup (a.1.map D.str),.str a.2.1,.str a.2.2])≤20
 unfold depD
 simp only [depDs,depD,dep_strs]
 decide
theorem depR (a:Row):depD (rowD a)≤20:=by
 rcases dep_row a with h | h
 ·lia
 ·exact h
theorem ltD_row {a b:Row} (h:a.1=b.1→a=b):ltD (rowD a) (rowD b)=ltW a.1 b.1:=by
 have e:ltD (rowD a) (rowD b)=ltDs [wayD a.1,.str a.2.1,.str a.2.2] [wayD b.1,.str b.2.1,.str b.2.2]:=by
  show ltD (.tup _) (.tup _)=_
  unfold ltD
  rfl
 rw [e]
 by_cases q:a.1=b.1
 ·have:=h q
  subst this
  unfold ltDs
  rw [if_pos (eqD_refl _)]
  unfold ltDs
  rw [if_pos (eqD_refl _)]
  unfold ltDs
  rw [if_pos (eqD_refl _)]
  unfold ltDs
  exact (decide_eq_false (List.lt_irrefl _)).symm
 ·unfold ltDs
  rw [if_neg (fun z=>q (wayD_inj (eqD_eq z)))]
  exact ltD_way a.1 b.1
theorem nodup_one {rs:List Row} (nd:(rs.map (·.1)).Nodup) {a b:Row} (ha:a∈rs) (hb:b∈rs) (h:a.1=b.1):a=b:=by
 induction rs with
 | nil=>cases ha
 | cons r rs ih =>
  rw [List.map_cons,List.nodup_cons] at nd
  rcases List.mem_cons.mp ha with ea | ha2
  ·rcases List.mem_cons.mp hb with eb | hb2
   ·rw [ea,eb]
   ·exact absurd (show r.1∈rs.map (·.1) from List.mem_map.mpr ⟨b,hb2,by rw [← h,ea]⟩) nd.1
  ·rcases List.mem_cons.mp hb with eb | hb2
   ·exact absurd (show r.1∈rs.map (·.1) from List.mem_map.mpr ⟨a,ha2,by rw [h,eb]⟩) nd.1
   ·exact ih nd.2 ha2 hb2
theorem sortD_rows {rs:List Row} (nd:(rs.map (·.1)).Nodup):SortD (rs.map rowD) where
 tup:=.inl fun d hd=>by
  obtain ⟨r,_,rfl⟩:=List.mem_map.mp hd
  refine ⟨_,rfl,?_,fun x hx=>?_⟩
  ·have:=depR r
   unfold rowD depD at this
   lia
  ·cases hx
   rfl
 ord:=fun d hd e he=>by
  obtain ⟨a,_,rfl⟩:=List.mem_map.mp hd
  obtain ⟨b,_,rfl⟩:=List.mem_map.mp he
  show ordD (.tup [.tup (a.1.map D.str),.str a.2.1,.str a.2.2]) (.tup [.tup (b.1.map D.str),.str b.2.1,.str b.2.2])=true
  simp only [ordD,ordDs,ord_strs,Bool.and_self]
 tr:=fun d hd e he f hf=>by
  obtain ⟨a,ha,rfl⟩:=List.mem_map.mp hd
  obtain ⟨b,hb,rfl⟩:=List.mem_map.mp he
  obtain ⟨c,hc,rfl⟩:=List.mem_map.mp hf
  rw [ltD_row (nodup_one nd ha hb),ltD_row (nodup_one nd hb hc),ltD_row (nodup_one nd ha hc)]
  exact ltW_tr
 as:=fun d hd e he=>by
  obtain ⟨a,ha,rfl⟩:=List.mem_map.mp hd
  obtain ⟨b,hb,rfl⟩:=List.mem_map.mp he
  rw [ltD_row (nodup_one nd ha hb),ltD_row (nodup_one nd hb ha)]
  exact ltW_as
 tot:=fun d hd e he ne=>by
  obtain ⟨a,ha,rfl⟩:=List.mem_map.mp hd
  obtain ⟨b,hb,rfl⟩:=List.mem_map.mp he
  rw [ltD_row (nodup_one nd ha hb),ltD_row (nodup_one nd hb ha)]
  exact ltW_tot fun z=>ne (by rw [nodup_one nd ha hb z])
 nd:=by
  rw [List.nodup_iff_pairwise_ne] at nd ⊢
  rw [List.pairwise_map] at nd ⊢
  exact nd.imp fun h z=>h (by rw [rowD_inj z])
noncomputable abbrev RSorted (rs:List Row):Prop:=rs.Pairwise (fun a b=>ltW a.1 b.1=true)
theorem rows_back {ds:List D} {rs:List Row} (nd:(rs.map (·.1)).Nodup) (hp:ds.Perm (rs.map rowD)) (hs:ds.Pairwise (fun a b=>ltD a b=true)):∃ ts:List Row,ds=ts.map rowD∧ts.Perm rs∧RSorted ts:=by
 have e:ds=(ds.map unR).map rowD:=by
  rw [List.map_map]
  refine (List.map_id _).symm.trans (List.map_congr_left fun d hd=>?_)
  obtain ⟨r,_,rfl⟩:=List.mem_map.mp (hp.mem_iff.mp hd)
  show rowD r=rowD (unR (rowD r))
  rw [unR_row]
 have pm:(ds.map unR).Perm rs:=by
  have:=hp.map unR
  rw [List.map_map] at this
  exact this.trans (List.Perm.of_eq ((List.map_congr_left fun r _=>unR_row r).trans (List.map_id _)))
 refine ⟨ds.map unR,e,pm,?_⟩
 rw [e,List.pairwise_map] at hs
 have nd2:((ds.map unR).map (·.1)).Nodup:=((pm.map (·.1)).nodup_iff).mpr nd
 exact hs.imp_of_mem fun {a b} ma mb h=>by rw [← ltD_row (nodup_one nd2 ma mb)]; exact h
theorem rsorted_nd {rs:List Row} (h:RSorted rs):(rs.map (·.1)).Nodup:=by
 rw [List.nodup_iff_pairwise_ne,List.pairwise_map]
 exact h.imp fun {a b} q z=>by
  rw [z] at q
  have:=ltW_as q
  rw [q] at this
  cases this
theorem rsorted_one {rs ts:List Row} (hp:rs.Perm ts) (h1:RSorted rs) (h2:RSorted ts):rs=ts:=sorted_one (lt:=fun a b:Row=>ltW a.1 b.1) (fun _ _=>ltW_as) hp h1 h2
noncomputable def rowsL (rs:List Row):D:=.lst (rs.map rowD)
theorem cmpRs:∀ rs ts:List Row,cmpDs (rs.map rowD) (ts.map rowD)=true
 | [],_=>by cases ‹List Row› <;> rfl
 | _ :: _,[]=>rfl
 | a :: rs,b :: ts=>by
  show cmpDs (rowD a :: rs.map rowD) (rowD b :: ts.map rowD)=true
  unfold cmpDs
  rw [cmpR,cmpRs rs ts]
  rfl
theorem cmpRL (rs ts:List Row):cmpD (rowsL rs) (rowsL ts)=true:=by
 show cmpD (.lst _) (.lst _)=true
 unfold cmpD
 exact cmpRs rs ts
theorem depRs:∀ rs:List Row,depDs (rs.map rowD)≤20
 | []=>by
  show depDs []≤20
  unfold depDs
  lia
 | a :: rs=>by
  show depDs (rowD a :: rs.map rowD)≤20
  unfold depDs
  have:=depR a
  have:=depRs rs
  lia
theorem depRL (rs:List Row):depD (rowsL rs)≤21:=by
 show depD (.lst _)≤21
 unfold depD
 have:=depRs rs
 lia
section
variable {X:Cx} {pins:List (Addr × Obj)} {σ:St} {H:Hp} {s:Shared}
theorem rn_tup {A:Around} (I:Inv X pins σ H s) {a b:Addr} {ds es:List D} {xs ys:List V} (ha:SqT X.K H a xs) (hb:SqT X.K H b ys) (r1:Reps X.K H ds xs) (r2:Reps X.K H es ys) (hc:cmpDs ds es=true) (hu:A.units < cLine)
  (ih:∀ d∈ds,∀ (e:D) (v z:V) (u w:Value),Rep X.K H d v→Rep X.K H e z→RelV v u→RelV z w→cmpD d e=true→SeqAt.EqAt A.in1 s u w (eqD d e)):SeqAt.RcNeAt A s (.ref a) (.ref b) (!eqD (.tup ds) (.tup es)):=by
 obtain ⟨its,v1,p1,_⟩:=I.tuple ha
 obtain ⟨its2,v2,p2,_⟩:=I.tuple hb
 have:=SeqAt.RcNeAt.tuples (A:=A) (s:=s) (e:=fun j=>eqD (ds.getD j .non) (es.getD j .non)) (show s.heap.IsTuple a its.toArray from p1) (show s.heap.IsTuple b its2.toArray from p2) hu (items_D r1 r2 v1 v2 hc ih)
 rw [List.size_toArray,List.size_toArray,← v1.length,← v2.length,← r1.length,← r2.length,eqDs_range] at this
 rw [eqD_tup]
 exact this
theorem rn_lst {A:Around} (I:Inv X pins σ H s) {a b:Addr} {ds es:List D} {xs ys:List V} (ha:H a=some (.lst xs)) (hb:H b=some (.lst ys)) (r1:Reps X.K H ds xs) (r2:Reps X.K H es ys) (hc:cmpDs ds es=true) (hu:A.units < cLine)
  (ih:∀ d∈ds,∀ (e:D) (v z:V) (u w:Value),Rep X.K H d v→Rep X.K H e z→RelV v u→RelV z w→cmpD d e=true→SeqAt.EqAt A.in1 s u w (eqD d e)):SeqAt.RcNeAt A s (.ref a) (.ref b) (!eqD (.lst ds) (.lst es)):=by
 obtain ⟨its,v1,p1,_⟩:=I.list (SqL.of ha)
 obtain ⟨its2,v2,p2,_⟩:=I.list (SqL.of hb)
 have er:=eqDs_range ds es
 rw [eqD_lst]
 by_cases hl:ds.length=es.length
 ·have hz:its.toArray.size=its2.toArray.size:=by rw [List.size_toArray,List.size_toArray,← v1.length,← v2.length,← r1.length,← r2.length,hl]
  have:=SeqAt.RcNeAt.lists (A:=A) (s:=s) (e:=fun j=>eqD (ds.getD j .non) (es.getD j .non)) p1.isList p2.isList hz hu (items_D r1 r2 v1 v2 hc ih)
  rw [List.size_toArray,← v1.length,← r1.length] at this
  rw [← hl,Nat.min_self] at er
  have e2:(ds.length == ds.length)=true:=by simp
  rw [e2,Bool.and_true] at er
  rw [er] at this
  exact this
 ·have e2:(ds.length == es.length)=false:=by simpa using hl
  rw [e2,Bool.and_false] at er
  rw [← er]
  refine SeqAt.RcNeAt.lists_lengths p1.isList p2.isList ?_ hu
  rw [List.size_toArray,List.size_toArray,← v1.length,← v2.length,← r1.length,← r2.length]
  simpa using hl
theorem op_neD (hu:X.A.units+60 < cLine):OpR X (compareOp .NotEq) (rEqD X.K not):=by
 intro pins s σ H x y v u Q I rx ry h
 obtain ⟨d,e,hd,he,hc,hn,q⟩:=h
 have fin:EP X pins σ Q (.bool (!eqD d e)) s:=⟨.bl (!eqD d e),H,I,rfl,q⟩
 have un:X.A.in1.units=X.A.units+1:=rfl
 cases d with
 | tup ds =>
  cases e with
  | tup es =>
   unfold Rep at hd he
   obtain ⟨a,xs,rfl,ha,r1⟩:=hd
   obtain ⟨b,ys,rfl,hb,r2⟩:=he
   cases rx
   cases ry
   unfold cmpD at hc
   unfold depD at hn
   exact rn_tup I ha.sq hb.sq r1 r2 hc (by lia) (fun d hd e v z u w h1 h2 h3 h4 h5=>eqAt_D I _ X.A.in1 d e v z u w (Nat.le_refl _) h1 h2 h3 h4 h5 (by have:=depD_mem hd; lia)) _ _ _ _ fin
  | _=>unfold cmpD at hc; cases hc
 | lst ds =>
  cases e with
  | lst es =>
   unfold Rep at hd he
   obtain ⟨a,xs,rfl,ha,r1⟩:=hd
   obtain ⟨b,ys,rfl,hb,r2⟩:=he
   cases rx
   cases ry
   unfold cmpD at hc
   unfold depD at hn
   exact rn_lst I ha hb r1 r2 hc (by lia) (fun d hd e v z u w h1 h2 h3 h4 h5=>eqAt_D I _ X.A.in1 d e v z u w (Nat.le_refl _) h1 h2 h3 h4 h5 (by have:=depD_mem hd; lia)) _ _ _ _ fin
  | _=>unfold cmpD at hc; cases hc
 | _ =>
  obtain ⟨v',z',q1,q2,q3⟩:=scal_of hc (fun _ h=>by cases h) (fun _ h=>by cases h)
  have e1:=rep_scal hd q1
  have e2:=rep_scal he q2
  subst e1 e2
  have q':Q (.bl (!eqD _ _)) H:=q
  rw [eqD_scal q1 q2] at q'
  exact op_ne pins s σ H _ _ v u Q I rx ry ⟨q3,q'⟩
noncomputable def vNeD (rx ry:R) (Q:R→Prop):Prop:=cmpD rx.d ry.d=true∧depD rx.d≤50∧Q (.val (.bl (!eqD rx.d ry.d)))
theorem vo_neD (hu:X.A.units+64 < cLine):VO X (compareOp .NotEq) vNeD :=
 ⟨_,op_neD (by lia),fun B H x y rx ry Q Qd s px py h k=>⟨rx.d,ry.d,px.rep s,py.rep s,h.1,h.2.1,k _ _ B H (.refl s) (repV rfl) h.2.2⟩⟩
end
section
variable {X:Cx} {pos p2:Pos} {e st:Expr} {te:TE} {lo hi:Option Expr} {tl th ts:TO}
end
section
variable {X:Cx} {EX:St→XK} {pos p2:Pos} {e st:Expr} {te:TV} {lo hi:Option Expr} {tl th ts:TVO} {K:PySem.W.Frag} {B:Hp}
end
end L2
namespace L2
section
variable {α:Type} [DecidableEq α]
end
section
variable {α β:Type} [DecidableEq α]
end
end L2
namespace L2
open PySem
noncomputable abbrev mFolder:Str:="folder"
noncomputable abbrev mShut:Str:="shut"
noncomputable abbrev mGone:Str:="gone"
noncomputable abbrev mFile:Str:="file"
noncomputable abbrev mLink:Str:="link"
noncomputable abbrev tEmpty:Str:=""
theorem mne:mShut≠mFolder∧mGone≠mFolder∧mFile≠mFolder∧mLink≠mFolder∧mGone≠mShut∧mFile≠mShut∧mLink≠mShut∧mFile≠mGone∧mLink≠mGone∧mLink≠mFile:=by decide +kernel
theorem lt_snoc (l:List (List Nat)) (x:List Nat):l < l++[x]:=by
 induction l with
 | nil=>exact List.nil_lt_cons _ _
 | cons y l ih=>exact List.cons_lt_cons_iff.mpr (.inr ⟨rfl,ih⟩)
theorem ltW_drop {w:List Str} (h:w≠[]):ltW w.dropLast w=true:=by
 refine decide_eq_true ?_
 conv=>rhs; rw [← List.dropLast_concat_getLast h]
 unfold keyW
 rw [List.map_append]
 exact lt_snoc _ _
noncomputable def inR (p:List Row) (w:List Str):Bool:=decide (w∈p.map (·.1))
noncomputable def markR (p:List Row) (w:List Str):Option Str:=(p.find? fun r=>decide (r.1=w)).map (·.2.1)
noncomputable def hidesO:Option Str→Bool
 | none=>false
 | some m=>!decide (m=mFolder)
noncomputable def hidBy (p:List Row) (w:List Str):Bool:=(List.range w.length).any fun k=>hidesO (markR p (w.take k))
theorem hidBy_nil (p:List Row):hidBy p []=false:=rfl
theorem any_congr {β:Type} {f g:β→Bool}:∀ {l:List β},(∀ x∈l,f x=g x)→l.any f=l.any g
 | [],_=>rfl
 | x :: l,h=>by rw [List.any_cons,List.any_cons,h x (List.mem_cons_self ..),any_congr fun y hy=>h y (List.mem_cons_of_mem _ hy)]
theorem hidBy_snoc (p:List Row) {w:List Str} (h:w≠[]):hidBy p w=(hidBy p w.dropLast || hidesO (markR p w.dropLast)):=by
 have hl:w.length=w.dropLast.length+1:=by
  rw [List.length_dropLast]
  have:=List.length_pos_iff.mpr h
  lia
 unfold hidBy
 rw [hl,List.range_succ,List.any_append]
 congr 1
 ·refine any_congr fun k hk=>?_
  have hk:=List.mem_range.mp hk
  rw [List.dropLast_eq_take,List.take_take,Nat.min_eq_left (by lia)]
 ·rw [List.any_cons,List.any_nil,Bool.or_false,List.dropLast_eq_take,List.length_take,Nat.min_eq_left (by lia)]
theorem markR_in (p:List Row) (w:List Str):(markR p w).isSome=inR p w:=by
 unfold markR inR
 rw [Option.isSome_map]
 by_cases h:w∈p.map (·.1)
 ·rw [decide_eq_true h,List.find?_isSome]
  obtain ⟨r,mr,er⟩:=List.mem_map.mp h
  exact ⟨r,mr,decide_eq_true er⟩
 ·rw [decide_eq_false h,Bool.eq_false_iff]
  intro q
  rw [List.find?_isSome] at q
  obtain ⟨r,mr,er⟩:=q
  exact h (List.mem_map.mpr ⟨r,mr,of_decide_eq_true er⟩)
theorem markR_mem {p:List Row} (nd:(p.map (·.1)).Nodup) {r:Row} (h:r∈p):markR p r.1=some r.2.1:=by
 unfold markR
 cases e:p.find? fun q=>decide (q.1=r.1) with
 | none=>exact absurd (decide_eq_true rfl) (List.find?_eq_none.mp e r h)
 | some q =>
  have h1:=List.mem_of_find?_eq_some e
  have h2:q.1=r.1:=of_decide_eq_true (p:=q.1=r.1) (by simpa using List.find?_some e)
  rw [nodup_one nd h1 h h2]
  rfl
theorem markR_none {p:List Row} {w:List Str} (h:inR p w=false):markR p w=none:=by
 rw [← markR_in] at h
 exact Option.not_isSome_iff_eq_none.mp (by rw [h]; exact Bool.false_ne_true)
structure TreeOk (tr:List Row):Prop where
 so:RSorted tr
 cl:∀ r∈tr,r.1≠[]∧(r.1.dropLast=[]∨r.1.dropLast∈tr.map (·.1))
structure PaneOk (p:List Row):Prop where
 so:RSorted p
 cl:∀ r∈p,r.1=[]∨r.1.dropLast=[]∨∃ q∈p,q.1=r.1.dropLast∧q.2.1≠mGone
 mr:∀ r∈p,(r.2.1=mFile∨r.2.1=mLink)∨(r.2.1=mFolder∧r.2.2=tEmpty)∨r.2.1=mShut∨r.2.1=mGone
 rt:∀ r∈p,r.1=[]→r.2.1=mShut
theorem drop_ne {w:List Str} (h:w≠[]):w.dropLast≠w:=fun e=>by
 have:=congrArg List.length e
 rw [List.length_dropLast] at this
 have:=List.length_pos_iff.mpr h
 lia
theorem above_ahead {tr:List Row} (so:RSorted tr) {i:Nat} {r:Row} (hr:tr[i]?=some r) (h0:r.1≠[]) (hm:r.1.dropLast∈tr.map (·.1)):r.1.dropLast∈(tr.take i).map (·.1):=by
 obtain ⟨hi,er⟩:=List.getElem?_eq_some_iff.mp hr
 obtain ⟨q,mq,eq⟩:=List.mem_map.mp hm
 obtain ⟨j,hj,ej⟩:=List.mem_iff_getElem.mp mq
 have lt1:ltW q.1 r.1=true:=by
  rw [eq]
  exact ltW_drop h0
 have hji:j < i:=by
  rcases Nat.lt_trichotomy j i with h | h | h
  ·exact h
  ·subst h
   have:r=q:=er.symm.trans ej
   subst this
   exact absurd eq.symm (drop_ne h0)
  ·have:=(List.pairwise_iff_getElem.mp so) i j hi hj h
   rw [er,ej] at this
   rw [ltW_as lt1] at this
   cases this
 refine List.mem_map.mpr ⟨q,?_,eq⟩
 rw [← ej]
 exact List.mem_take_iff_getElem.mpr ⟨j,by lia,rfl⟩
noncomputable def hidW (p tr:List Row):List (List Str):=(tr.filter fun r=>hidBy p r.1).map (·.1)
structure Clo (tr:List Row):Prop where
 so:RSorted tr
 cl:∀ r∈tr,r.1=[]∨r.1.dropLast=[]∨r.1.dropLast∈tr.map (·.1)
theorem PaneOk.clo {tr:List Row} (T:PaneOk tr):Clo tr:=⟨T.so,fun r hr=>(T.cl r hr).imp id fun h=>h.imp id fun ⟨q,mq,e,_⟩=>List.mem_map.mpr ⟨q,mq,e⟩⟩
theorem take_new {rs:List Row} (nd:(rs.map (·.1)).Nodup) {i:Nat} {r:Row} (hr:rs[i]?=some r):r.1∉(rs.take i).map (·.1):=fun m=>by
 obtain ⟨hi,er⟩:=List.getElem?_eq_some_iff.mp hr
 obtain ⟨q,mq,eq⟩:=List.mem_map.mp m
 rw [List.nodup_iff_pairwise_ne,List.pairwise_map,List.pairwise_iff_getElem] at nd
 obtain ⟨j,hj,ej⟩:=List.mem_iff_getElem.mp mq
 have hj':j < i:=by rw [List.length_take] at hj; lia
 have:=nd j i (by lia) hi hj'
 rw [List.getElem_take] at ej
 rw [ej,er] at this
 exact this eq
theorem hid_above {p tr:List Row} (T:Clo tr) {i:Nat} {r:Row} (hr:tr[i]?=some r) (h0:r.1≠[]):(decide (r.1.dropLast∈hidW p (tr.take i)) || hidesO (markR p r.1.dropLast))=hidBy p r.1:=by
 have mr:=List.mem_of_getElem? hr
 have hc:=(T.cl r mr).resolve_left h0
 rw [hidBy_snoc p h0]
 congr 1
 by_cases hh:hidBy p r.1.dropLast=true
 ·rw [hh]
  refine decide_eq_true ?_
  rcases hc with hc | hc
  ·rw [hc,hidBy_nil] at hh
   cases hh
  ·obtain ⟨q,mq,eq⟩:=List.mem_map.mp (above_ahead T.so hr h0 hc)
   refine List.mem_map.mpr ⟨q,List.mem_filter.mpr ⟨mq,?_⟩,eq⟩
   rw [eq]
   exact hh
 ·rw [Bool.not_eq_true] at hh
  rw [hh]
  refine decide_eq_false fun m=>?_
  obtain ⟨q,mq,eq⟩:=List.mem_map.mp m
  have:=(List.mem_filter.mp mq).2
  rw [eq,hh] at this
  cases this
theorem hid_mem {p tr:List Row} {w:List Str} (hw:w∈tr.map (·.1)):decide (w∈hidW p tr)=hidBy p w:=by
 cases hh:hidBy p w with
 | true =>
  refine decide_eq_true ?_
  obtain ⟨q,mq,eq⟩:=List.mem_map.mp hw
  exact List.mem_map.mpr ⟨q,List.mem_filter.mpr ⟨mq,by rw [eq]; exact hh⟩,eq⟩
 | false =>
  refine decide_eq_false fun m=>?_
  obtain ⟨q,mq,eq⟩:=List.mem_map.mp m
  have:=(List.mem_filter.mp mq).2
  rw [eq,hh] at this
  cases this
noncomputable def aloneR (p tr:List Row):List Row:=tr.filter fun r=>!inR p r.1 && !hidBy p r.1
noncomputable def shownR (r:Row):Row:=if r.2.1=mShut then (r.1,mFolder,tEmpty) else r
noncomputable def putR (p:List Row):List Row:=(p.filter fun r=>!decide (r.1=[]) && !decide (r.2.1=mGone)).map shownR
theorem shown_1 (r:Row):(shownR r).1=r.1:=by
 unfold shownR
 split <;> rfl
theorem put_ways (p:List Row):(putR p).map (·.1)=(p.filter fun r=>!decide (r.1=[]) && !decide (r.2.1=mGone)).map (·.1):=by
 unfold putR
 rw [List.map_map]
 exact List.map_congr_left fun r _=>shown_1 r
theorem laid_nd {p tr:List Row} (hp:(p.map (·.1)).Nodup) (ht:(tr.map (·.1)).Nodup):((aloneR p tr++putR p).map (·.1)).Nodup:=by
 rw [List.map_append,put_ways,List.nodup_append]
 refine ⟨ht.sublist ((List.filter_sublist).map _),hp.sublist ((List.filter_sublist).map _),fun x hx y hy e=>?_⟩
 subst e
 obtain ⟨r,mr,rfl⟩:=List.mem_map.mp hx
 obtain ⟨q,mq,eq⟩:=List.mem_map.mp hy
 have h1:=(List.mem_filter.mp mr).2
 have h2:inR p r.1=true:=decide_eq_true (List.mem_map.mpr ⟨q,(List.mem_filter.mp mq).1,eq⟩)
 rw [h2] at h1
 cases h1
theorem laid_tree {p tr ts:List Row} (P:PaneOk p) (T:TreeOk tr) (hp:ts.Perm (aloneR p tr++putR p)) (hs:RSorted ts):TreeOk ts:=by
 refine ⟨hs,fun r hr=>?_⟩
 have mem:∀ w,w∈ts.map (·.1)↔w∈(aloneR p tr).map (·.1)∨w∈(putR p).map (·.1):=fun w=>by
  rw [(hp.map (·.1)).mem_iff,List.map_append,List.mem_append]
 have ndp:=rsorted_nd P.so
 rcases List.mem_append.mp (hp.mem_iff.mp hr) with h | h
 ·obtain ⟨mr,hb⟩:=List.mem_filter.mp h
  obtain ⟨h0,hc⟩:=T.cl r mr
  refine ⟨h0,?_⟩
  rcases hc with hc | hc
  ·exact .inl hc
  right
  rw [mem]
  have hb':inR p r.1=false∧hidBy p r.1=false:=by simpa using hb
  have hs2:=hidBy_snoc p h0
  rw [hb'.2] at hs2
  have hs3:hidBy p r.1.dropLast=false∧hidesO (markR p r.1.dropLast)=false:=by simpa using hs2.symm
  by_cases hin:inR p r.1.dropLast=true
  ·right
   rw [put_ways]
   obtain ⟨q,mq,eq⟩:=List.mem_map.mp (of_decide_eq_true hin)
   refine List.mem_map.mpr ⟨q,List.mem_filter.mpr ⟨mq,?_⟩,eq⟩
   have e1:q.2.1=mFolder:=by
    have:=hs3.2
    rw [← eq,markR_mem ndp mq] at this
    simpa [hidesO] using this
   have e2:q.1≠[]:=fun z=>by
    have:=P.rt q mq z
    rw [e1] at this
    exact mne.1 this.symm
   rw [decide_eq_false e2,e1,decide_eq_false (Ne.symm mne.2.1)]
   rfl
  ·left
   rw [Bool.not_eq_true] at hin
   obtain ⟨q,mq,eq⟩:=List.mem_map.mp hc
   refine List.mem_map.mpr ⟨q,List.mem_filter.mpr ⟨mq,?_⟩,eq⟩
   rw [eq,hin,hs3.1]
   rfl
 ·unfold putR at h
  obtain ⟨q,mq,rfl⟩:=List.mem_map.mp h
  rw [shown_1]
  obtain ⟨mq,hb⟩:=List.mem_filter.mp mq
  have hb':q.1≠[]∧q.2.1≠mGone:=by simpa using hb
  refine ⟨hb'.1,?_⟩
  rcases P.cl q mq with c | c | ⟨o,mo,eo,go⟩
  ·exact absurd c hb'.1
  ·exact .inl c
  ·by_cases c:q.1.dropLast=[]
   ·exact .inl c
   right
   rw [mem]
   right
   rw [put_ways]
   refine List.mem_map.mpr ⟨o,List.mem_filter.mpr ⟨mo,?_⟩,eo⟩
   rw [decide_eq_false (by rw [eo]; exact c),decide_eq_false go]
   rfl
theorem laid_len (p tr:List Row):(aloneR p tr++putR p).length≤tr.length+(p.filter fun r=>!decide (r.1=[])).length:=by
 unfold aloneR putR
 rw [List.length_append,List.length_map]
 have h1:=List.length_filter_le (fun r:Row=>!inR p r.1 && !hidBy p r.1) tr
 have h2:(p.filter fun r=>!decide (r.1=[]) && !decide (r.2.1=mGone)).length≤(p.filter fun r=>!decide (r.1=[])).length:=by
  have:(p.filter fun r=>!decide (r.1=[]) && !decide (r.2.1=mGone))=(p.filter fun r=>!decide (r.1=[])).filter fun r=>!decide (r.2.1=mGone):=by
   rw [List.filter_filter]
   congr 1
   funext r
   exact Bool.and_comm _ _
  rw [this]
  exact List.length_filter_le _ _
 lia
noncomputable def lawPut (p:List Row):List Row:=(p.filter fun r=>decide (r.2.1=mFile) || decide (r.2.1=mLink) || (!decide (r.2.1=mGone) && !decide (r.1=[]))).map fun r=>if r.2.1=mFile∨r.2.1=mLink then r else (r.1,mFolder,tEmpty)
theorem lawPut_eq {p:List Row} (P:PaneOk p):lawPut p=putR p:=by
 unfold lawPut putR
 have e:(p.filter fun r=>decide (r.2.1=mFile) || decide (r.2.1=mLink) || (!decide (r.2.1=mGone) && !decide (r.1=[])))=p.filter fun r=>!decide (r.1=[]) && !decide (r.2.1=mGone):=by
  refine List.filter_congr fun r hr=>?_
  by_cases h0:r.1=[]
  ·have:=P.rt r hr h0
   rw [this,decide_eq_true h0,decide_eq_false (Ne.symm mne.2.2.2.2.2.1),decide_eq_false (Ne.symm mne.2.2.2.2.2.2.1)]
   simp
  ·rw [decide_eq_false h0]
   have m:=P.mr r hr
   rcases m with (m | m) | ⟨m,_⟩ | m | m
   ·rw [m,decide_eq_false mne.2.2.2.2.2.2.2.1]; simp
   ·rw [m,decide_eq_false mne.2.2.2.2.2.2.2.2.1]; simp
   ·rw [m,decide_eq_false (Ne.symm mne.2.1)]; simp
   ·rw [m,decide_eq_false (Ne.symm mne.2.2.2.2.1)]; simp
   ·rw [m,decide_eq_false (Ne.symm mne.2.2.2.2.2.2.2.1),decide_eq_false (Ne.symm mne.2.2.2.2.2.2.2.2.1)]; simp
 rw [e]
 refine List.map_congr_left fun r hr=>?_
 have hb:=(List.mem_filter.mp hr).2
 have mr:=(List.mem_filter.mp hr).1
 have hb':r.1≠[]∧r.2.1≠mGone:=by simpa using hb
 unfold shownR
 rcases P.mr r mr with m | ⟨m,t⟩ | m | m
 ·rw [if_pos m,if_neg]
  rcases m with m | m
  ·rw [m]; exact mne.2.2.2.2.2.1
  ·rw [m]; exact mne.2.2.2.2.2.2.1
 ·rw [if_neg (by rw [m]; exact fun z=>z.elim (fun z=>mne.2.2.1 z.symm) fun z=>mne.2.2.2.1 z.symm),if_neg (by rw [m]; exact Ne.symm mne.1),← m,← t]
 ·rw [if_neg (by rw [m]; exact fun z=>z.elim (fun z=>mne.2.2.2.2.2.1 z.symm) fun z=>mne.2.2.2.2.2.2.1 z.symm),if_pos m]
 ·exact absurd m hb'.2
noncomputable def thD:Str × Str→D:=fun t=>.tup [.str t.1,.str t.2]
noncomputable def WyOk (w:List Str):Prop:=w.length≤20∧∀ z∈w,1≤z.length∧z.length≤12
noncomputable def Wy14 (w:List Str):Prop:=w.length≤14∧∀ z∈w,1≤z.length∧z.length≤12
theorem Wy14.ok {w:List Str} (h:Wy14 w):WyOk w:=⟨by have:=h.1; lia,h.2⟩
theorem WyOk.ne {w:List Str} (h:WyOk w):("" : Str)∉w:=fun m=>by
 have:=(h.2 _ m).1
 have e:("" : Str).length=0:=by decide +kernel
 lia
theorem WyOk.take {w:List Str} (h:WyOk w) (k:Nat):WyOk (w.take k):=⟨by rw [List.length_take]; have:=h.1; lia,fun z m=>h.2 z (List.mem_of_mem_take m)⟩
theorem WyOk.drop {w:List Str} (h:WyOk w):WyOk w.dropLast:=by rw [List.dropLast_eq_take]; exact h.take _
noncomputable def prR (r:Row):List Str × D:=(r.1,thD r.2)
theorem lkP_pr (rs:List Row) (w:List Str):lkP (rs.map prR) w=(rs.find? fun r=>decide (r.1=w)).map fun r=>thD r.2:=by
 unfold lkP
 rw [List.find?_map,Option.map_map]
 rfl
noncomputable def prM (r:Row):List Str × D:=(r.1,.str r.2.1)
theorem lkP_mk (rs:List Row) (w:List Str):lkP (rs.map prM) w=(markR rs w).map D.str:=by
 unfold lkP markR
 rw [List.find?_map,Option.map_map,Option.map_map]
 rfl
theorem ways_pr (rs:List Row):(rs.map prR).map (·.1)=rs.map (·.1):=by rw [List.map_map]; rfl
theorem ways_mk (rs:List Row):(rs.map prM).map (·.1)=rs.map (·.1):=by rw [List.map_map]; rfl
theorem lkP_one (ws:List (List Str)) (d:D) (w:List Str):lkP (ws.map fun x=>(x,d)) w=if w∈ws then some d else none:=by
 unfold lkP
 rw [List.find?_map,Option.map_map]
 induction ws with
 | nil=>rfl
 | cons x ws ih =>
  by_cases h:x=w
  ·rw [List.find?_cons_of_pos (by simpa using h),if_pos (by rw [h]; exact List.mem_cons_self ..)]
   rfl
  ·rw [List.find?_cons_of_neg (by simpa using h),ih]
   by_cases m:w∈ws
   ·rw [if_pos m,if_pos (List.mem_cons_of_mem _ m)]
   ·rw [if_neg m,if_neg (fun z=>(List.mem_cons.mp z).elim (fun e=>h e.symm) m)]
noncomputable def shutR (rs:List Row) (w:List Str):Bool:=(List.range w.length).any fun k=>decide (markR rs (w.take k)=some mShut)
noncomputable def sortR (rs:List Row):List Row:=open Classical in if h:∃ ts:List Row,ts.Perm rs∧RSorted ts then Classical.choose h else rs
theorem sortR_eq {ts rs:List Row} (hp:ts.Perm rs) (hs:RSorted ts):sortR rs=ts:=by
 have h:∃ ts:List Row,ts.Perm rs∧RSorted ts:=⟨ts,hp,hs⟩
 unfold sortR
 rw [dif_pos h]
 exact rsorted_one ((Classical.choose_spec h).1.trans hp.symm) (Classical.choose_spec h).2 hs
noncomputable def laidR (p tr:List Row):List Row:=sortR (aloneR p tr++putR p)
noncomputable def bulk (p:List Row):Nat:=(p.filter fun r=>!decide (r.1=[])).length
noncomputable def mkOk (r:Row):Prop:=(r.2.1=mFile∨r.2.1=mLink)∨(r.2.1=mFolder∧r.2.2=tEmpty)∨r.2.1=mShut∨r.2.1=mGone
noncomputable def FS (m:Str):Prop:=m=mFolder∨m=mShut
theorem FS.live {m:Str} (h:FS m):m≠mGone:=by
 rcases h with rfl | rfl
 ·exact Ne.symm mne.2.1
 ·exact Ne.symm mne.2.2.2.2.1
noncomputable def FolIn (rs:List Row) (f:List Str):Prop:=Wy14 f∧(f=[]∨∃ q∈rs,q.1=f∧FS q.2.1)
noncomputable def RowIn (rs:List Row) (r:Row):Prop:=(r.1=[]∧r.2.1=mShut)∨(r.1≠[]∧Wy14 r.1∧FolIn rs r.1.dropLast∧mkOk r)
structure PInv (i:Nat) (rs:List Row) (fs:List (List Str)):Prop where
 nd:(rs.map (·.1)).Nodup
 row:∀ r∈rs,RowIn rs r
 blk:bulk rs≤i
 len:rs.length≤i+1
 ne:fs≠[]
 fol:∀ f∈fs,FolIn rs f
 fln:fs.length≤i+1
 nu:∀ r∈rs,r.2.1=mGone∨r.2.1=mShut→hidBy rs r.1=false
theorem anc {rs:List Row} (row:∀ r∈rs,RowIn rs r):∀ (n:Nat) (f:List Str),f.length=n→FolIn rs f→∀ k,0 < k→k≤f.length→∃ q∈rs,q.1=f.take k∧FS q.2.1
 | 0,f,hn,_,k,h0,hk=>by lia
 | n+1,f,hn,hf,k,h0,hk=>by
  have fne:f≠[]:=fun z=>by rw [z] at hn; cases hn
  obtain ⟨q,mq,eq,fq⟩:=hf.2.resolve_left fne
  rcases Nat.lt_or_ge k f.length with h | h
  ·rcases row q mq with c | ⟨_,_,c,_⟩
   ·exact absurd (eq ▸ c.1) fne
   ·rw [eq] at c
    have hl:f.dropLast.length=n:=by rw [List.length_dropLast]; lia
    obtain ⟨o,mo,eo,fo⟩:=anc row n f.dropLast hl c k h0 (by lia)
    refine ⟨o,mo,?_,fo⟩
    rw [eo,List.dropLast_eq_take,List.take_take,Nat.min_eq_left (by lia)]
  ·have:k=f.length:=by lia
   rw [this,List.take_length]
   exact ⟨q,mq,eq,fq⟩
theorem hid_shut {rs:List Row} (nd:(rs.map (·.1)).Nodup) {w:List Str} (h:∀ k,0 < k→k < w.length→∃ q∈rs,q.1=w.take k∧FS q.2.1) (rt:∀ r∈rs,r.1=[]→r.2.1=mShut):hidBy rs w=shutR rs w:=by
 unfold hidBy shutR
 refine any_congr fun k hk=>?_
 have hk:=List.mem_range.mp hk
 have key:∀ q∈rs,q.1=w.take k→FS q.2.1→hidesO (markR rs (w.take k))=decide (markR rs (w.take k)=some mShut):=fun q mq eq fq=>by
  rw [← eq,markR_mem nd mq]
  rcases fq with e | e
  ·rw [e,decide_eq_false (fun z=>mne.1 (Option.some.inj z).symm)]; simp [hidesO]
  ·rw [e,decide_eq_true rfl]; simp [hidesO,mne.1]
 by_cases h0:k=0
 ·subst h0
  rw [List.take_zero] at key ⊢
  by_cases hi:inR rs []=true
  ·obtain ⟨q,mq,eq⟩:=List.mem_map.mp (of_decide_eq_true hi)
   exact key q mq eq (.inr (rt q mq eq))
  ·rw [Bool.not_eq_true] at hi
   rw [markR_none hi]
   rfl
 ·obtain ⟨q,mq,eq,fq⟩:=h k (by lia) hk
  exact key q mq eq fq
theorem markR_snoc {rs:List Row} {r:Row} {w:List Str} (h:r.1≠w):markR (rs++[r]) w=markR rs w:=by
 unfold markR
 rw [List.find?_append]
 have:[r].find? (fun q=>decide (q.1=w))=none:=by simp [h]
 rw [this,Option.or_none]
theorem hidBy_more {rs:List Row} {r:Row} {w:List Str} (h:∀ k,k < w.length→r.1≠w.take k):hidBy (rs++[r]) w=hidBy rs w:=by
 unfold hidBy
 exact any_congr fun k hk=>by rw [markR_snoc (h k (List.mem_range.mp hk))]
theorem Wy14.nil:Wy14 []:=⟨Nat.zero_le _,fun _ h=>by cases h⟩
theorem PInv.start {rs:List Row} (h:rs=[]∨rs=[([],mShut,tEmpty)]):PInv 0 rs [[]]:=by
 rcases h with rfl | rfl
 ·exact ⟨List.nodup_nil,(fun _ h=>by cases h),Nat.le_refl _,Nat.zero_le _,by simp,fun f hf=>by rw [List.mem_singleton.mp hf]; exact ⟨.nil,.inl rfl⟩,Nat.le_refl _,(fun _ h=>by cases h)⟩
 ·exact ⟨by simp,fun r hr=>by rw [List.mem_singleton.mp hr]; exact .inl ⟨rfl,rfl⟩,Nat.le_refl _,Nat.le_refl _,by simp,fun f hf=>by rw [List.mem_singleton.mp hf]; exact ⟨.nil,.inl rfl⟩,Nat.le_refl _,fun r hr _=>by rw [List.mem_singleton.mp hr]; rfl⟩
theorem FolIn.more {rs:List Row} {f:List Str} (h:FolIn rs f) (r:Row):FolIn (rs++[r]) f:=⟨h.1,h.2.imp id fun ⟨q,mq,e,g⟩=>⟨q,List.mem_append_left _ mq,e,g⟩⟩
theorem PInv.stay {i:Nat} {rs:List Row} {fs:List (List Str)} (P:PInv i rs fs):PInv (i+1) rs fs:=⟨P.nd,P.row,Nat.le_succ_of_le P.blk,Nat.le_succ_of_le P.len,P.ne,P.fol,Nat.le_succ_of_le P.fln,P.nu⟩
theorem PInv.put {i:Nat} {rs:List Row} {fs:List (List Str)} (P:PInv i rs fs) {f:List Str} (hf:f∈fs) {z:Str} {m t:Str} (hm:mkOk (f++[z],m,t)) (hw:Wy14 (f++[z])) (nw:f++[z]∉rs.map (·.1)) (hsh:m=mGone∨m=mShut→shutR rs (f++[z])=false):PInv (i+1) (rs++[(f++[z],m,t)]) fs∧(FS m→PInv (i+1) (rs++[(f++[z],m,t)]) (fs++[f++[z]])):=by
 have A:PInv (i+1) (rs++[(f++[z],m,t)]) fs:=by
  refine ⟨?_,fun r hr=>?_,?_,?_,P.ne,fun g hg=>(P.fol g hg).more _,Nat.le_succ_of_le P.fln,fun r hr hm2=>?_⟩
  ·rw [List.map_append,List.nodup_append]
   refine ⟨P.nd,by simp,fun a ha b hb e=>?_⟩
   have:b=f++[z]:=by simpa using hb
   rw [e,this] at ha
   exact nw ha
  ·rcases List.mem_append.mp hr with q | q
   ·rcases P.row r q with h | ⟨h1,h2,h3,h4⟩
    ·exact .inl h
    ·exact .inr ⟨h1,h2,h3.more _,h4⟩
   ·rw [List.mem_singleton.mp q]
    refine .inr ⟨by simp,hw,?_,hm⟩
    show FolIn _ (f++[z]).dropLast
    rw [List.dropLast_concat]
    exact (P.fol f hf).more _
  ·have:=P.blk
   unfold bulk at this ⊢
   rw [List.filter_append,List.length_append]
   have:=List.length_filter_le (fun r:Row=>!decide (r.1=[])) [(f++[z],m,t)]
   rw [List.length_singleton] at this
   lia
  ·have:=P.len
   rw [List.length_append,List.length_singleton]
   lia
  ·rcases List.mem_append.mp hr with q | q
   ·have old:=P.nu r q hm2
    rw [hidBy_more (fun k hk e=>?_)]
    ·exact old
    ·have e':f++[z]=r.1.take k:=e
     rcases P.row r q with c | ⟨_,_,c,_⟩
     ·rw [c.1] at hk
      cases hk
     ·have k0:0 < k:=by
       rcases Nat.eq_zero_or_pos k with z0 | z0
       ·rw [z0,List.take_zero] at e'
        exact absurd e' (by simp)
       ·exact z0
      obtain ⟨o,mo,eo,_⟩:=anc P.row _ r.1.dropLast rfl c k k0 (by rw [List.length_dropLast]; lia)
      refine nw (List.mem_map.mpr ⟨o,mo,?_⟩)
      rw [eo,e',List.dropLast_eq_take,List.take_take,Nat.min_eq_left (by lia)]
   ·have er:=List.mem_singleton.mp q
    subst er
    show hidBy (rs++[(f++[z],m,t)]) (f++[z])=false
    rw [hidBy_more (fun k hk e=>?_)]
    ·rw [hid_shut P.nd (fun k k0 k1=>?_) fun r hr h0=>?_]
     ·exact hsh hm2
     ·rw [List.length_append,List.length_singleton] at k1
      obtain ⟨o,mo,eo,fo⟩:=anc P.row _ f rfl (P.fol f hf) k k0 (by lia)
      exact ⟨o,mo,by rw [eo,List.take_append_of_le_length (by lia)],fo⟩
     ·rcases P.row r hr with c | c
      ·exact c.2
      ·exact absurd h0 c.1
    ·have:=congrArg List.length (show f++[z]=(f++[z]).take k from e)
     rw [List.length_take] at this
     lia
 refine ⟨A,fun hg=>⟨A.nd,A.row,A.blk,A.len,by simp,fun g hg2=>?_,?_,?_⟩⟩
 ·rcases List.mem_append.mp hg2 with q | q
  ·exact A.fol g q
  ·rw [List.mem_singleton.mp q]
   exact ⟨hw,.inr ⟨(f++[z],m,t),by simp,rfl,hg⟩⟩
 ·have:=P.fln
  rw [List.length_append,List.length_singleton]
  lia
 ·exact A.nu
theorem PInv.pane {i:Nat} {rs ts:List Row} {fs:List (List Str)} (P:PInv i rs fs) (hp:ts.Perm rs) (hs:RSorted ts):PaneOk ts∧(∀ r∈ts,Wy14 r.1)∧bulk ts≤i∧ts.length≤i+1∧∀ r∈ts,r.2.1=mGone∨r.2.1=mShut→hidBy ts r.1=false:=by
 have mem:∀ r,r∈ts→RowIn rs r:=fun r hr=>P.row r (hp.mem_iff.mp hr)
 refine ⟨⟨hs,fun r hr=>?_,fun r hr=>?_,fun r hr h0=>?_⟩,fun r hr=>?_,?_,?_,fun r hr hm=>?_⟩
 ·rcases mem r hr with h | ⟨h1,_,h3,_⟩
  ·exact .inl h.1
  ·rcases h3.2 with h | ⟨q,mq,e,g⟩
   ·exact .inr (.inl h)
   ·exact .inr (.inr ⟨q,hp.mem_iff.mpr mq,e,g.live⟩)
 ·rcases mem r hr with h | ⟨_,_,_,h4⟩
  ·exact .inr (.inr (.inl h.2))
  ·exact h4
 ·rcases mem r hr with h | ⟨h1,_⟩
  ·exact h.2
  ·exact absurd h0 h1
 ·rcases mem r hr with h | ⟨_,h2,_⟩
  ·rw [h.1]; exact .nil
  ·exact h2
 ·have:=P.blk
  unfold bulk at this ⊢
  rw [(hp.filter _).length_eq]
  exact this
 ·rw [hp.length_eq]
  exact P.len
 ·have nt:=rsorted_nd hs
  have:∀ w,markR ts w=markR rs w:=fun w=>by
   by_cases h:inR ts w=true
   ·obtain ⟨q,mq,e⟩:=List.mem_map.mp (of_decide_eq_true h)
    rw [← e,markR_mem nt mq,markR_mem P.nd (hp.mem_iff.mp mq)]
   ·have h2:inR rs w=false:=by
     rw [Bool.not_eq_true] at h
     refine decide_eq_false fun m=>of_decide_eq_false h ?_
     exact ((hp.map (·.1)).mem_iff).mpr m
    rw [Bool.not_eq_true] at h
    rw [markR_none h,markR_none h2]
  have e:hidBy ts r.1=hidBy rs r.1:=any_congr fun k _=>by rw [this]
  rw [e]
  exact P.nu r (hp.mem_iff.mp hr) hm
noncomputable def lkR (rs:List Row) (w:List Str):Str × Str:=((rs.find? fun r=>decide (r.1=w)).map (·.2)).getD (tEmpty,tEmpty)
theorem find_one {rs:List Row} (nd:(rs.map (·.1)).Nodup) {r:Row} (h:r∈rs):(rs.find? fun q=>decide (q.1=r.1))=some r:=by
 cases e:rs.find? fun q=>decide (q.1=r.1) with
 | none=>exact absurd (decide_eq_true rfl) (List.find?_eq_none.mp e r h)
 | some q =>
  have h1:=List.mem_of_find?_eq_some e
  have h2:q.1=r.1:=of_decide_eq_true (p:=q.1=r.1) (by simpa using List.find?_some e)
  rw [nodup_one nd h1 h h2]
theorem rows_of_ways {rs:List Row} (nd:(rs.map (·.1)).Nodup) {vs:List (List Str)} (hv:vs.Perm (rs.map (·.1))) (hs:vs.Pairwise (fun a b=>ltW a b=true)):(vs.map fun w=>(w,lkR rs w)).Perm rs∧RSorted (vs.map fun w=>(w,lkR rs w)):=by
 constructor
 ·refine (hv.map _).trans (List.Perm.of_eq ?_)
  rw [List.map_map]
  refine (List.map_congr_left fun r hr=>?_).trans (List.map_id _)
  show (r.1,lkR rs r.1)=r
  unfold lkR
  rw [find_one nd hr]
  rfl
 ·show List.Pairwise _ (List.map _ _)
  rw [List.pairwise_map]
  exact hs
theorem lkP_lkR {rs:List Row} (nd:(rs.map (·.1)).Nodup) {w:List Str} (h:w∈rs.map (·.1)):lkP (rs.map prR) w=some (thD (lkR rs w)):=by
 obtain ⟨r,mr,rfl⟩:=List.mem_map.mp h
 rw [lkP_pr]
 unfold lkR
 rw [find_one nd mr]
 rfl
noncomputable def s6 (u:Nat):Nat:=u % 99991 % 9+(u+96542 * 1) % 99991 % 9+(u+96542 * 2) % 99991 % 9+(u+96542 * 3) % 99991 % 9+(u+96542 * 4) % 99991 % 9+(u+96542 * 5) % 99991 % 9
end L2
namespace L2
open PySem PySem.Spec PyProof.Rows
section
variable {K:PySem.W.Frag} {B:Hp} {ad:Addr}
end
section
variable {X:Cx} {EX:St→XK} {pos p:Pos} {x y:Str} {es:List Expr} {tA:TVA}
end
end L2
namespace L2
open PySem PySem.Spec PyProof.Rows
noncomputable def rowAt (p:List Row) (w:List Str):Option (Str × Str):=(p.find? fun r=>decide (r.1=w)).map (·.2)
theorem markR_at (p:List Row) (w:List Str):markR p w=(rowAt p w).map (·.1):=by
 unfold markR rowAt
 rw [Option.map_map]
 rfl
theorem rowAt_mem {p:List Row} (nd:(p.map (·.1)).Nodup) {w:List Str} {x:Str × Str}:rowAt p w=some x↔(w,x)∈p:=by
 unfold rowAt
 constructor
 ·intro h
  obtain ⟨r,e,rfl⟩:=Option.map_eq_some_iff.mp h
  have h1:=List.mem_of_find?_eq_some e
  have h2:r.1=w:=of_decide_eq_true (p:=r.1=w) (by simpa using List.find?_some e)
  rw [← h2]
  exact h1
 ·intro h
  have:=find_one nd h
  rw [this]
  rfl
theorem rowAt_none {p:List Row} {w:List Str}:rowAt p w=none↔w∉p.map (·.1):=by
 unfold rowAt
 rw [Option.map_eq_none_iff,List.find?_eq_none]
 constructor
 ·intro h m
  obtain ⟨r,mr,e⟩:=List.mem_map.mp m
  exact h r mr (decide_eq_true e)
 ·intro h r mr e
  exact h (List.mem_map.mpr ⟨r,mr,of_decide_eq_true e⟩)
theorem opt_ext {β:Type} {a b:Option β} (h:∀ x,a=some x↔b=some x):a=b:=by
 cases a with
 | none =>
  cases b with
  | none=>rfl
  | some y=>exact absurd ((h y).mpr rfl) (by simp)
 | some x=>exact ((h x).mp rfl).symm
theorem rowAt_perm {p q:List Row} (hp:p.Perm q) (nd:(p.map (·.1)).Nodup) (w:List Str):rowAt p w=rowAt q w :=
 opt_ext fun x=>by rw [rowAt_mem nd,rowAt_mem ((hp.map (·.1)).nodup_iff.mp nd),hp.mem_iff]
theorem rsorted_ext {p q:List Row} (h1:RSorted p) (h2:RSorted q) (h:∀ w,rowAt p w=rowAt q w):p=q:=by
 have n1:=rsorted_nd h1
 have n2:=rsorted_nd h2
 have nn:∀ {p:List Row},(p.map (·.1)).Nodup→p.Nodup:=fun {p} n=>by
  rw [List.nodup_iff_pairwise_ne,List.pairwise_map] at n
  rw [List.nodup_iff_pairwise_ne]
  exact n.imp fun a e=>a (by rw [e])
 refine rsorted_one ((List.perm_ext_iff_of_nodup (nn n1) (nn n2)).mpr fun r=>?_) h1 h2
 rw [show r=(r.1,r.2) from rfl,← rowAt_mem n1,← rowAt_mem n2,h]
noncomputable def pmark (m:Str) (bare closing:Bool):Option Str :=
 if (bare && decide (m=mGone))=true then none else if (bare && decide (m=mShut))=true then some mFolder else if (!bare && closing && decide (m=mFolder))=true then some mShut else some m
noncomputable def pAt (u l:List Row) (w:List Str):Option (Str × Str):=match rowAt u w with
 | some x=>(pmark x.1 (hidBy l w) (hidesO (markR l w) && !hidBy u w)).map fun m=>(m,x.2)
 | none=>if hidBy u w=true then none else rowAt l w
noncomputable def chR (u l:List Row):List Row:=u.filterMap fun r=>(pmark r.2.1 (hidBy l r.1) (hidesO (markR l r.1) && !hidBy u r.1)).map fun m=>(r.1,m,r.2.2)
noncomputable def pressL (u l:List Row):List Row:=aloneR u l++chR u l
theorem ch_mem {u l:List Row} {r:Row}:r∈chR u l↔∃ q∈u,q.1=r.1∧q.2.2=r.2.2∧pmark q.2.1 (hidBy l r.1) (hidesO (markR l r.1) && !hidBy u r.1)=some r.2.1:=by
 unfold chR
 rw [List.mem_filterMap]
 constructor
 ·rintro ⟨q,mq,e⟩
  obtain ⟨m,e1,rfl⟩:=Option.map_eq_some_iff.mp e
  exact ⟨q,mq,rfl,rfl,e1⟩
 ·rintro ⟨q,mq,e1,e2,e3⟩
  refine ⟨q,mq,?_⟩
  rw [e1,e3,e2]
  rfl
theorem ch_sub (u l:List Row):((chR u l).map (·.1)).Sublist (u.map (·.1)):=by
 have:∀ (f:Row→Option Str) (xs:List Row),((xs.filterMap fun r=>(f r).map fun m=>(r.1,m,r.2.2)).map (·.1)).Sublist (xs.map (·.1)):=by
  intro f xs
  induction xs with
  | nil=>exact .slnil
  | cons x xs ih =>
   cases e:f x with
   | none =>
    rw [List.filterMap_cons_none (by rw [e]; rfl)]
    exact ih.cons _
   | some m =>
    rw [List.filterMap_cons_some (by rw [e]; rfl)]
    exact ih.cons₂ _
 exact this _ u
theorem press_nd {u l:List Row} (hu:(u.map (·.1)).Nodup) (hl:(l.map (·.1)).Nodup):((pressL u l).map (·.1)).Nodup:=by
 unfold pressL
 rw [List.map_append,List.nodup_append]
 refine ⟨hl.sublist ((List.filter_sublist).map _),hu.sublist (ch_sub u l),fun x hx y hy e=>?_⟩
 subst e
 obtain ⟨r,mr,rfl⟩:=List.mem_map.mp hx
 have h2:inR u r.1=true:=decide_eq_true ((ch_sub u l).subset hy)
 have h1:=(List.mem_filter.mp mr).2
 rw [h2] at h1
 cases h1
theorem press_at {u l:List Row} (hu:(u.map (·.1)).Nodup) (hl:(l.map (·.1)).Nodup) (w:List Str):rowAt (pressL u l) w=pAt u l w:=by
 refine opt_ext fun x=>?_
 rw [rowAt_mem (press_nd hu hl)]
 unfold pressL
 rw [List.mem_append]
 unfold pAt
 cases e:rowAt u w with
 | none =>
  have nu:=rowAt_none.mp e
  have n1:(w,x)∉chR u l:=fun m=>by
   obtain ⟨q,mq,e1,_⟩:=ch_mem.mp m
   exact nu (List.mem_map.mpr ⟨q,mq,e1⟩)
  have i0:inR u w=false:=decide_eq_false nu
  constructor
  ·rintro (m | m)
   ·obtain ⟨m1,m2⟩:=List.mem_filter.mp m
    have m3:hidBy u w=false:=by
     rw [i0] at m2
     simpa using m2
    rw [m3]
    exact (rowAt_mem hl).mpr m1
   ·exact absurd m n1
  ·intro h
   cases hh:hidBy u w with
   | true=>rw [hh] at h; cases h
   | false =>
    rw [hh] at h
    left
    refine List.mem_filter.mpr ⟨(rowAt_mem hl).mp h,?_⟩
    rw [i0,hh]
    rfl
 | some y =>
  have mu:=(rowAt_mem hu).mp e
  have i1:inR u w=true:=decide_eq_true (List.mem_map.mpr ⟨_,mu,rfl⟩)
  constructor
  ·rintro (m | m)
   ·have:=(List.mem_filter.mp m).2
    rw [i1] at this
    cases this
   ·obtain ⟨q,mq,e1,e2,e3⟩:=ch_mem.mp m
    have:q=(w,y):=nodup_one hu mq mu e1
    rw [this] at e2 e3
    refine Option.map_eq_some_iff.mpr ⟨_,e3,?_⟩
    show (x.1,y.2)=x
    rw [show y.2=x.2 from e2]
  ·intro h
   right
   obtain ⟨m,e1,rfl⟩:=Option.map_eq_some_iff.mp h
   exact ch_mem.mpr ⟨_,mu,rfl,rfl,e1⟩
theorem hid_press {u l p:List Row} (h:∀ w,rowAt p w=pAt u l w) (w:List Str):hidBy p w=(hidBy u w || hidBy l w):=by
 induction hn:w.length generalizing w with
 | zero =>
  rw [List.length_eq_zero_iff.mp hn]
  rfl
 | succ n ih =>
  have h0:w≠[]:=fun z=>by rw [z] at hn; cases hn
  have hd:w.dropLast.length=n:=by rw [List.length_dropLast]; lia
  rw [hidBy_snoc p h0,hidBy_snoc u h0,hidBy_snoc l h0,ih _ hd,markR_at p,h]
  unfold pAt
  rw [markR_at u]
  cases hU:hidBy u w.dropLast <;> cases hL:hidBy l w.dropLast <;> simp only [Bool.or_true,Bool.true_or,Bool.false_or,Bool.or_false,Bool.not_false,Bool.and_true,Bool.not_true,Bool.and_false]
  cases e:rowAt u w.dropLast with
  | none=>rw [markR_at l]; simp [hidesO]
  | some x =>
   simp only [pmark,Bool.false_and,Bool.false_eq_true,if_false,Bool.not_false,Bool.true_and]
   by_cases m:x.1=mFolder
   ·cases hh:hidesO (markR l w.dropLast) with
    | true=>simp [m,hidesO,mne.1]
    | false=>simp [m,hidesO]
   ·simp [m,hidesO]
theorem pmark_cases (m:Str):m=mGone∨m=mShut∨m=mFolder∨(m≠mGone∧m≠mShut∧m≠mFolder):=by
 by_cases h1:m=mGone
 ·exact .inl h1
 by_cases h2:m=mShut
 ·exact .inr (.inl h2)
 by_cases h3:m=mFolder
 ·exact .inr (.inr (.inl h3))
 ·exact .inr (.inr (.inr ⟨h1,h2,h3⟩))
theorem pm_gone (b c:Bool):pmark mGone b c=if b=true then none else some mGone:=by
 unfold pmark
 cases b <;> cases c <;> simp [mne.2.1,mne.2.2.2.2.1]
theorem pm_shut (b c:Bool):pmark mShut b c=if b=true then some mFolder else some mShut:=by
 unfold pmark
 cases b <;> cases c <;> simp [mne.1,Ne.symm mne.2.2.2.2.1]
theorem pm_folder (b c:Bool):pmark mFolder b c=if (!b && c)=true then some mShut else some mFolder:=by
 unfold pmark
 cases b <;> cases c <;> simp [Ne.symm mne.1,Ne.symm mne.2.1]
theorem pm_else {m:Str} (h:m≠mGone∧m≠mShut∧m≠mFolder) (b c:Bool):pmark m b c=some m:=by
 unfold pmark
 simp [h.1,h.2.1,h.2.2]
theorem hd_shut:hidesO (some mShut)=true:=by simp [hidesO,mne.1]
structure PaneC (p:List Row):Prop where
 so:RSorted p
 cl:∀ r∈p,r.1=[]∨r.1.dropLast=[]∨∃ q∈p,q.1=r.1.dropLast∧q.2.1≠mGone
theorem PaneC.clo {p:List Row} (h:PaneC p):Clo p:=⟨h.so,fun r hr=>(h.cl r hr).imp id fun z=>z.imp id fun ⟨q,mq,e,_⟩=>List.mem_map.mpr ⟨q,mq,e⟩⟩
theorem pm_live {m:Str} (h:m≠mGone) (b c:Bool):∃ m',pmark m b c=some m'∧m'≠mGone:=by
 rcases pmark_cases m with rfl | rfl | rfl | hx
 ·exact absurd rfl h
 ·rw [pm_shut]
  cases b
  ·exact ⟨mShut,rfl,Ne.symm mne.2.2.2.2.1⟩
  ·exact ⟨mFolder,rfl,Ne.symm mne.2.1⟩
 ·rw [pm_folder]
  split
  ·exact ⟨mShut,rfl,Ne.symm mne.2.2.2.2.1⟩
  ·exact ⟨mFolder,rfl,Ne.symm mne.2.1⟩
 ·exact ⟨m,pm_else hx b c,h⟩
theorem pressed_ok {u l p:List Row} (U:PaneC u) (L:PaneC l) (hp:p.Perm (pressL u l)) (hs:RSorted p):PaneC p:=by
 have nu:=rsorted_nd U.so
 have live:∀ q∈u,q.2.1≠mGone→∃ o∈p,o.1=q.1∧o.2.1≠mGone:=fun q mq hq=>by
  obtain ⟨m',e,h'⟩:=pm_live hq (hidBy l q.1) (hidesO (markR l q.1) && !hidBy u q.1)
  exact ⟨(q.1,m',q.2.2),hp.mem_iff.mpr (List.mem_append_right _ (ch_mem.mpr ⟨q,mq,rfl,rfl,e⟩)),rfl,h'⟩
 refine ⟨hs,fun r hr=>?_⟩
 by_cases h0:r.1=[]
 ·exact .inl h0
 by_cases h1:r.1.dropLast=[]
 ·exact .inr (.inl h1)
 right; right
 rcases List.mem_append.mp (hp.mem_iff.mp hr) with m | m
 ·obtain ⟨ml,hb⟩:=List.mem_filter.mp m
  have hb':inR u r.1=false∧hidBy u r.1=false:=by simpa using hb
  have hs2:=hidBy_snoc u h0
  rw [hb'.2] at hs2
  have hs3:hidBy u r.1.dropLast=false∧hidesO (markR u r.1.dropLast)=false:=by simpa using hs2.symm
  rcases L.cl r ml with c | c | ⟨q,mq,e,g⟩
  ·exact absurd c h0
  ·exact absurd c h1
  ·by_cases hin:inR u r.1.dropLast=true
   ·obtain ⟨o,mo,eo⟩:=List.mem_map.mp (of_decide_eq_true hin)
    have e1:o.2.1=mFolder:=by
     have:=hs3.2
     rw [← eo,markR_mem nu mo] at this
     simpa [hidesO] using this
    obtain ⟨x,mx,ex,gx⟩:=live o mo (by rw [e1]; exact Ne.symm mne.2.1)
    exact ⟨x,mx,by rw [ex,eo],gx⟩
   ·rw [Bool.not_eq_true] at hin
    refine ⟨q,hp.mem_iff.mpr (List.mem_append_left _ (List.mem_filter.mpr ⟨mq,?_⟩)),e,g⟩
    rw [e,hin,hs3.1]
    rfl
 ·obtain ⟨q,mq,e1,_⟩:=ch_mem.mp m
  rcases U.cl q mq with c | c | ⟨o,mo,eo,go⟩
  ·exact absurd (e1 ▸ c) h0
  ·exact absurd (e1 ▸ c) h1
  ·obtain ⟨x,mx,ex,gx⟩:=live o mo go
   exact ⟨x,mx,by rw [ex,eo,e1],gx⟩
theorem ch_len (u l:List Row):(chR u l).length≤u.length:=List.length_filterMap_le _ _
theorem press_len (u l:List Row):(pressL u l).length≤l.length+u.length:=by
 unfold pressL aloneR
 rw [List.length_append]
 have:=ch_len u l
 have:=List.length_filter_le (fun r:Row=>!inR u r.1 && !hidBy u r.1) l
 lia
section
variable {α:Type} {f:α→D} {τ:VSt} {k:Nat} {g:TVG} {ti:TVT} {te:TV} {Q:R→Prop}
end
noncomputable def panesL (ps:List (List Row)):D:=.lst (ps.map rowsL)
theorem ins_ex (r:Row):∀ ts:List Row,RSorted ts→r.1∉ts.map (·.1)→∃ us:List Row,us.Perm (r :: ts)∧RSorted us
 | [],_,_=>⟨[r],.refl _,List.pairwise_singleton _ _⟩
 | t :: ts,h,hn=>by
  have h':=List.pairwise_cons.mp h
  rw [List.map_cons,List.mem_cons,not_or] at hn
  rcases ltW_tot hn.1 with q | q
  ·refine ⟨r :: t :: ts,.refl _,List.pairwise_cons.mpr ⟨fun x hx=>?_,h⟩⟩
   rcases List.mem_cons.mp hx with e | hx
   ·rw [e]; exact q
   ·exact ltW_tr q (h'.1 x hx)
  ·obtain ⟨us,p1,p2⟩:=ins_ex r ts h'.2 hn.2
   refine ⟨t :: us,(p1.cons t).trans (.swap r t ts),List.pairwise_cons.mpr ⟨fun x hx=>?_,p2⟩⟩
   rcases List.mem_cons.mp (p1.mem_iff.mp hx) with e | hx
   ·rw [e]; exact q
   ·exact h'.1 x hx
theorem sort_ex:∀ rs:List Row,(rs.map (·.1)).Nodup→∃ ts:List Row,ts.Perm rs∧RSorted ts
 | [],_=>⟨[],.nil,.nil⟩
 | r :: rs,h=>by
  rw [List.map_cons,List.nodup_cons] at h
  obtain ⟨ts,p1,p2⟩:=sort_ex rs h.2
  obtain ⟨us,q1,q2⟩:=ins_ex r ts p2 fun m=>h.1 (((p1.map (·.1)).mem_iff).mp m)
  exact ⟨us,q1.trans (p1.cons r),q2⟩
theorem sortR_ok {rs:List Row} (h:(rs.map (·.1)).Nodup):(sortR rs).Perm rs∧RSorted (sortR rs):=by
 obtain ⟨ts,p1,p2⟩:=sort_ex rs h
 rw [sortR_eq p1 p2]
 exact ⟨p1,p2⟩
theorem laid_ok {p tr:List Row} (P:PaneOk p) (T:TreeOk tr):TreeOk (laidR p tr)∧(laidR p tr).Perm (aloneR p tr++putR p) :=
 let ⟨p1,p2⟩:=sortR_ok (laid_nd (rsorted_nd P.so) (rsorted_nd T.so))
 ⟨laid_tree P T p1 p2,p1⟩
noncomputable def pressR (u l:List Row):List Row:=sortR (pressL u l)
theorem PaneOk.c {p:List Row} (P:PaneOk p):PaneC p:=⟨P.so,P.cl⟩
theorem pressR_ok {u l:List Row} (U:PaneC u) (L:PaneC l):PaneC (pressR u l)∧(pressR u l).Perm (pressL u l)∧∀ w,rowAt (pressR u l) w=pAt u l w:=by
 have nd:=press_nd (rsorted_nd U.so) (rsorted_nd L.so)
 obtain ⟨p1,p2⟩:=sortR_ok nd
 have p1':(pressR u l).Perm (pressL u l):=p1
 refine ⟨pressed_ok U L p1 p2,p1,fun w=>?_⟩
 rw [rowAt_perm p1' (rsorted_nd p2),press_at (rsorted_nd U.so) (rsorted_nd L.so)]
theorem len_bulk {rs:List Row} (nd:(rs.map (·.1)).Nodup):rs.length≤bulk rs+1:=by
 unfold bulk
 induction rs with
 | nil=>exact Nat.zero_le _
 | cons r rs ih =>
  rw [List.map_cons,List.nodup_cons] at nd
  by_cases h0:r.1=[]
  ·have all:(rs.filter fun r=>!decide (r.1=[]))=rs:=List.filter_eq_self.mpr fun q hq=>by
    have:q.1≠[]:=fun z=>nd.1 (List.mem_map.mpr ⟨q,hq,by rw [z,h0]⟩)
    simp [this]
   rw [List.filter_cons_of_neg (by simp [h0]),all]
   exact Nat.le_refl _
  ·rw [List.filter_cons_of_pos (by simp [h0]),List.length_cons,List.length_cons]
   have:=ih nd.2
   lia
theorem bulk_perm {p q:List Row} (h:p.Perm q):bulk p=bulk q:=by
 unfold bulk
 exact (h.filter _).length_eq
theorem press_bulk (u l:List Row):bulk (pressL u l)≤bulk l+bulk u:=by
 unfold bulk pressL
 rw [List.filter_append,List.length_append]
 have h1:((aloneR u l).filter fun r=>!decide (r.1=[])).length≤(l.filter fun r=>!decide (r.1=[])).length:=by
  unfold aloneR
  rw [List.filter_filter]
  have e:(l.filter fun r=>(!decide (r.1=[])) && (!inR u r.1 && !hidBy u r.1))=(l.filter fun r=>!decide (r.1=[])).filter fun r=>!inR u r.1 && !hidBy u r.1:=by
   rw [List.filter_filter]
   congr 1
   funext r
   exact Bool.and_comm _ _
  rw [e]
  exact List.length_filter_le _ _
 have h2:((chR u l).filter fun r=>!decide (r.1=[])).length≤(u.filter fun r=>!decide (r.1=[])).length:=by
  have e1:((chR u l).filter fun r=>!decide (r.1=[])).length=(((chR u l).map (·.1)).filter fun w=>!decide (w=[])).length:=by
   rw [List.filter_map,List.length_map]
   rfl
  have e2:(u.filter fun r=>!decide (r.1=[])).length=((u.map (·.1)).filter fun w=>!decide (w=[])).length:=by
   rw [List.filter_map,List.length_map]
   rfl
  rw [e1,e2]
  exact ((ch_sub u l).filter _).length_le
 lia
noncomputable def s5 (u:Nat):Nat:=u % 99991 % 8+(u+96542 * 1) % 99991 % 8+(u+96542 * 2) % 99991 % 8+(u+96542 * 3) % 99991 % 8+(u+96542 * 4) % 99991 % 8
theorem v_if {t:TVT} {a b:TVS} {Dv:VEnds} {τ:VSt} (P:Bool→Prop) (ht:∀ Y:Bool→Prop,(∀ c,P c→Y c)→t τ Y) (ha:P true→a Dv τ) (hb:P false→b Dv τ):vIfS t a b Dv τ :=
 ht _ fun c hc=>by
  cases c with
  | true=>exact iteT (ha hc)
  | false=>exact iteF (hb hc)
end L2
namespace L2
open PySem PySem.Spec PyProof.Rows
section
variable {X:Cx} {pins:List (Addr × Obj)} {σ:St} {H:Hp} {s:Shared} {h':Heap}
end
section
variable {X:Cx} {elts:List Expr} {kk:Nat} {tp p pos:Pos}
end
section
variable {X:Cx} {EX:St→XK} {elts:List Expr} {kk:Nat} {tp p pos:Pos} {K:PySem.W.Frag} {B:Hp} {a:Expr} {ta:TV}
end
end L2
namespace L2
open PySem PySem.Spec PyProof.Rows
section
variable {prog:Program} {w:World} {A:Around}
end
section
variable {X:Cx} {p kp pos:Pos} {a d:Expr}
end
section
variable {X:Cx} {EX:St→XK} {p kp pos cp:Pos} {a:Expr} {te:TV} {j:Nat}
end
end L2
namespace L2
open PySem PySem.Spec PyProof.Rows
section
variable {X:Cx} {EX:St→XK} {pos pos' p apos cpos:Pos} {x y:Str} {e:Expr}
end
end L2
namespace L2
open PySem PySem.Spec PyProof.Rows
section
variable {X:Cx} {pins:List (Addr × Obj)} {σ:St} {H:Hp} {s:Shared} {tg:Expr}
end
section
variable {X:Cx} {EX:St→XK} {K:PySem.W.Frag} {B H:Hp} {tg:Expr} {x:Str} {pos:Pos} {rest:List Stmt} {t:TVS}
end
end L2
namespace L2
open PySem PySem.Spec PyProof.Rows
section
variable {X:Cx}
end
section
variable {X:Cx} {EX:St→XK} {pos pos' p apos cpos:Pos} {x:Str} {e:Expr} {es:List Expr} {te:TV} {tA:TVA} {K:PySem.W.Frag} {B B' H H0:Hp} {τ:VSt} {σ:St}
end
end L2
namespace L2
open PySem PySem.Spec PyProof.Rows
section
variable {X:Cx} {pins:List (Addr × Obj)} {σ:St} {H:Hp} {s:Shared} {st:Stmt} {rest:List Stmt}
end
section
variable {X:Cx} {EX:St→XK} {K:PySem.W.Frag} {B B' H H0:Hp} {τ:VSt} {σ:St} {x:Str} {e:Expr} {te:TV} {rest:List Stmt} {u:TVS} {pos pos':Pos}
end
end L2
namespace L2
open PySem PySem.Spec PyProof.Rows
section
variable {X:Cx} {EX:St→XK} {pos p cpos:Pos} {x y:Str} {e:Expr} {es:List Expr} {tA:TVA} {K:PySem.W.Frag} {B B' H H0:Hp} {τ:VSt} {σ:St}
end
end L2
namespace L2
open PySem PySem.Spec PyProof.Rows
section
variable {X:Cx} {elts:List Expr} {kk:Nat} {tp p pos:Pos}
end
section
variable {X:Cx} {EX:St→XK} {elts:List Expr} {kk:Nat} {tp p pos:Pos} {K:PySem.W.Frag} {B:Hp} {a b:Expr} {ta tb:TV}
end
section
variable {X:Cx} {EX:St→XK}
noncomputable def rLtD (K:PySem.W.Frag):R2:=fun x y H Q=>∃ d e,Rep K H d x∧Rep K H e y∧ordD d e=true∧depD d≤50∧Q (.bl (ltD d e)) H
theorem op_ltD (hu:X.A.units+60 < cLine):OpR X (compareOp .Lt) (rLtD X.K):=by
 intro pins s σ H x y v u Q I rx ry h
 obtain ⟨d,e,hd,he,hc,hn,q⟩:=h
 exact ltAt_D I _ X.A d e x y v u (Nat.le_refl _) hd he rx ry hc (by lia) X.prog X.w X.xe _ ⟨.bl (ltD d e),H,I,rfl,q⟩
noncomputable def vLtD (rx ry:R) (Q:R→Prop):Prop:=ordD rx.d ry.d=true∧depD rx.d≤50∧Q (.val (.bl (ltD rx.d ry.d)))
theorem vo_ltD (hu:X.A.units+64 < cLine):VO X (compareOp .Lt) vLtD:=⟨_,op_ltD (by lia),fun B H x y rx ry Q Qd s px py h k=>⟨rx.d,ry.d,px.rep s,py.rep s,h.1,h.2.1,k (.val (.bl (ltD rx.d ry.d))) _ B H (.refl s) (repV rfl) h.2.2⟩⟩
end
end L2
namespace L2
open PySem PySem.Spec PyProof.Rows Builtin.Str
section
variable {X:Cx}
noncomputable abbrev TJ:=St→Hp→Str→VK→Prop
structure QJ (X:Cx) (vs:List Expr) (t:TJ):Prop where
 u:∀ (pins:List (Addr × Obj)) (s:Shared) (σ:St) (H:Hp) (out:Str) (Q:VK),Inv X pins σ H s→t σ H out Q→wpAny (model X.prog X.w) X.A (joinParts out (evalEach vs X.env)) (EP X pins σ Q) X.xe s
end
section
variable {X:Cx} {EX:St→XK} {K:PySem.W.Frag} {o e e1 e2:Expr} {to te t1 t2:TV} {apos cpos p pos:Pos} {x:Str} {rest:List Expr}
noncomputable abbrev TVJ:=VSt→Str→(R→Prop)→Prop
noncomputable def RfJ (K:PySem.W.Frag) (t:TJ) (u:TVJ):Prop:=∀ (H0 B H:Hp) (τ:VSt) (σ:St) (out:Str) (Q:VK) (Qd:R→Prop),Same B H→Slots K H0 B H τ σ→u τ out Qd→(∀ r v B' H',Stp B H B' H'→RepR K B' H H' r v→Qd r→Q v H')→t σ H out Q
structure VJ (X:Cx) (EX:St→XK) (vs:List Expr) (t:TVJ):Prop where
 u:∃ tj,QJ X vs tj∧RfJ X.K tj t
end
end L2
namespace L2
open PySem PySem.Spec PyProof.Rows
section
variable {X:Cx} {EX:St→XK} {K:PySem.W.Frag} {B H H0:Hp} {e:Expr} {t:TV} {τ:VSt} {σ:St}
theorem Slots.frzE (S:Slots K H0 B H τ σ) (s:Same B H) (i:Nat):∃ B2,Same B B2∧Same B2 H∧Slots K H0 B2 H (L2.frz i τ) σ:=by
 unfold L2.frz
 split
 ·rename_i d e
  obtain ⟨a,q,h0,hb,o⟩:=S.own i d e
  obtain ⟨u,eu,rp⟩:=o.pub hb
  refine ⟨L2.upd B a u,same_upd hb _,same_updL s eu,?_⟩
  refine ⟨by rw [List.length_set,S.len],fun j f q'=>?_,fun j f q'=>?_,fun j f q'=>?_,fun j k f g c q1 q2 q3 q4=>?_⟩
  ·rcases getSet q' with ⟨rfl,z,l⟩ | ⟨n,q'⟩
   ·cases z
    exact ⟨_,q,rp⟩
   ·obtain ⟨w,q1,r⟩:=S.val j f q'
    exact ⟨w,q1,r.same (same_upd hb _)⟩
  ·rcases getSet q' with ⟨rfl,z,l⟩ | ⟨n,q'⟩
   ·cases z
   ·obtain ⟨w,q1,r⟩:=S.fz j f q'
    exact ⟨w,q1,r.same (same_upd hb _)⟩
  ·rcases getSet q' with ⟨rfl,z,l⟩ | ⟨n,q'⟩
   ·cases z
   ·obtain ⟨c,q1,h0',hb',w⟩:=S.own j f q'
    have ne:c≠a:=fun z=>by subst z; exact n (S.sep i j d f c e q' q q1)
    exact ⟨c,q1,h0',by rw [upd_ne ne]; exact hb',w.step (same_upd hb _) rfl⟩
  ·rcases getSet q1 with ⟨rfl,z,l⟩ | ⟨n,q1⟩
   ·cases z
   rcases getSet q2 with ⟨rfl,z,l⟩ | ⟨n2,q2⟩
   ·cases z
   exact S.sep j k f g c q1 q2 q3 q4
 ·exact ⟨B,Same.refl _,s,S⟩
noncomputable def vLendE (i:Nat) (t:TV):TV:=fun τ Q=>t (frz i τ) fun r=>scalR r Q
theorem ve_lend (i:Nat) (h:VE X EX e t):VE X EX e (vLendE i t) :=
 let ⟨_,a1,a2⟩:=h.u; ⟨_,a1,fun H0 B H τ σ Q Qd s S h xc kk=>by
  obtain ⟨B2,s1,s2,S2⟩:=S.frzE s i
  refine a2 H0 B2 H _ σ Q (fun r=>scalR r Qd) s2 S2 h (fun n C B' H' p c q=>(show False from q).elim) fun r v B' H' p q hq=>?_
  unfold scalR at hq
  split at hq
  ·rename_i d'
   split at hq
   ·rename_i z ez
    have:=(show Pk X.K B' H' (.val d') v from q).scal ez
    subst this
    exact kk (.val d') _ B H' (.grow s p.h) (repV ez) hq
   ·exact hq.elim
  ·exact hq.elim⟩
end
end L2
namespace L2
open PySem PySem.Spec PyProof.Rows
noncomputable def hidH (H:Hp) (c:Addr):Hp:=fun b=>if b=c then none else H b
theorem hid_ne {H:Hp} {b c:Addr} (n:b≠c):hidH H c b=H b:=if_neg n
theorem hid_at {H:Hp} {c:Addr}:hidH H c c=none:=if_pos rfl
theorem hid_same {H:Hp} {c:Addr}:Same (hidH H c) H:=fun b o e=>by
 by_cases z:b=c
 ·subst z
  rw [hid_at] at e
  cases e
 ·rw [hid_ne z] at e
  exact e
section
variable {X:Cx} {EX:St→XK} {K:PySem.W.Frag} {B H B' H' H0 B0 B1 H1:Hp} {st:Stmt} {rest:List Stmt} {t u:TVS} {e a:Expr} {te ta:TV} {tT:TVT} {tA:TVA} {es:List Expr} {pos pos' p p2 apos cpos:Pos} {x y:Str} {τ:VSt} {σ:St} {r:R} {v:V}
theorem own_io {c ad:Addr} {ds:List D} (h:OwnAt K B H (.io c ds) ad):ad=c∧∃ xs,H ad=some (.lst xs)∧Reps K B ds xs:=let ⟨xs,e,z,r⟩:=h; ⟨z,xs,e,r⟩
theorem io_own {c:Addr} {ds:List D} {xs:List V} (h:H c=some (.lst xs)) (r:Reps K B ds xs):OwnAt K B H (.io c ds) c:=⟨xs,h,rfl,r⟩
theorem Slots.io (S:Slots K H0 B H τ σ) {j:Nat} {ds:List D} (e:τ[j]?=some (some (.own (.lst ds)))):∃ c,Slots K H0 B H (τ.set j (some (.own (.io c ds)))) σ:=by
 obtain ⟨c,q,h0,hb,xs,hx,rp⟩:=S.own j _ e
 refine ⟨c,by rw [List.length_set,S.len],fun k d q'=>?_,fun k d q'=>?_,fun k d q'=>?_,fun k l d f b q1 q2 q3 q4=>?_⟩
 ·rcases getSet q' with ⟨rfl,z,_⟩ | ⟨_,q'⟩
  ·cases z
  ·exact S.val k d q'
 ·rcases getSet q' with ⟨rfl,z,_⟩ | ⟨_,q'⟩
  ·cases z
  ·exact S.fz k d q'
 ·rcases getSet q' with ⟨rfl,z,_⟩ | ⟨_,q'⟩
  ·cases z
   exact ⟨c,q,h0,hb,io_own hx rp⟩
  ·exact S.own k d q'
 ·have hk:∃ d',τ[k]?=some (some (.own d')):=by
   rcases getSet q1 with ⟨rfl,_,_⟩ | ⟨_,q'⟩
   ·exact ⟨_,e⟩
   ·exact ⟨_,q'⟩
  have hl:∃ d',τ[l]?=some (some (.own d')):=by
   rcases getSet q2 with ⟨rfl,_,_⟩ | ⟨_,q'⟩
   ·exact ⟨_,e⟩
   ·exact ⟨_,q'⟩
  obtain ⟨_,hk⟩:=hk
  obtain ⟨_,hl⟩:=hl
  exact S.sep k l _ _ b hk hl q3 q4
noncomputable def vIo (j:Nat) (t:TVS):TVS:=fun Dv τ=>match τ[j]? with
 | some (some (.own (.lst ds)))=>∀ c:Addr,t Dv (τ.set j (some (.own (.io c ds))))
 | _=>False
theorem vss_io (j:Nat) (h:VSs X EX rest t):VSs X EX rest (vIo j t) :=
 let ⟨_,a1,a2⟩:=h.u; ⟨_,a1,fun B0 H0 B H τ σ Dv Dh p S h E=>by
  unfold vIo at h
  split at h
  ·rename_i ds e
   obtain ⟨c,S2⟩:=S.io e
   exact a2 B0 H0 B H _ σ _ _ p S2 (h c) E
  ·exact h.elim⟩
noncomputable def vVarI (i:Nat):TV:=fun τ Q=>match τ[i]? with
 | some (some (.own (.io _ ds)))=>Q (.peek (.lst ds))
 | _=>False
theorem rf_varI {i:Nat}:RfE K EX (tVar i) (vVarI i):=fun H0 B H τ σ Q Qd s S h _ k=>by
 unfold vVarI at h
 split at h
 ·rename_i c ds e
  obtain ⟨ad,q,_,hb,ow⟩:=S.own i _ e
  obtain ⟨_,xs,hx,rp⟩:=own_io ow
  exact ⟨.ref ad,q,k (.peek (.lst ds)) (.ref ad) B H (.refl s) ⟨ad,rfl,hb,xs,hx,rp⟩ h⟩
 ·exact h.elim
theorem vvI (i:Nat) (hN:X.N[i]?=some x:=by rfl) (hv:Vis X.env.scope x:=by first | exact Or.inl rfl | exact Or.inr (Or.inl rfl) | exact Or.inr (Or.inr rfl)) (hd:(x == ("__debug__" : Str))=false:=by decide)
  (hcd:(x == ("__classdict__" : Str))=false:=by decide):VE X EX (.Name x pos) (vVarI i):=⟨_,qv i hN hv hd hcd,rf_varI⟩
noncomputable def vAppendI (i:Nat) (te:TV):TVS:=fun Dv τ=>match τ[i]? with
 | some (some (.own (.io c ds)))=>te τ fun r=>exS τ Dv r (pubR r fun d=>ds.length < sizeLine∧Dv.nx (τ.set i (some (.own (.io c (ds++[d]))))))
 | _=>False
theorem vs_appendI (i:Nat) (h:VE X EX e te) (hN:X.N[i]?=some x:=by rfl) (hv:Vis X.env.scope x:=by first | exact Or.inl rfl | exact Or.inr (Or.inl rfl) | exact Or.inr (Or.inr rfl)) (hd:(x == ("__debug__" : Str))=false:=by decide)
  (hcd:(x == ("__classdict__" : Str))=false:=by decide) (hp:plainE e=true:=by rfl)
  (hbase:attributeBase (.Name x p) "append" X.env (eval (.Name x p) X.env)=eval (.Name x p) X.env:=by rfl) (hline:(apos.endLine == cpos.line)=true:=by rfl)
  (hs:swapsWith (.Call (.Attribute (.Name x p) "append" apos) [e] [] cpos) none pos.line X.env=pure false:=by rfl) :
  VS X EX (.Expr (.Call (.Attribute (.Name x p) "append" apos) [e] [] cpos) pos) (vAppendI i te) :=
 let ⟨_,a1,a2⟩:=h.u; ⟨_,qs_expr (qbm PySem.F.plainAttrs_list PySem.F.slot_list_append PySem.F.type_list_append mt_append (qv i hN hv hd hcd) (qac a1 qa_nil hp) (by simp [hp]) rfl hbase hline) hs,fun B0 H0 B H τ σ Dv Dh p S h E=>by
  unfold vAppendI at h
  split at h
  ·rename_i c ds e1
   obtain ⟨ad,e2,h0,_,ow⟩:=S.own i _ e1
   obtain ⟨rfl,xs,e3,_⟩:=own_io ow
   refine ⟨.ref ad,e2,.inl ⟨rfl,xs,SqL.of e3⟩,a2 H0 B H τ σ _ _ p.s S h (E.raised p S) fun r v B' H' q hr hq=>?_⟩
   obtain ⟨d,B2,q2,_,rp,hz,hn⟩:=pub q hr (hr.okS hq)
   have S2:=S.step q2
   obtain ⟨a',q1,_,hb2,ow2⟩:=S2.own i _ e1
   rw [e2] at q1
   cases q1
   obtain ⟨_,xs2,q4,q3⟩:=own_io ow2
   refine ⟨ad,xs2,v,rfl,rfl,q4,by rw [← q3.length]; exact hz,?_⟩
   exact E.nx B2 _ _ σ ((p.trans q2).upd h0 hb2) (S2.upd e1 e2 (io_own upd_same (q3.append (.one rp)))) hn
  ·exact h.elim⟩
noncomputable def vRetI (te:TV):TVS:=fun Dv τ=>te τ fun r=>exS τ Dv r (pubR r fun _=>Dv.ro τ r)
theorem vs_retI (h:VE X EX e te):VS X EX (.Return (some e) pos) (vRetI te) :=
 let ⟨_,a1,a2⟩:=h.u; ⟨_,qs_ret a1,fun B0 H0 B H τ σ Dv Dh p S h E=>a2 H0 B H τ σ _ _ p.s S h (E.raised p S) fun r v B' H' q hr hq=>by
  cases r with
  | val d=>exact E.ro (.val d) v B' H' τ σ (p.trans q) (S.step q) hr (fun _ _ _ _ z=>by cases z) hq
  | own d =>
   refine E.ro (.own d) v B' H' τ σ (p.trans q) (S.step q) (hr.back p.h) (fun _ i c ds _ e z=>?_) hq
   obtain ⟨ad,rfl,hn,_⟩:=hr
   cases z
   obtain ⟨a',_,_,_,ow⟩:=S.own i _ e
   have:=ow.some
   rw [(own_io ow).1] at this
   exact this hn
  | peek d=>exact hq.elim
  | exc n=>exact hr.elim⟩
noncomputable def RfAI (K:PySem.W.Frag) (EX:St→XK) (te:TA) (t:TVA) (k j:Nat):Prop:=∀ (H0 B H:Hp) (τ:VSt) (σ:St) (Q:List V→Hp→Prop) (Qd:AR→Prop),Same B H→Slots K H0 B H τ σ→(∃ c ps,τ[j]?=some (some (R.own (.io c ps))))→t τ Qd→(∀ n C B' H',Stp B H B' H'→clsOf K n C→Qd (.exc n)→EX σ (.ref C) none H') →
 (∀ ds vs B' H' ad,Stp B H B' H'→k≤vs.length→σ[j]?=some (some (.ref ad))→Reps K B' ds vs→Qd (.ok ds)→Q (vs.insertIdx k (.ref ad)) H')→te σ H Q
structure VAI (X:Cx) (EX:St→XK) (es:List Expr) (t:TVA) (k j:Nat):Prop where
 u:∃ te,QA X es te∧RfAI X.K EX te t k j
theorem vai_here (j:Nat) (hr:VA X EX es tA) (hN:X.N[j]?=some x:=by rfl) (hv:Vis X.env.scope x:=by first | exact Or.inl rfl | exact Or.inr (Or.inl rfl) | exact Or.inr (Or.inr rfl)) (hd:(x == ("__debug__" : Str))=false:=by decide)
  (hcd:(x == ("__classdict__" : Str))=false:=by decide):VAI X EX (.Name x pos :: es) tA 0 j :=
 let ⟨_,b1,b2⟩:=hr.u; ⟨_,qac (qv j hN hv hd hcd) b1 rfl,fun H0 B H τ σ Q Qd s S ⟨c,ps,e⟩ h xc k=>by
  obtain ⟨ad,q,_,hb,ow⟩:=S.own j _ e
  exact ⟨.ref ad,q,b2 H0 B H τ σ _ _ s S h xc fun ds vs B1 H1 p1 q1 h1=>k ds vs B1 H1 ad p1 (Nat.zero_le _) q q1 h1⟩⟩
theorem vai_c {k j:Nat} (ha:VE X EX e te) (hr:VAI X EX es tA k j) (hs:plainE e=true:=by rfl):VAI X EX (e :: es) (vCons te tA) (k+1) j :=
 let ⟨_,a1,a2⟩:=ha.u; let ⟨_,b1,b2⟩:=hr.u; ⟨_,qac a1 b1 hs,fun H0 B H τ σ Q Qd s S io h xc kk=>a2 H0 B H τ σ _ _ s S h xc fun r v B1 H1 p q h1=>by
  obtain ⟨d,B2,p2,_,rp,h2⟩:=pub p q (q.okA h1)
  refine b2 H0 B2 H1 τ σ _ _ p2.s (S.step p2) io h2 (xst xc p2) fun ds vs B3 H3 ad p3 lk hj q3 h3=>?_
  exact kk (d :: ds) (v :: vs) B3 H3 ad (p2.trans p3) (Nat.succ_le_succ lk) hj (by unfold Reps; exact ⟨v,vs,rfl,rp.same p3.b,q3⟩) h3⟩
noncomputable abbrev DPI:=List D→List D→(R→List D→Prop)→Prop
noncomputable def spOfI (K:PySem.W.Frag) (g:DPI) (k:Nat):Sp:=fun vs H Q _=>∃ ds ws B c ps Qd,Same B H∧Reps K B ds ws∧k≤ws.length∧vs=ws.insertIdx k (.ref c)∧B c=none∧OwnAt K B H (.io c ps) c∧g ds ps Qd ∧
 ∀ r v B' H' ps',Qd r ps'→Stp B (hidH H c) B' H'→B' c=none→OwnAt K B' H' (.io c ps') c→RepR K B' (hidH H c) H' r v→(∀ d,r=.own d→v≠.ref c)→Q v H'
noncomputable def ioOut (k:Nat) (c:Addr) (τ:VSt) (P:List D→Prop):Prop:=match τ[k]? with
 | some (some (.own (.io c' ps)))=>c'=c∧P ps
 | _=>False
theorem ioOut_of {k:Nat} {c:Addr} {P:List D→Prop} (h:ioOut k c τ P):∃ ps,τ[k]?=some (some (.own (.io c ps)))∧P ps:=by
 unfold ioOut at h
 split at h
 ·rename_i c' ps e
  obtain ⟨rfl,h⟩:=h
  exact ⟨ps,e,h⟩
 ·exact h.elim
noncomputable abbrev EnI (k:Nat) (c:Addr) (Q:R→List D→Prop):VEnds:={ nx:=fun τ=>ioOut k c τ (Q (.val .non)),rt:=fun _=>False,ro:=fun τ r=>ioOut k c τ (Q r) }
noncomputable def startI (N:List Str) (k:Nat) (c:Addr) (ds ps:List D):VSt:=(ds.map fun d=>some (R.val d)).insertIdx k (some (.own (.io c ps)))++List.replicate (N.length - (ds.length+1)) none
theorem Slots.consV {d:D} (S:Slots K H0 B H τ σ) (h:Rep K B d v):Slots K H0 B H (some (.val d) :: τ) (some v :: σ):=by
 refine ⟨by have:=S.len; simp [this],fun i f e=>?_,fun i f e=>?_,fun i f e=>?_,fun i j f g ad e1 e2 e3 e4=>?_⟩
 ·cases i with
  | zero=>simp at e; subst e; exact ⟨v,rfl,h⟩
  | succ i=>simpa using S.val i f (by simpa using e)
 ·cases i with
  | zero=>simp at e
  | succ i=>simpa using S.fz i f (by simpa using e)
 ·cases i with
  | zero=>simp at e
  | succ i=>simpa using S.own i f (by simpa using e)
 ·cases i with
  | zero=>simp at e1
  | succ i =>
   cases j with
   | zero=>simp at e2
   | succ j =>
    rw [S.sep i j f g ad (by simpa using e1) (by simpa using e2) (by simpa using e3) (by simpa using e4)]
theorem Slots.consO {d:D} {ds:List D} {c:Addr} (S:Slots K H0 B H (ds.map fun d=>some (R.val d)) σ) (h0:H0 c=none) (hb:B c=none) (o:OwnAt K B H d c):Slots K H0 B H (some (.own d) :: ds.map fun d=>some (R.val d)) (some (.ref c) :: σ):=by
 refine ⟨by have:=S.len; simp [this],fun i f e=>?_,fun i f e=>?_,fun i f e=>?_,fun i j f g ad e1 e2 e3 e4=>?_⟩
 ·cases i with
  | zero=>simp at e
  | succ i=>simpa using S.val i f (by simpa using e)
 ·cases i with
  | zero=>simp at e
  | succ i=>simp at e
 ·cases i with
  | zero=>simp at e; subst e; exact ⟨c,rfl,h0,hb,o⟩
  | succ i=>simp at e
 ·cases i with
  | zero =>
   cases j with
   | zero=>rfl
   | succ j=>simp at e2
  | succ i=>simp at e1
theorem startI_slots {c:Addr} {ps:List D} (h0:H0 c=none) (hb:B c=none) (o:OwnAt K B H (.io c ps) c):∀ (k:Nat) {ds:List D} {ws:List V},Reps K B ds ws→k≤ws.length→Slots K H0 B H ((ds.map fun d=>some (R.val d)).insertIdx k (some (.own (.io c ps)))) ((ws.insertIdx k (.ref c)).map some)
 | 0,ds,ws,h,_=>by
  rw [List.insertIdx_zero,List.insertIdx_zero]
  exact (reps_slots h).consO h0 hb o
 | k+1,ds,ws,h,l=>by
  cases ds with
  | nil =>
   unfold Reps at h
   subst h
   exact absurd l (by simp)
  | cons d ds =>
   unfold Reps at h
   obtain ⟨w,ws,rfl,h1,h2⟩:=h
   rw [List.map_cons,List.insertIdx_succ_cons,List.insertIdx_succ_cons,List.map_cons]
   exact (startI_slots h0 hb o k h2 (Nat.le_of_succ_le_succ l)).consV h1
theorem Fun.okI {P:Program} {w:World} {mg:Str→Option Value} {base:Heap} {x qual:Str} {st:Stmt} {f:Addr} {fd:FuncData} {N ps:List Str} {k m:Nat} {g:DPI} (F:Fun K x qual st f fd) (S:FnScope N ps (defScope st)) (len:∀ ds zs Q,g ds zs Q→ds.length+1=ps.length)
  (hbody:∀ (cdv:Value) (A:Around) (outer:List Env) (s:Shared) (H:Hp) (E:XK),Room m (A.deeper (envOfC qual (defScope st) s.heap.objs.size f cdv)) →
   ∃ t,VSs (cxOf CX0 P w K mg base N qual (defScope st) f cdv A outer s H E).nox EX0 (defBody st) t∧∀ ds zs c Q,g ds zs Q→t (EnI k c Q) (startI N k c ds zs)):FnOk P w K mg base CX0 (m+1) f fd ps (spOfI K g k):=by
 refine F.okQ S (fun vs H Q E h=>?_) (fun cdv A outer s H vs Q E hr h=>?_)
 ·obtain ⟨ds,ws,B,c,zs,Qd,_,rp,lk,rfl,_,_,hg,_⟩:=h
  rw [List.length_insertIdx_of_le_length lk,← rp.length]
  exact len ds zs Qd hg
 ·obtain ⟨ds,ws,B,c,zs,Qd,sm,rp,lk,rfl,hb,ow,hg,kk⟩:=h
  obtain ⟨t,⟨ts,q1,q2⟩,ht⟩:=hbody cdv A outer s H E hr
  refine ⟨ts,q1,q2 B (hidH H c) B H (startI N k c ds zs) (start N (ws.insertIdx k (.ref c))) _ _ ⟨Same.refl _,hid_same,sm,fun _ z=>.inl z⟩ ?_ (ht ds zs c Qd hg) ⟨fun B' H' τ σ p S h=>?_,fun _ _ _ _ _ _ h=>h.elim,fun _ _ _ _ _ _ h=>h.elim,fun _ _ _ _ _ _ h=>h.elim,fun _ _ _ _ _ _ _ _ _ h=>h.elim,fun r v B' H' τ σ p S hr ne h=>?_⟩⟩
  ·unfold startI start
   rw [rp.length,List.length_insertIdx_of_le_length lk]
   exact (startI_slots hid_at hb ow k rp lk).more _
  ·obtain ⟨qs,e,q⟩:=ioOut_of h
   obtain ⟨a',_,_,hb',ow'⟩:=S.own k _ e
   obtain ⟨rfl,_⟩:=own_io ow'
   exact kk (.val .non) .non B' H' qs q p hb' ow' (repV rfl) fun _ z=>by cases z
  ·obtain ⟨qs,e,q⟩:=ioOut_of h
   obtain ⟨a',_,_,hb',ow'⟩:=S.own k _ e
   obtain ⟨rfl,_⟩:=own_io ow'
   exact kk r v B' H' qs q p hb' ow' hr fun d z=>ne d k _ qs z e
theorem Stp.lent {c:Addr} (p:Stp B0 H0 B1 H1) (h0:H0 c=none) (q:Stp B1 (hidH H1 c) B' H') (hb:B' c=none):Stp B0 H0 B' H' :=
 ⟨p.b.trans q.b,fun b o e=>by
  have n:b≠c:=fun z=>by rw [z,h0] at e; cases e
  exact q.h _ _ (by rw [hid_ne n]; exact p.h _ _ e),q.s,fun b z=>by
  have n:b≠c:=fun w=>by rw [w] at z; exact z hb
  rcases q.d b z with w | w | ⟨xs,w⟩
  ·exact p.d b w
  ·rw [hid_ne n] at w
   exact .inr (.inl (p.h.free w))
  ·rw [hid_ne n] at w
   cases e:H0 b with
   | none=>exact .inr (.inl rfl)
   | some o =>
    rw [p.h _ _ e] at w
    exact .inr (.inr ⟨xs,w⟩)⟩
theorem Slots.lent {c:Addr} {j:Nat} {ps qs:List D} (S:Slots K H0 B1 H1 τ σ) (e:τ[j]?=some (some (.own (.io c ps)))) (q:Stp B1 (hidH H1 c) B' H') (hb:B' c=none) (o:OwnAt K B' H' (.io c qs) c):Slots K H0 B' H' (τ.set j (some (.own (.io c qs)))) σ:=by
 obtain ⟨a',e1,h0,_,ow⟩:=S.own j _ e
 obtain ⟨rfl,_⟩:=own_io ow
 refine ⟨by rw [List.length_set,S.len],fun k d q'=>?_,fun k d q'=>?_,fun k d q'=>?_,fun k l d f b q1 q2 q3 q4=>?_⟩
 ·rcases getSet q' with ⟨rfl,z,_⟩ | ⟨_,q'⟩
  ·cases z
  ·obtain ⟨w,w1,w2⟩:=S.val k d q'
   exact ⟨w,w1,w2.same q.b⟩
 ·rcases getSet q' with ⟨rfl,z,_⟩ | ⟨_,q'⟩
  ·cases z
  ·obtain ⟨w,w1,w2⟩:=S.fz k d q'
   exact ⟨w,w1,w2.same q.b⟩
 ·rcases getSet q' with ⟨rfl,z,_⟩ | ⟨n,q'⟩
  ·cases z
   exact ⟨_,e1,h0,hb,o⟩
  ·obtain ⟨b,w1,w2,w3,w4⟩:=S.own k d q'
   have nb:b≠a':=fun z=>n (S.sep j k _ _ a' e q' e1 (by rw [← z]; exact w1))
   have hs:hidH H1 a' b≠none:=by rw [hid_ne nb]; exact w4.some
   refine ⟨b,w1,w2,q.keep w3 hs (fun xs=>by rw [hid_ne nb]; exact w4.nt xs),w4.step q.b ?_⟩
   rw [q.h.at hs,hid_ne nb]
 ·have hk:∃ d',τ[k]?=some (some (.own d')):=by
   rcases getSet q1 with ⟨rfl,_,_⟩ | ⟨_,q'⟩
   ·exact ⟨_,e⟩
   ·exact ⟨_,q'⟩
  have hl:∃ d',τ[l]?=some (some (.own d')):=by
   rcases getSet q2 with ⟨rfl,_,_⟩ | ⟨_,q'⟩
   ·exact ⟨_,e⟩
   ·exact ⟨_,q'⟩
  obtain ⟨_,hk⟩:=hk
  obtain ⟨_,hl⟩:=hl
  exact S.sep k l _ _ b hk hl q3 q4
theorem pubI {c:Addr} {Hh:Hp} {Q:D→Prop} (q:Stp B1 Hh B' H') (hc:B' c=none) (h:RepR K B' Hh H' r v) (ne:∀ d,r=.own d→v≠.ref c) (hq:pubR r Q):∃ d B2,Stp B1 Hh B2 H'∧Same B' B2∧B2 c=none∧Rep K B2 d v∧Q d:=by
 cases r with
 | val d=>exact ⟨d,B',q,Same.refl _,hc,h,hq⟩
 | own d =>
  have ne':=ne d rfl
  obtain ⟨ad,rfl,h0,hb,o⟩:=h
  obtain ⟨u,e,rp⟩:=o.pub hb
  have n:c≠ad:=fun z=>ne' (by rw [z])
  refine ⟨d,upd B' ad u,⟨q.b.trans (same_upd hb _),q.h,same_updL q.s e,fun b z=>?_⟩,same_upd hb _,by rw [upd_ne n]; exact hc,rp,hq⟩
  by_cases w:b=ad
  ·exact .inr (.inl (w ▸ h0))
  ·rw [upd_ne w] at z
   exact q.d b z
 | peek d=>exact hq.elim
 | exc n=>exact hq.elim
noncomputable def vCallI (g:DPI) (j:Nat) (tA:TVA) (τ:VSt) (k:D→VSt→Prop):Prop:=match τ[j]? with
 | some (some (.own (.io c ps)))=>tA τ fun a=>match a with
  | .ok ds=>g ds ps fun r qs=>pubR r fun d=>k d (τ.set j (some (.own (.io c qs))))
  | .exc _=>False
 | _=>False
theorem rf_callI {g:DPI} {j k:Nat} {teA:TA} (hA:RfAI K EX teA tA k j) {Q:VK} {P:D→VSt→Prop} (pp:Stp B0 H0 B H) (S:Slots K H0 B H τ σ) (h:vCallI g j tA τ P) (kk:∀ d τ' v B' H',Stp B0 H0 B' H'→Slots K H0 B' H' τ' σ→Rep K B' d v→P d τ'→Q v H'):tCall (spOfI K g k) [] E0 teA σ H Q:=by
 unfold vCallI at h
 split at h
 ·rename_i c ps e
  refine hA H0 B H τ σ _ _ pp.s S ⟨c,ps,e⟩ h (xno fun _ q=>q) fun ds vs B1 H1 ad p1 lk hj rp h1=>?_
  have S1:=S.step p1
  obtain ⟨a',e1,h0,hb,ow⟩:=S1.own j _ e
  obtain ⟨rfl,_⟩:=own_io ow
  rw [hj] at e1
  cases e1
  refine ⟨ds,vs,B1,ad,ps,_,p1.s,rp,lk,by rw [List.append_nil],hb,ow,h1,fun r v B' H' qs hq q hc o hr ne=>?_⟩
  obtain ⟨d,B2,q2,s2,hc2,rp2,hd⟩:=pubI q hc hr ne hq
  exact kk d _ v B2 H' ((pp.trans p1).lent h0 q2 hc2) (S1.lent e q2 hc2 (o.step s2 rfl)) rp2 hd
 ·exact h.elim
noncomputable def vSetCI (i:Nat) (g:DPI) (j:Nat) (tA:TVA):TVS:=fun Dv τ=>vCallI g j tA τ fun d τ'=>Dv.nx (τ'.set i (some (.val d)))
theorem vs_setCI {i m k j:Nat} {ps:List Str} {g:DPI} (hN:X.N.Nodup) (hi:X.N[i]?=some y) (hx:Loc X.env.scope y) (C:Cal X.prog X.w X.K X.mg X.base m x ps (spOfI X.K g k)) (hr:Room m X.A) (hg:Gl X x) (ha:VAI X EX (e :: es) tA k j) (hp:(e :: es).all plainE=true:=by rfl) (hdb:(x == ("__debug__" : Str))=false:=by decide)
  (hs:swapsWith (.Call (.Name x p) (e :: es) [] p2) (some (.Name y pos')) pos.line X.env=pure false:=by rfl)
  (hf:X.fn y=true∨X.env.scope.names.lookup y=some .local:=by first | exact .inl rfl | exact .inr rfl | assumption):VS X EX (.Assign [.Name y pos'] (.Call (.Name x p) (e :: es) [] p2) pos) (vSetCI i g j tA) :=
 let ⟨_,a1,a2⟩:=ha.u; ⟨_,qs_set hN hi hx (qe_cal C hr hg a1 hp hdb) hs hf,fun B0 H0 B H τ σ Dv Dh p S h E=>rf_callI a2 p S h fun d τ' v B' H' q S' rp hd=>E.nx B' H' _ _ q (S'.setVal i rp) hd⟩
noncomputable def vAsgI (g:DPI) (j:Nat) (tA:TVA) (tg:TVG):TVS:=fun Dv τ=>vCallI g j tA τ fun d τ'=>tg d τ' Dv.nx
theorem vs_asgI {m k j:Nat} {ps:List Str} {g:DPI} {tg:Expr} {tv:TVG} (C:Cal X.prog X.w X.K X.mg X.base m x ps (spOfI X.K g k)) (hr:Room m X.A) (hg:Gl X x) (ha:VAI X EX (e :: es) tA k j) (ht:VG X tg tv) (hp:(e :: es).all plainE=true:=by rfl) (hdb:(x == ("__debug__" : Str))=false:=by decide)
  (hs:swapsWithSole [tg] (.Call (.Name x p) (e :: es) [] p2) pos.line X.env=pure false:=by rfl) (hw:swappedStores [tg] (.Call (.Name x p) (e :: es) [] p2) X.env=pure none:=by rfl)
  (h1:(assignEach [tg] X.env).map (·.2)=[assign tg X.env]:=by rfl):VS X EX (.Assign [tg] (.Call (.Name x p) (e :: es) [] p2) pos) (vAsgI g j tA tv) :=
 let ⟨_,a1,a2⟩:=ha.u; let ⟨_,b1,b2⟩:=ht.u; ⟨_,qs_asg (qe_cal C hr hg a1 hp hdb) b1 hs hw h1,fun B0 H0 B H τ σ Dv Dh p S h E=>rf_callI a2 p S h fun d τ' v B' H' q S' rp hd=>b2 H0 B' H' τ' σ v d _ _ q.s S' rp hd fun τ2 σ2 S2 _ h2=>E.nx B' H' _ _ q S2 h2⟩
end
section
variable {K:PySem.W.Frag} {x qual:Str} {st:Stmt} {f:Addr} {fd:FuncData} {ps:List Str}
theorem len_cons {α:Type} {us:List α} {n:Nat} (h:us.length=n+1):∃ a t,us=a :: t∧t.length=n:=by
 cases us with
 | nil=>cases h
 | cons a t=>exact ⟨a,t,rfl,Nat.succ.inj h⟩
theorem Fun.binds1 (F:Fun K x qual st f fd) (hp:ps.length=1) (h:∀ (kV doc pm:Value) (an:Option Addr) (cdv ct a0:Value),bindArgs (PySem.W.fnOf x qual (defArgs st) (defBody st) (defScope st) .none kV doc pm an cdv ct) ⟨[a0],[]⟩=pure (ps.zip [a0])):Binds K fd ps [] :=
 F.binds fun kV doc pm an cdv ct us hl=>by
  obtain ⟨a0,t,rfl,h0⟩:=len_cons (hl.trans hp)
  cases List.length_eq_zero_iff.mp h0
  exact h kV doc pm an cdv ct a0
theorem Fun.binds2 (F:Fun K x qual st f fd) (hp:ps.length=2) (h:∀ (kV doc pm:Value) (an:Option Addr) (cdv ct a0 a1:Value),bindArgs (PySem.W.fnOf x qual (defArgs st) (defBody st) (defScope st) .none kV doc pm an cdv ct) ⟨[a0,a1],[]⟩=pure (ps.zip [a0,a1])):Binds K fd ps [] :=
 F.binds fun kV doc pm an cdv ct us hl=>by
  obtain ⟨a0,t,rfl,h0⟩:=len_cons (hl.trans hp)
  obtain ⟨a1,t,rfl,h1⟩:=len_cons h0
  cases List.length_eq_zero_iff.mp h1
  exact h kV doc pm an cdv ct a0 a1
theorem Fun.binds3 (F:Fun K x qual st f fd) (hp:ps.length=3) (h:∀ (kV doc pm:Value) (an:Option Addr) (cdv ct a0 a1 a2:Value),bindArgs (PySem.W.fnOf x qual (defArgs st) (defBody st) (defScope st) .none kV doc pm an cdv ct) ⟨[a0,a1,a2],[]⟩=pure (ps.zip [a0,a1,a2])):Binds K fd ps [] :=
 F.binds fun kV doc pm an cdv ct us hl=>by
  obtain ⟨a0,t,rfl,h0⟩:=len_cons (hl.trans hp)
  obtain ⟨a1,t,rfl,h1⟩:=len_cons h0
  obtain ⟨a2,t,rfl,h2⟩:=len_cons h1
  cases List.length_eq_zero_iff.mp h2
  exact h kV doc pm an cdv ct a0 a1 a2
end
theorem WyOk.ok {w:List Str} (h:WyOk w):WyOk w:=h
end L2
set_option maxHeartbeats 4000000
namespace K18
open PySem L2
local macro_rules | `(tactic| simp! only [$xs,*])=>`(tactic| simp only [vIfS,vBl,vOp,vLt,vLe,vGt,vGe,vI2',vI2,vVar,vF1,vLen,vList,vListD,vTuple,vStr,vRet,vRetO,vRetN,vIxR,vNext,vC,vAdd,vSub,vMul,vDiv,vMod,vPow,vEq,vNe,vSlice,vSlR,vNoPart,vPart,vNeg,vCall,vCallN,vCons,vNil,vTup,vLst,vSet,vSetO,vAppend,ownL,vFor,vRng1,vRng2,vItems,vComp,vIsin,isTy,vNotT,vAndT,vOrT,vNotE,vAndE,vOrE,vIfE,vAsg,vgName,vgNil,vgCons,vgTup,vFrz,frz,vDrop,vAll,vJoin,vIsN,startD,dV,scal,rd_val,rd_own,rd_peek,rd_exc,pub_val,pub_own,ex_val,ex_own,ex_peek,ex_exc,exA_val,exA_own,exA_peek,exA_exc,exS_val,exS_own,exS_peek,exS_exc,exA_ok,exA_raise,exI_ok,exI_exc,more_ok,more_exc,vRaise,vTry,VEnds.calm,VEnds.wiped,vDGet,vDIn,vDGet1,vDNewT,vDPut,ownT,vSorted,vSortedW,vCalB,vLendE,scalR,vLtD,vNeD,vMulS,vIn,vIo,vVarI,vAppendI,vRetI,vCallI,vSetCI,vAsgI,ioOut,startI,List.insertIdx_zero,List.insertIdx_succ_cons,strsOf,strsOf_map,Option.map_some,List.map_cons,List.map_nil,List.length_cons,List.length_nil,List.cons_append,List.nil_append,List.getElem?_cons_zero,List.getElem?_cons_succ,List.set_cons_zero,List.set_cons_succ,List.replicate_succ,List.replicate_zero,Nat.reduceSub,Nat.reduceAdd,if_true,if_false,ite_true,ite_false,Bool.not_true,Bool.not_false,decide_true,decide_false,eq_int,eq_str,cmp_int,cmp_str,dep_int,dep_str,true_and,and_true,Nat.zero_le,List.take_succ_cons,List.take_zero,reduceIte,Bool.false_eq_true,eq_self,List.length_map,V.int.injEq,V.str.injEq,CDiv,Int.reduceLT,Int.zero_add,and_self,List.cons.injEq,D.scr.injEq,D.int.injEq,D.str.injEq,D.tup.injEq,D.lst.injEq,D.bl.injEq,and_assoc,exists_and_left,exists_eq_left,exists_eq_left',map_str_iff,map_int_iff,snoc_str,snoc_int,drop_str,cat_str,cutL_map,Int.reduceLE,Int.le_refl,take_str,dropn_str,atI_lit,atI_neg1,Option.some.injEq,$xs,*])
local macro_rules | `(tactic| dsimp! only [$xs,*])=>`(tactic| ((try dsimp only [vIfS,vBl,vOp,vLt,vLe,vGt,vGe,vI2',vI2,vVar,vF1,vLen,vList,vListD,vTuple,vStr,vRet,vRetO,vRetN,vIxR,vNext,vC,vAdd,vSub,vMul,vDiv,vMod,vPow,vEq,vNe,vSlice,vSlR,vNoPart,vPart,vNeg,vCall,vCallN,vCons,vNil,vTup,vLst,vSet,vSetO,vAppend,ownL,vFor,vRng1,vRng2,vItems,vComp,vIsin,isTy,vNotT,vAndT,vOrT,vNotE,vAndE,vOrE,vIfE,vAsg,vgName,vgNil,vgCons,vgTup,vFrz,frz,vDrop,vAll,vJoin,vIsN,startD,dV,scal,rd_val,rd_own,rd_peek,rd_exc,pub_val,pub_own,ex_val,ex_own,ex_peek,ex_exc,exA_val,exA_own,exA_peek,exA_exc,exS_val,exS_own,exS_peek,exS_exc,exA_ok,exA_raise,exI_ok,exI_exc,more_ok,more_exc,vRaise,vTry,VEnds.calm,VEnds.wiped,vDGet,vDIn,vDGet1,vDNewT,vDPut,ownT,vSorted,vSortedW,vCalB,vLendE,scalR,vLtD,vNeD,vMulS,vIn,vIo,vVarI,vAppendI,vRetI,vCallI,vSetCI,vAsgI,ioOut,startI,List.insertIdx_zero,List.insertIdx_succ_cons,strsOf,Option.map_some,List.map_cons,List.map_nil,List.length_cons,List.length_nil,List.cons_append,List.nil_append,List.getElem?_cons_zero,List.getElem?_cons_succ,List.set_cons_zero,List.set_cons_succ,List.take_succ_cons,List.take_zero,CDiv,$xs,*]); (try simp! only [$xs,*])))
noncomputable def NS:Str:="abcdefghijklmnopqrstuvwxyz0123456789"
noncomputable def cellI (ns:List Int) (k:Int):Int:=(ns[k.toNat]?).getD 0
noncomputable def g_cell_at:DP:=fun ds Q=>∃ ns k,ds=[.scr ns,.int k]∧0≤k∧Q (.val (.int (cellI ns k)))
theorem len_cell_at:∀ ds Q,g_cell_at ds Q→ds.length=2:=by rintro ds Q ⟨_,_,rfl,_⟩; rfl
noncomputable abbrev En (Q:R→Prop):VEnds:={ nx:=fun _=>Q (.val .non),rt:=Q }
noncomputable def NmZ (z:Str):Prop:=1≤z.length∧z.length≤12
noncomputable def Pool (n:Nat) (zs:List Str):Prop:=zs.length≤n∧∀ z∈zs,NmZ z
theorem Pool.more {n m:Nat} {zs:List Str} (h:Pool n zs) (l:n≤m):Pool m zs:=⟨Nat.le_trans h.1 l,h.2⟩
theorem cmpSL (a b:List Str):cmpD (.lst (a.map D.str)) (.lst (b.map D.str))=true:=by
 have h:=cmpW a b
 unfold cmpD at h ⊢
 exact h
theorem depSL (a:List Str):depD (.lst (a.map D.str))≤50:=by
 have h:=depW a
 unfold depD at h ⊢
 exact h
theorem eqSL (a b:List Str):eqD (.lst (a.map D.str)) (.lst (b.map D.str))=decide (a=b):=by
 rw [eqD_lst,← eqD_tup]
 exact eqW a b
noncomputable def g_big:DP:=fun ds Q=>∃ ns k,ds=[.scr ns,.int k]∧0≤k∧∀ i,Q (.val (.int i))
noncomputable def g_name_of:DPI:=fun ds ps Q=>∃ b n zs,ds=[.int b]∧ps=zs.map D.str∧n≤9000∧Pool n zs∧∀ (z:Str) (b':Int) (zs':List Str),NmZ z→Pool (n+1) zs'→Q (.val (.tup [.str z,.int b'])) (zs'.map D.str)
noncomputable def g_signs_of:DP:=fun ds Q=>∃ b m,ds=[.int b,.int m]∧0≤m∧m≤100∧∀ (z:Str) (b':Int),Q (.val (.tup [.str z,.int b']))
noncomputable def g_words_of:DPI:=fun ds ps Q=>∃ b m n zs,ds=[.int b,.int m]∧ps=zs.map D.str∧0≤m∧m≤5∧n≤8000∧Pool n zs∧∀ (ws:List Str) (b':Int) (zs':List Str),ws.length≤5→(∀ w∈ws,w.length≤12)→Pool (n+5) zs'→Q (.val (.tup [.lst (ws.map D.str),.int b'])) (zs'.map D.str)
noncomputable def g_text_of:DPI:=fun ds ps Q=>∃ m b n zs,ds=[.str m,.int b]∧ps=zs.map D.str∧n≤8000∧Pool n zs∧∀ (z:Str) (b':Int) (zs':List Str),(m≠mFile→m≠mLink→z=tEmpty)→Pool (n+5) zs'→Q (.val (.tup [.str z,.int b'])) (zs'.map D.str)
theorem line10000:10000≤sizeLine:=by decide
noncomputable def g_under_shut:DP:=fun ds Q=>∃ rs w,ds=[dictD (rs.map prR),wayD w]∧("" : Str)∉w∧w.length≤1000∧Q (.val (.bl (shutR rs w)))
noncomputable def PaneG (n:Nat) (p:List Row):Prop:=PaneOk p∧(∀ r∈p,Wy14 r.1)∧bulk p≤n∧p.length≤n+1∧∀ r∈p,r.2.1=mGone∨r.2.1=mShut→hidBy p r.1=false
noncomputable def PFS (p:List Row):Prop:=∀ r∈p,r.1=[]∨r.1.dropLast=[]∨∃ q∈p,q.1=r.1.dropLast∧FS q.2.1
noncomputable def TxE (p:List Row):Prop:=∀ r∈p,r.2.1≠mFile→r.2.1≠mLink→r.2.2=tEmpty
noncomputable def g_pane_of:DPI:=fun ds ps Q=>∃ b m n zs,ds=[.int b,.int m]∧ps=zs.map D.str∧0≤m∧m≤60∧n≤7000∧Pool n zs∧∀ (p:List Row) (zs':List Str),PaneG m.toNat p→PFS p→TxE p→Pool (n+360) zs'→Q (.own (rowsL p)) (zs'.map D.str)
theorem len_under_shut:∀ ds Q,g_under_shut ds Q→ds.length=2:=by rintro ds Q ⟨_,_,rfl,_⟩; rfl
theorem len_pane_of:∀ ds zs Q,g_pane_of ds zs Q→ds.length+1=3:=by rintro ds zs Q ⟨_,_,_,_,rfl,_⟩; rfl
theorem len_big:∀ ds Q,g_big ds Q→ds.length=2:=by rintro ds Q ⟨_,_,rfl,_⟩; rfl
theorem len_name_of:∀ ds zs Q,g_name_of ds zs Q→ds.length+1=2:=by rintro ds zs Q ⟨_,_,_,rfl,_⟩; rfl
theorem len_signs_of:∀ ds Q,g_signs_of ds Q→ds.length=2:=by rintro ds Q ⟨_,_,rfl,_⟩; rfl
theorem len_words_of:∀ ds zs Q,g_words_of ds zs Q→ds.length+1=3:=by rintro ds zs Q ⟨_,_,_,_,rfl,_⟩; rfl
theorem len_text_of:∀ ds zs Q,g_text_of ds zs Q→ds.length+1=3:=by rintro ds zs Q ⟨_,_,_,_,rfl,_⟩; rfl
noncomputable def NmOk (rs:List Row):Prop:=∀ r∈rs,WyOk r.1
noncomputable def g_above:DP:=fun ds Q=>∃ w,ds=[wayD w]∧Q (.val (wayD w.dropLast))
noncomputable def g_in_order:DP:=fun ds Q=>∃ rs:List Row,ds=[rowsL rs]∧(rs.map (·.1)).Nodup∧∀ ts:List Row,ts.Perm rs→RSorted ts→Q (.own (rowsL ts))
noncomputable def g_marks_of:DP:=fun ds Q=>∃ p:List Row,ds=[rowsL p]∧(p.map (·.1)).Nodup∧NmOk p∧p.length≤200∧Q (.own (dictD (p.map prM)))
noncomputable def g_hides:DP:=fun ds Q=>∃ o:Option Str,ds=[(o.map D.str).getD .non]∧Q (.val (.bl (hidesO o)))
noncomputable def g_hidden_ways:DP:=fun ds Q=>∃ p tr:List Row,ds=[rowsL p,rowsL tr]∧(p.map (·.1)).Nodup∧NmOk p∧p.length≤200∧Clo tr∧NmOk tr∧tr.length≤200∧Q (.own (dictD ((hidW p tr).map fun w=>(w,.bl true))))
noncomputable def g_left_alone:DP:=fun ds Q=>∃ p tr:List Row,ds=[rowsL p,rowsL tr]∧(p.map (·.1)).Nodup∧NmOk p∧p.length≤200∧Clo tr∧NmOk tr∧tr.length≤200∧Q (.own (rowsL (aloneR p tr)))
noncomputable def bulks (ps:List (List Row)):Nat:=(ps.map bulk).sum
theorem len_above:∀ ds Q,g_above ds Q→ds.length=1:=by rintro ds Q ⟨_,rfl,_⟩; rfl
theorem len_in_order:∀ ds Q,g_in_order ds Q→ds.length=1:=by rintro ds Q ⟨_,rfl,_⟩; rfl
theorem len_marks_of:∀ ds Q,g_marks_of ds Q→ds.length=1:=by rintro ds Q ⟨_,rfl,_⟩; rfl
theorem len_hides:∀ ds Q,g_hides ds Q→ds.length=1:=by rintro ds Q ⟨_,rfl,_⟩; rfl
theorem len_hidden_ways:∀ ds Q,g_hidden_ways ds Q→ds.length=2:=by rintro ds Q ⟨_,_,rfl,_⟩; rfl
theorem len_left_alone:∀ ds Q,g_left_alone ds Q→ds.length=2:=by rintro ds Q ⟨_,_,rfl,_⟩; rfl
noncomputable def optD (o:Option Str):D:=(o.map D.str).getD .non
noncomputable def g_pressed_mark:DP:=fun ds Q=>∃ m b c,ds=[.str m,.bl b,.bl c]∧Q (.val (optD (pmark m b c)))
structure PnG (p:List Row):Prop where
 c:PaneC p
 nm:NmOk p
 len:p.length≤200
noncomputable def g_changed_entries:DP:=fun ds Q=>∃ u l:List Row,ds=[rowsL u,rowsL l]∧PnG u∧PnG l∧Q (.own (rowsL (chR u l)))
noncomputable def g_press:DP:=fun ds Q=>∃ u l:List Row,ds=[rowsL u,rowsL l]∧PnG u∧PnG l∧Q (.own (rowsL (pressR u l)))
noncomputable def allR (ps:List (List Row)):List Row:=ps.foldl (fun t p=>pressR p t) []
structure PnsOk (ps:List (List Row)):Prop where
 ok:∀ p∈ps,PnG p
 few:bulks ps+1 < 64
theorem len_pressed_mark:∀ ds Q,g_pressed_mark ds Q→ds.length=3:=by rintro ds Q ⟨_,_,_,rfl,_⟩; rfl
theorem len_changed_entries:∀ ds Q,g_changed_entries ds Q→ds.length=2:=by rintro ds Q ⟨_,_,rfl,_⟩; rfl
theorem len_press:∀ ds Q,g_press ds Q→ds.length=2:=by rintro ds Q ⟨_,_,rfl,_⟩; rfl
theorem PnsOk.take {ps:List (List Row)} (P:PnsOk ps) (k:Nat):PnsOk (ps.take k):=⟨fun p hp=>P.ok p (List.mem_of_mem_take hp),by
 have h1:bulks (ps.take k)≤bulks ps:=by
  unfold bulks
  conv=>rhs; rw [← List.take_append_drop k ps,List.map_append,List.sum_append]
  omega
 have:=P.few
 omega⟩
noncomputable def TMk (rs:List Row):Prop:=∀ r∈rs,r.1≠[]∧(r.2.1=mFolder∨r.2.1=mFile∨r.2.1=mLink)
structure TreeF (n:Nat) (rs:List Row):Prop where
 so:RSorted rs
 cl:∀ r∈rs,r.1≠[]∧(r.1.dropLast=[]∨∃ q∈rs,q.1=r.1.dropLast∧q.2.1=mFolder)
 nm:NmOk rs
 l15:∀ r∈rs,r.1.length≤15
 mkd:∀ r∈rs,r.2.1=mFolder∨r.2.1=mFile∨r.2.1=mLink
 len:rs.length≤n
theorem TreeF.tree {n:Nat} {rs:List Row} (h:TreeF n rs):TreeOk rs:=⟨h.so,fun r hr=>⟨(h.cl r hr).1,(h.cl r hr).2.imp id fun ⟨q,mq,e,_⟩=>List.mem_map.mpr ⟨q,mq,e⟩⟩⟩
noncomputable def g_tree_of:DPI:=fun ds ps Q=>∃ b m n zs,ds=[.int b,.int m]∧ps=zs.map D.str∧0≤m∧m≤60∧n≤7000∧Pool n zs∧∀ (p:List Row) (zs':List Str),TreeF 61 p→Pool (n+360) zs'→Q (.own (rowsL p)) (zs'.map D.str)
theorem len_tree_of:∀ ds zs Q,g_tree_of ds zs Q→ds.length+1=3:=by rintro ds zs Q ⟨_,_,_,_,rfl,_⟩; rfl
noncomputable def LA (p t:List Row) (w:List Str):Option (Str × Str):=match rowAt p w with
 | some x=>if x.1=mGone then none else if x.1=mShut then some (mFolder,tEmpty) else some x
 | none=>if hidBy p w=true then none else rowAt t w
noncomputable def LA0 (p t:List Row) (w:List Str):Option (Str × Str):=if w=[] then some (mFolder,tEmpty) else LA p t w
theorem laid_at {p t:List Row} (P:PaneOk p) (T:TreeOk t) {w:List Str} (hw:w≠[]):rowAt (laidR p t) w=LA p t w:=by
 obtain ⟨T2,pm⟩:=laid_ok P T
 have ndp:=rsorted_nd P.so
 have ndt:=rsorted_nd T.so
 refine opt_ext fun x=>?_
 rw [rowAt_mem (rsorted_nd T2.so),pm.mem_iff,List.mem_append]
 unfold LA
 constructor
 ·rintro (m | m)
  ·obtain ⟨m1,m2⟩:=List.mem_filter.mp m
   rw [Bool.and_eq_true] at m2
   have np:w∉p.map (·.1):=fun z=>by
    have:=m2.1
    unfold inR at this
    rw [decide_eq_true (show (w,x).1∈p.map (·.1) from z)] at this
    cases this
   have nh:hidBy p w=false:=by simpa using m2.2
   rw [rowAt_none.mpr np]
   show (if hidBy p w=true then none else rowAt t w)=some x
   rw [nh,if_neg Bool.false_ne_true]
   exact (rowAt_mem ndt).mpr m1
  ·unfold putR at m
   obtain ⟨r,mr,e⟩:=List.mem_map.mp m
   obtain ⟨mr1,mr2⟩:=List.mem_filter.mp mr
   rw [Bool.and_eq_true] at mr2
   have ng:r.2.1≠mGone:=by simpa using mr2.2
   have e1:r.1=w:=by rw [← shown_1 r,e]
   have hr:rowAt p w=some r.2:=(rowAt_mem ndp).mpr (e1 ▸ mr1)
   rw [hr]
   show (if r.2.1=mGone then none else if r.2.1=mShut then some (mFolder,tEmpty) else some r.2)=some x
   rw [if_neg ng]
   unfold shownR at e
   by_cases s:r.2.1=mShut
   ·rw [if_pos s] at e ⊢
    cases e
    rfl
   ·rw [if_neg s] at e ⊢
    rw [e]
 ·intro h
  cases hp:rowAt p w with
  | none =>
   rw [hp] at h
   have h':(if hidBy p w=true then none else rowAt t w)=some x:=h
   by_cases hb:hidBy p w=true
   ·rw [if_pos hb] at h'; cases h'
   ·rw [if_neg hb] at h'
    refine .inl (List.mem_filter.mpr ⟨(rowAt_mem ndt).mp h',?_⟩)
    unfold inR
    rw [decide_eq_false (rowAt_none.mp hp),Bool.eq_false_iff.mpr hb]
    rfl
  | some y =>
   rw [hp] at h
   have h':(if y.1=mGone then none else if y.1=mShut then some (mFolder,tEmpty) else some y)=some x:=h
   by_cases g:y.1=mGone
   ·rw [if_pos g] at h'; cases h'
   ·rw [if_neg g] at h'
    refine .inr (List.mem_map.mpr ⟨(w,y),List.mem_filter.mpr ⟨(rowAt_mem ndp).mp hp,by simp [hw,g]⟩,?_⟩)
    unfold shownR
    by_cases s:y.1=mShut
    ·rw [if_pos s] at h' ⊢
     cases h'
     rfl
    ·rw [if_neg s] at h' ⊢
     cases h'
     rfl
theorem laid_root {p t:List Row} (P:PaneOk p) (T:TreeOk t):rowAt (laidR p t) []=none:=by
 obtain ⟨T2,_⟩:=laid_ok P T
 rw [rowAt_none]
 intro m
 obtain ⟨r,mr,e⟩:=List.mem_map.mp m
 exact (T2.cl r mr).1 e
noncomputable def TFo (t:List Row):Prop:=∀ r∈t,r.1.dropLast=[]∨∃ q∈t,q.1=r.1.dropLast∧q.2.1=mFolder
theorem hid_pre {p:List Row} {w:List Str} (h:hidBy p w=false):hidBy p w.dropLast=false∧(w≠[]→hidesO (markR p w.dropLast)=false):=by
 unfold hidBy at h ⊢
 rw [List.any_eq_false] at h ⊢
 have el:w.dropLast.length=w.length - 1:=List.length_dropLast
 refine ⟨fun k hk=>?_,fun ne=>?_⟩
 ·have hk':=List.mem_range.mp hk
  have:=h k (List.mem_range.mpr (by lia))
  rw [List.dropLast_eq_take,List.take_take,Nat.min_eq_left (by lia)]
  exact this
 ·have hp:=List.length_pos_iff.mpr ne
  have:=h (w.length - 1) (List.mem_range.mpr (by lia))
  rw [List.dropLast_eq_take]
  simpa using this
theorem la_up {p t:List Row} (P:PaneOk p) (F:PFS p) (T:TreeOk t) (G:TFo t) {w:List Str} (hw:w≠[]) {x:Str × Str} (h:LA p t w=some x):∃ y,LA0 p t w.dropLast=some y∧y.1=mFolder:=by
 have ndp:=rsorted_nd P.so
 have ndt:=rsorted_nd T.so
 unfold LA0
 by_cases h0:w.dropLast=[]
 ·exact ⟨(mFolder,tEmpty),by rw [if_pos h0],rfl⟩
 rw [if_neg h0]
 unfold LA at h ⊢
 cases hp:rowAt p w with
 | some y =>
  rcases F _ ((rowAt_mem ndp).mp hp) with q | q | ⟨q,mq,eq,fq⟩
  ·exact absurd q hw
  ·exact absurd q h0
  ·have hq:rowAt p w.dropLast=some q.2:=(rowAt_mem ndp).mpr (by rw [← show q.1=w.dropLast from eq]; exact mq)
   rw [hq]
   show ∃ y,(if q.2.1=mGone then none else if q.2.1=mShut then some (mFolder,tEmpty) else some q.2)=some y∧y.1=mFolder
   rw [if_neg fq.live]
   rcases fq with f | f
   ·exact ⟨q.2,by rw [if_neg (by rw [f]; decide +kernel)],f⟩
   ·exact ⟨_,by rw [if_pos f],rfl⟩
 | none =>
  rw [hp] at h
  have h':(if hidBy p w=true then none else rowAt t w)=some x:=h
  by_cases hb:hidBy p w=true
  ·rw [if_pos hb] at h'; cases h'
  ·rw [if_neg hb] at h'
   obtain ⟨b1,b2⟩:=hid_pre (Bool.eq_false_iff.mpr hb)
   rcases G _ ((rowAt_mem ndt).mp h') with q | ⟨q,mq,eq,fq⟩
   ·exact absurd q h0
   ·have hq:rowAt t w.dropLast=some q.2:=(rowAt_mem ndt).mpr (by rw [← show q.1=w.dropLast from eq]; exact mq)
    have b2:=b2 hw
    rw [markR_at] at b2
    cases hd:rowAt p w.dropLast with
    | none =>
     show ∃ y,(if hidBy p w.dropLast=true then none else rowAt t w.dropLast)=some y∧y.1=mFolder
     rw [b1,if_neg Bool.false_ne_true,hq]
     exact ⟨q.2,rfl,fq⟩
    | some y =>
     rw [hd] at b2
     have fy:y.1=mFolder:=by simpa [hidesO] using b2
     show ∃ z,(if y.1=mGone then none else if y.1=mShut then some (mFolder,tEmpty) else some y)=some z∧z.1=mFolder
     exact ⟨y,by rw [if_neg (by rw [fy]; decide +kernel),if_neg (by rw [fy]; decide +kernel)],fy⟩
theorem take_last {w:List Str} {n:Nat} (h:n+1≤w.length):(w.take (n+1)).dropLast=w.take n:=by
 rw [List.dropLast_eq_take,List.length_take,List.take_take,Nat.min_eq_left h]
 congr 1
 lia
theorem take_ne {w:List Str} {n:Nat} (h:n+1≤w.length):w.take (n+1)≠[]:=fun z=>by
 have:=congrArg List.length z
 rw [List.length_take,List.length_nil] at this
 omega
theorem lkP_row (rs:List Row) (w:List Str):lkP (rs.map prR) w=(rowAt rs w).map thD:=by
 rw [lkP_pr]
 unfold rowAt
 rw [Option.map_map]
 rfl
noncomputable def MtOk (p:List Row):Prop:=∀ r∈p,(r.2.1=mFile∨r.2.1=mLink)∨((r.2.1=mFolder∨r.2.1=mShut∨r.2.1=mGone)∧r.2.2=tEmpty)
structure PaneF (n:Nat) (p:List Row):Prop where
 so:RSorted p
 fs:PFS p
 mt:MtOk p
 rt:∀ r∈p,r.1=[]→r.2.1=mShut
 nu:∀ r∈p,r.2.1=mGone∨r.2.1=mShut→hidBy p r.1=false
 nm:∀ r∈p,Wy14 r.1
 len:p.length≤n
theorem PaneF.ok {n:Nat} {p:List Row} (h:PaneF n p):PaneOk p:=⟨h.so,fun r hr=>(h.fs r hr).imp id fun z=>z.imp id fun ⟨q,mq,e,f⟩=>⟨q,mq,e,f.live⟩,fun r hr=>by
 rcases h.mt r hr with z | ⟨z | z | z,t⟩
 ·exact .inl z
 ·exact .inr (.inl ⟨z,t⟩)
 ·exact .inr (.inr (.inl z))
 ·exact .inr (.inr (.inr z)),h.rt⟩
theorem PaneF.of {n:Nat} {p:List Row} (h:PaneG n p) (f:PFS p) (t:TxE p):PaneF (n+1) p:=by
 obtain ⟨a1,a2,a3,a4,a5⟩:=h
 have k:mFolder≠mFile∧mFolder≠mLink∧mShut≠mFile∧mShut≠mLink∧mGone≠mFile∧mGone≠mLink:=by decide +kernel
 refine ⟨a1.so,f,fun r hr=>?_,a1.rt,a5,a2,a4⟩
 rcases a1.mr r hr with z | z | z | z
 ·exact .inl z
 ·exact .inr ⟨.inl z.1,z.2⟩
 ·exact .inr ⟨.inr (.inl z),t r hr (by rw [z]; exact k.2.2.1) (by rw [z]; exact k.2.2.2.1)⟩
 ·exact .inr ⟨.inr (.inr z),t r hr (by rw [z]; exact k.2.2.2.2.1) (by rw [z]; exact k.2.2.2.2.2)⟩
structure ThF (n:Nat) (rs:List Row):Prop where
 nd:(rs.map (·.1)).Nodup
 nm:∀ r∈rs,Wy14 r.1
 len:rs.length≤n
 mt:MtOk rs
 rt:∀ r∈rs,r.1=[]→r.2.1=mShut
noncomputable def g_tidied:DP:=fun ds Q=>∃ rs:List Row,ds=[dictD (rs.map prR)]∧ThF 150 rs∧∀ p,PaneF 150 p→Q (.own (rowsL p))
noncomputable def g_over:DP:=fun ds Q=>∃ (u l:List Row) (b:Int),ds=[rowsL u,rowsL l,.int b]∧PaneF 75 u∧PaneF 75 l∧∀ p,PaneF 150 p→Q (.own (rowsL p))
theorem len_tidied:∀ ds Q,g_tidied ds Q→ds.length=1:=by rintro ds Q ⟨_,rfl,_⟩; rfl
theorem len_over:∀ ds Q,g_over ds Q→ds.length=3:=by rintro ds Q ⟨_,_,_,rfl,_⟩; rfl
noncomputable def upR (rs:List Row) (r:Row):List Row:=if r.1∈rs.map (·.1) then rs.map (fun q=>if q.1=r.1 then r else q) else rs++[r]
theorem ins_up (rs:List Row) (r:Row):insP (rs.map prR) r.1 (thD r.2)=(upR rs r).map prR:=by
 unfold insP upR
 rw [ways_pr]
 by_cases m:r.1∈rs.map (·.1)
 ·rw [if_pos m,if_pos m,List.map_map,List.map_map]
  refine List.map_congr_left fun q _=>?_
  show (if q.1=r.1 then (q.1,thD r.2) else prR q)=prR (if q.1=r.1 then r else q)
  by_cases e:q.1=r.1
  ·rw [if_pos e,if_pos e,e]
   rfl
  ·rw [if_neg e,if_neg e]
 ·rw [if_neg m,if_neg m,List.map_append]
  rfl
theorem up_mem {rs:List Row} {r q:Row} (h:q∈upR rs r):q∈rs∨q=r:=by
 unfold upR at h
 split at h
 ·obtain ⟨x,mx,e⟩:=List.mem_map.mp h
  by_cases z:x.1=r.1
  ·rw [if_pos z] at e
   exact .inr e.symm
  ·rw [if_neg z] at e
   exact .inl (e ▸ mx)
 ·rcases List.mem_append.mp h with h | h
  ·exact .inl h
  ·exact .inr (List.mem_singleton.mp h)
theorem ThF.up {n:Nat} {rs:List Row} (h:ThF n rs) {r:Row} (hw:Wy14 r.1) (hm:(r.2.1=mFile∨r.2.1=mLink)∨((r.2.1=mFolder∨r.2.1=mShut∨r.2.1=mGone)∧r.2.2=tEmpty)) (hr:r.1=[]→r.2.1=mShut):ThF (n+1) (upR rs r):=by
 refine ⟨?_,fun q hq=>?_,?_,fun q hq=>?_,fun q hq=>?_⟩
 ·unfold upR
  by_cases m:r.1∈rs.map (·.1)
  ·rw [if_pos m]
   have e:(rs.map fun q=>if q.1=r.1 then r else q).map (·.1)=rs.map (·.1):=by
    rw [List.map_map]
    refine List.map_congr_left fun q _=>?_
    show (if q.1=r.1 then r else q).1=q.1
    by_cases z:q.1=r.1
    ·rw [if_pos z,z]
    ·rw [if_neg z]
   rw [e]
   exact h.nd
  ·rw [if_neg m,List.map_append]
   exact List.nodup_append.mpr ⟨h.nd,by simp,fun a ha b hb e=>m (by rw [← show b=r.1 from by simpa using hb,← e]; exact ha)⟩
 ·rcases up_mem hq with q' | rfl
  ·exact h.nm q q'
  ·exact hw
 ·have:=h.len
  unfold upR
  split
  ·rw [List.length_map]
   lia
  ·rw [List.length_append]
   exact Nat.succ_le_succ this
 ·rcases up_mem hq with q' | rfl
  ·exact h.mt q q'
  ·exact hm
 ·rcases up_mem hq with q' | rfl
  ·exact h.rt q q'
  ·exact hr
theorem mark_app {ks:List Row} {r:Row} {v:List Str} (h:v≠r.1):markR (ks++[r]) v=markR ks v:=by
 unfold markR
 rw [List.find?_append]
 have e:[r].find? (fun q=>decide (q.1=v))=none:=by simpa using fun z:r.1=v=>h z.symm
 rw [e,Option.or_none]
theorem shut_app {ks:List Row} {r:Row} {v:List Str} (h:∀ k,k < v.length→v.take k≠r.1):shutR (ks++[r]) v=shutR ks v:=by
 unfold shutR
 refine any_congr fun k hk=>?_
 rw [mark_app (h k (List.mem_range.mp hk))]
theorem ltW_take {v:List Str}:∀ n k,k+n+1=v.length→ltW (v.take k) v=true
 | 0,k,h=>by
  have e:v.take k=v.dropLast:=by rw [List.dropLast_eq_take]; congr 1; lia
  rw [e]
  exact ltW_drop fun z=>by rw [z] at h; cases h
 | n+1,k,h=>by
  have hk:k+1≤v.length:=by lia
  rw [← take_last hk]
  exact ltW_tr (ltW_drop (take_ne hk)) (ltW_take n (k+1) (by lia))
structure TKF (ws:List (List Str)) (ks:List Row):Prop where
 sub:(ks.map (·.1)).Sublist ws
 nm:∀ r∈ks,Wy14 r.1
 mt:MtOk ks
 rt:∀ r∈ks,r.1=[]→r.2.1=mShut
 fs:PFS ks
 nu:∀ r∈ks,r.2.1=mGone∨r.2.1=mShut→shutR ks r.1=false
theorem TKF.stay {ws:List (List Str)} {ks:List Row} (h:TKF ws ks) (w:List Str):TKF (ws++[w]) ks:=⟨h.sub.trans (List.sublist_append_left _ _),h.nm,h.mt,h.rt,h.fs,h.nu⟩
theorem TKF.put {ws:List (List Str)} {ks:List Row} (h:TKF ws ks) {r:Row} (hw:Wy14 r.1) (hm:(r.2.1=mFile∨r.2.1=mLink)∨((r.2.1=mFolder∨r.2.1=mShut∨r.2.1=mGone)∧r.2.2=tEmpty)) (hr:r.1=[]→r.2.1=mShut)
  (hc:r.1=[]∨r.1.dropLast=[]∨∃ q∈ks,q.1=r.1.dropLast∧FS q.2.1) (hn:r.2.1=mGone∨r.2.1=mShut→shutR ks r.1=false) (lo:∀ q∈ks,ltW q.1 r.1=true):TKF (ws++[r.1]) (ks++[r]):=by
 have go:∀ {x:List Str},(x=[]∨x.dropLast=[]∨∃ q∈ks,q.1=x.dropLast∧FS q.2.1)→(x=[]∨x.dropLast=[]∨∃ q∈ks++[r],q.1=x.dropLast∧FS q.2.1):=fun z=>z.imp id fun z=>z.imp id fun ⟨q,mq,e⟩=>⟨q,List.mem_append_left _ mq,e⟩
 refine ⟨?_,fun q hq=>?_,fun q hq=>?_,fun q hq=>?_,fun q hq=>?_,fun q hq=>?_⟩
 ·rw [List.map_append]
  exact h.sub.append (.refl _)
 ·rcases List.mem_append.mp hq with hq | hq
  ·exact h.nm q hq
  ·rw [List.mem_singleton.mp hq]; exact hw
 ·rcases List.mem_append.mp hq with hq | hq
  ·exact h.mt q hq
  ·rw [List.mem_singleton.mp hq]; exact hm
 ·rcases List.mem_append.mp hq with hq | hq
  ·exact h.rt q hq
  ·rw [List.mem_singleton.mp hq]; exact hr
 ·rcases List.mem_append.mp hq with hq | hq
  ·exact go (h.fs q hq)
  ·rw [List.mem_singleton.mp hq]; exact go hc
 ·rcases List.mem_append.mp hq with hq | hq
  ·rw [shut_app fun k hk e=>?_]
   ·exact h.nu q hq
   ·have a:=lo q hq
    have b:=ltW_take (v:=q.1) (q.1.length - k - 1) k (by lia)
    rw [e,ltW_as a] at b
    cases b
  ·rw [List.mem_singleton.mp hq,shut_app fun k hk e=>?_]
   ·exact hn
   ·have:=congrArg List.length e
    rw [List.length_take] at this
    omega
theorem pfs_chain {p:List Row} (F:PFS p) {r:Row} (hr:r∈p):∀ n k,k+n+1=r.1.length→k=0∨∃ q∈p,q.1=r.1.take k∧FS q.2.1
 | 0,k,h=>by
  have e:r.1.take k=r.1.dropLast:=by rw [List.dropLast_eq_take]; congr 1; lia
  rcases F r hr with z | z | z
  ·rw [z] at h; cases h
  ·rw [z] at e
   exact .inl ((List.take_eq_nil_iff.mp e).resolve_right fun z=>by rw [z] at h; cases h)
  ·rw [e]; exact .inr z
 | n+1,k,h=>by
  rcases pfs_chain F hr n (k+1) (by lia) with z | ⟨q',mq,eq,_⟩
  ·cases z
  ·have hk:k+1≤r.1.length:=by lia
   have e:r.1.take k=q'.1.dropLast:=by rw [eq,take_last hk]
   rcases F q' mq with z | z | z
   ·rw [z] at eq
    exact absurd eq.symm (take_ne hk)
   ·rw [z] at e
    exact .inl ((List.take_eq_nil_iff.mp e).resolve_right fun z=>by rw [z] at hk; cases hk)
   ·rw [e]; exact .inr z
theorem pfs_pre {p:List Row} (nd:(p.map (·.1)).Nodup) (F:PFS p) (rt:∀ r∈p,r.1=[]→r.2.1=mShut) {r:Row} (hr:r∈p) {k:Nat} (hk:k < r.1.length) {m:Str} (h:markR p (r.1.take k)=some m):FS m:=by
 rcases pfs_chain F hr (r.1.length - k - 1) k (by lia) with z | ⟨q,mq,eq,f⟩
 ·rw [z,List.take_zero,markR_at] at h
  cases e:rowAt p [] with
  | none=>rw [e] at h; cases h
  | some x =>
   rw [e] at h
   have:=rt _ ((rowAt_mem nd).mp e) rfl
   rw [← Option.some.inj h]
   exact .inr this
 ·rw [← eq,markR_mem nd mq] at h
  rw [← Option.some.inj h]
  exact f
theorem hid_shut {p:List Row} (nd:(p.map (·.1)).Nodup) (F:PFS p) (rt:∀ r∈p,r.1=[]→r.2.1=mShut) {r:Row} (hr:r∈p) (h:shutR p r.1=false):hidBy p r.1=false:=by
 unfold hidBy
 unfold shutR at h
 rw [List.any_eq_false] at h ⊢
 intro k hk
 have hk':=List.mem_range.mp hk
 have hs:=h k hk
 cases e:markR p (r.1.take k) with
 | none=>exact Bool.false_ne_true
 | some m =>
  rw [e] at hs
  rcases pfs_pre nd F rt hr hk' e with f | f
  ·rw [f]; simp [hidesO]
  ·rw [f] at hs; simp at hs
theorem shut_perm {p q:List Row} (hp:p.Perm q) (nd:(p.map (·.1)).Nodup) (w:List Str):shutR p w=shutR q w:=by
 unfold shutR
 refine any_congr fun k _=>?_
 rw [markR_at,markR_at,rowAt_perm hp nd]
noncomputable def g_tree_under:DP:=fun ds Q=>∃ (ws:List (List Str)) (b:Int) (z:Str),ds=[.lst (ws.map wayD),.int b,.str z]∧(∀ w∈ws,Wy14 w)∧ws.length≤225∧NmZ z∧∀ p,TreeF 451 p→Q (.own (rowsL p))
theorem len_tree_under:∀ ds Q,g_tree_under ds Q→ds.length=3:=by rintro ds Q ⟨_,_,_,rfl,_⟩; rfl
structure UI (n:Nat) (rs:List Row):Prop where
 nd:(rs.map (·.1)).Nodup
 nm:∀ r∈rs,WyOk r.1
 l15:∀ r∈rs,r.1.length≤15
 cl:∀ r∈rs,r.1≠[]∧(r.1.dropLast=[]∨∃ q∈rs,q.1=r.1.dropLast∧q.2.1=mFolder)
 mkd:∀ r∈rs,r.2.1=mFolder∨r.2.1=mFile
 len:rs.length≤n
theorem UI.nil:UI 0 []:=⟨List.nodup_nil,(fun r hr=>by cases hr),(fun r hr=>by cases hr),(fun r hr=>by cases hr),(fun r hr=>by cases hr),Nat.le_refl _⟩
theorem UI.more {n m:Nat} {rs:List Row} (h:UI n rs) (l:n≤m):UI m rs:=⟨h.nd,h.nm,h.l15,h.cl,h.mkd,Nat.le_trans h.len l⟩
theorem UI.put {n:Nat} {rs:List Row} (h:UI n rs) {r:Row} (nw:r.1∉rs.map (·.1)) (hw:WyOk r.1) (hl:r.1.length≤15) (hm:r.2.1=mFolder∨r.2.1=mFile) (hc:r.1≠[]∧(r.1.dropLast=[]∨∃ q∈rs,q.1=r.1.dropLast∧q.2.1=mFolder)):UI (n+1) (rs++[r]):=by
 refine ⟨?_,fun q hq=>?_,fun q hq=>?_,fun q hq=>?_,fun q hq=>?_,by rw [List.length_append]; exact Nat.succ_le_succ h.len⟩
 ·rw [List.map_append]
  exact List.nodup_append.mpr ⟨h.nd,by simp,fun a ha b hb e=>nw (by rw [← show b=r.1 from by simpa using hb,← e]; exact ha)⟩
 ·rcases List.mem_append.mp hq with hq | hq
  ·exact h.nm q hq
  ·rw [List.mem_singleton.mp hq]; exact hw
 ·rcases List.mem_append.mp hq with hq | hq
  ·exact h.l15 q hq
  ·rw [List.mem_singleton.mp hq]; exact hl
 ·have go:∀ {x:List Str},(x≠[]∧(x.dropLast=[]∨∃ q∈rs,q.1=x.dropLast∧q.2.1=mFolder))→(x≠[]∧(x.dropLast=[]∨∃ q∈rs++[r],q.1=x.dropLast∧q.2.1=mFolder)):=fun z=>⟨z.1,z.2.imp id fun ⟨q,mq,e⟩=>⟨q,List.mem_append_left _ mq,e⟩⟩
  rcases List.mem_append.mp hq with hq | hq
  ·exact go (h.cl q hq)
  ·rw [List.mem_singleton.mp hq]; exact go hc
 ·rcases List.mem_append.mp hq with hq | hq
  ·exact h.mkd q hq
  ·rw [List.mem_singleton.mp hq]; exact hm
theorem ins_new {rs:List Row} {w:List Str} (nw:w∉rs.map (·.1)) (m t:Str):insP (rs.map prR) w (.tup [.str m,.str t])=(rs++[(w,m,t)]).map prR:=by
 unfold insP
 rw [ways_pr,if_neg nw,List.map_append]
 rfl
theorem row_lk (rs:List Row) (w:List Str):lkD ((rs.map prR).map (·.1)) ((rs.map prR).map (·.2)) w=(rowAt rs w).map thD:=by
 rw [lkD_pairs,lkP_pr]
 unfold rowAt
 rw [Option.map_map]
 rfl
theorem up_in {rs:List Row} {r q:Row} (h:q∈rs) (ne:q.1≠r.1):q∈upR rs r:=by
 unfold upR
 split
 ·exact List.mem_map.mpr ⟨q,h,if_neg ne⟩
 ·exact List.mem_append_left _ h
theorem up_self (rs:List Row) (r:Row):r∈upR rs r:=by
 unfold upR
 split
 ·rename_i m
  obtain ⟨q,mq,e⟩:=List.mem_map.mp m
  exact List.mem_map.mpr ⟨q,mq,if_pos e⟩
 ·exact List.mem_append_right _ (List.mem_singleton.mpr rfl)
theorem up_len (rs:List Row) (r:Row):(upR rs r).length≤rs.length+1:=by
 unfold upR
 split
 ·rw [List.length_map]; lia
 ·rw [List.length_append]; exact Nat.le_refl _
theorem up_len_in {rs:List Row} {r:Row} (h:r.1∈rs.map (·.1)):(upR rs r).length=rs.length:=by
 unfold upR
 rw [if_pos h,List.length_map]
theorem up_nd {rs:List Row} (nd:(rs.map (·.1)).Nodup) (r:Row):((upR rs r).map (·.1)).Nodup:=by
 unfold upR
 by_cases m:r.1∈rs.map (·.1)
 ·rw [if_pos m]
  have e:(rs.map fun q=>if q.1=r.1 then r else q).map (·.1)=rs.map (·.1):=by
   rw [List.map_map]
   refine List.map_congr_left fun q _=>?_
   show (if q.1=r.1 then r else q).1=q.1
   by_cases z:q.1=r.1
   ·rw [if_pos z,z]
   ·rw [if_neg z]
  rw [e]
  exact nd
 ·rw [if_neg m,List.map_append]
  exact List.nodup_append.mpr ⟨nd,by simp,fun a ha b hb e=>m (by rw [← show b=r.1 from by simpa using hb,← e]; exact ha)⟩
theorem UI.up {n k:Nat} {rs:List Row} (h:UI n rs) {r:Row} (hw:WyOk r.1) (hl:r.1.length≤15) (hm:r.2.1=mFolder∨r.2.1=mFile) (hc:r.1≠[]∧(r.1.dropLast=[]∨∃ q∈rs,q.1=r.1.dropLast∧q.2.1=mFolder)) (nc:∀ q∈rs,q.1.dropLast≠r.1) (hk:(upR rs r).length≤k):UI k (upR rs r):=by
 refine ⟨up_nd h.nd r,fun q hq=>?_,fun q hq=>?_,fun q hq=>?_,fun q hq=>?_,hk⟩
 ·rcases up_mem hq with q' | rfl
  ·exact h.nm q q'
  ·exact hw
 ·rcases up_mem hq with q' | rfl
  ·exact h.l15 q q'
  ·exact hl
 ·rcases up_mem hq with q' | rfl
  ·obtain ⟨a,b⟩:=h.cl q q'
   refine ⟨a,b.imp id fun ⟨x,mx,ex,fx⟩=>⟨x,up_in mx fun e=>nc q q' (ex.symm.trans e),ex,fx⟩⟩
  ·refine ⟨hc.1,hc.2.imp id fun ⟨x,mx,ex,fx⟩=>⟨x,up_in mx fun e=>?_,ex,fx⟩⟩
   have:=congrArg List.length (ex.symm.trans e)
   rw [List.length_dropLast] at this
   have:=List.length_pos_iff.mpr hc.1
   lia
 ·rcases up_mem hq with q' | rfl
  ·exact h.mkd q q'
  ·exact hm
theorem ltW_le {a b c:List Str} (h1:ltW b a=false) (h2:ltW c b=false):ltW c a=false:=by
 cases h:ltW c a with
 | false=>rfl
 | true =>
  by_cases e1:a=b
  ·rw [e1,h2] at h; cases h
  by_cases e2:b=c
  ·rw [← e2,h1] at h; cases h
  have q1:=(ltW_tot e1).resolve_right (by rw [h1]; exact Bool.false_ne_true)
  have q2:=(ltW_tot e2).resolve_right (by rw [h2]; exact Bool.false_ne_true)
  have:=ltW_as (ltW_tr q1 q2)
  rw [this] at h
  cases h
theorem sortW_ways (ws:List (List Str)):SortW (ws.map wayD) where
 tup:=.inl fun d hd=>by
  obtain ⟨w,_,rfl⟩:=List.mem_map.mp hd
  refine ⟨w.map D.str,rfl,by rw [dep_way]; lia,fun x hx=>?_⟩
  rw [List.getElem?_map] at hx
  obtain ⟨z,_,rfl⟩:=Option.map_eq_some_iff.mp hx
  rfl
 ord:=fun d hd e he=>by
  obtain ⟨a,_,rfl⟩:=List.mem_map.mp hd
  obtain ⟨b,_,rfl⟩:=List.mem_map.mp he
  show ordD (.tup _) (.tup _)=true
  unfold ordD
  exact ord_strs a b
 tr:=fun d hd e he f hf=>by
  obtain ⟨a,_,rfl⟩:=List.mem_map.mp hd
  obtain ⟨b,_,rfl⟩:=List.mem_map.mp he
  obtain ⟨c,_,rfl⟩:=List.mem_map.mp hf
  rw [ltD_way,ltD_way,ltD_way]
  exact ltW_le
 as:=fun d hd e he=>by
  obtain ⟨a,_,rfl⟩:=List.mem_map.mp hd
  obtain ⟨b,_,rfl⟩:=List.mem_map.mp he
  rw [ltD_way,ltD_way]
  exact ltW_as
theorem ways_backW {ds:List D} {ws:List (List Str)} (hp:ds.Perm (ws.map wayD)) (hs:ds.Pairwise (fun a b=>ltD b a=false)):∃ vs:List (List Str),ds=vs.map wayD∧vs.Perm ws∧vs.Pairwise (fun a b=>ltW b a=false):=by
 have e:ds=(ds.map unW).map wayD:=by
  rw [List.map_map]
  refine (List.map_id _).symm.trans (List.map_congr_left fun d hd=>?_)
  obtain ⟨w,_,rfl⟩:=List.mem_map.mp (hp.mem_iff.mp hd)
  show wayD w=wayD (unW (wayD w))
  rw [unW_way]
 refine ⟨ds.map unW,e,?_,?_⟩
 ·have:=hp.map unW
  rw [List.map_map] at this
  exact this.trans (List.Perm.of_eq ((List.map_congr_left fun w _=>unW_way w).trans (List.map_id _)))
 ·rw [e,List.pairwise_map] at hs
  exact hs.imp fun h=>by rw [← ltD_way]; exact h
theorem pm_some {m m':Str} {b c:Bool} (h:pmark m b c=some m'):(m=mGone∧b=false∧m'=mGone)∨(m=mShut∧((b=true∧m'=mFolder)∨(b=false∧m'=mShut)))∨(m=mFolder∧((b=false∧c=true∧m'=mShut)∨m'=mFolder))∨((m≠mGone∧m≠mShut∧m≠mFolder)∧m'=m):=by
 rcases pmark_cases m with e | e | e | e
 ·subst e
  rw [pm_gone] at h
  cases b with
  | true=>rw [if_pos rfl] at h; cases h
  | false=>rw [if_neg Bool.false_ne_true] at h; cases h; exact .inl ⟨rfl,rfl,rfl⟩
 ·subst e
  rw [pm_shut] at h
  cases b with
  | true=>rw [if_pos rfl] at h; cases h; exact .inr (.inl ⟨rfl,.inl ⟨rfl,rfl⟩⟩)
  | false=>rw [if_neg Bool.false_ne_true] at h; cases h; exact .inr (.inl ⟨rfl,.inr ⟨rfl,rfl⟩⟩)
 ·subst e
  rw [pm_folder] at h
  cases b with
  | true=>cases h; exact .inr (.inr (.inl ⟨rfl,.inr rfl⟩))
  | false =>
   cases c with
   | true=>cases h; exact .inr (.inr (.inl ⟨rfl,.inl ⟨rfl,rfl,rfl⟩⟩))
   | false=>cases h; exact .inr (.inr (.inl ⟨rfl,.inr rfl⟩))
 ·rw [pm_else e] at h
  cases h
  exact .inr (.inr (.inr ⟨e,rfl⟩))
theorem pm_fs {m:Str} (h:FS m) (b c:Bool):∃ m',pmark m b c=some m'∧FS m':=by
 rcases h with rfl | rfl
 ·rw [pm_folder]
  split
  ·exact ⟨_,rfl,.inr rfl⟩
  ·exact ⟨_,rfl,.inl rfl⟩
 ·rw [pm_shut]
  split
  ·exact ⟨_,rfl,.inl rfl⟩
  ·exact ⟨_,rfl,.inr rfl⟩
theorem press_cases {u l:List Row} (ndu:(u.map (·.1)).Nodup) (ndl:(l.map (·.1)).Nodup) {w:List Str} {x:Str × Str} (h:pAt u l w=some x):(∃ m,rowAt u w=some (m,x.2)∧pmark m (hidBy l w) (hidesO (markR l w) && !hidBy u w)=some x.1)∨(rowAt u w=none∧hidBy u w=false∧rowAt l w=some x):=by
 unfold pAt at h
 cases hu:rowAt u w with
 | some y =>
  rw [hu] at h
  have h':(pmark y.1 (hidBy l w) (hidesO (markR l w) && !hidBy u w)).map (fun m=>(m,y.2))=some x:=h
  cases hp:pmark y.1 (hidBy l w) (hidesO (markR l w) && !hidBy u w) with
  | none=>rw [hp] at h'; cases h'
  | some m' =>
   rw [hp] at h'
   cases h'
   exact .inl ⟨y.1,rfl,hp⟩
 | none =>
  rw [hu] at h
  have h':(if hidBy u w=true then none else rowAt l w)=some x:=h
  cases hb:hidBy u w with
  | true=>rw [hb,if_pos rfl] at h'; cases h'
  | false =>
   rw [hb,if_neg Bool.false_ne_true] at h'
   exact .inr ⟨rfl,rfl,h'⟩
theorem press_pane {n m:Nat} {u l:List Row} (U:PaneF n u) (L:PaneF m l):PaneF (n+m) (pressR u l):=by
 obtain ⟨PC,pm,at'⟩:=pressR_ok U.ok.c L.ok.c
 have nd:=rsorted_nd PC.so
 have ndu:=rsorted_nd U.so
 have ndl:=rsorted_nd L.so
 have cs:∀ r∈pressR u l,(∃ m,(r.1,m,r.2.2)∈u∧pmark m (hidBy l r.1) (hidesO (markR l r.1) && !hidBy u r.1)=some r.2.1)∨(rowAt u r.1=none∧hidBy u r.1=false∧r∈l):=fun r hr=>by
  have h:=(rowAt_mem nd).mpr hr
  rw [at'] at h
  rcases press_cases ndu ndl h with ⟨m,a,b⟩ | ⟨a,b,c⟩
  ·exact .inl ⟨m,(rowAt_mem ndu).mp a,b⟩
  ·exact .inr ⟨a,b,(rowAt_mem ndl).mp c⟩
 have k:mFile≠mGone∧mFile≠mShut∧mFile≠mFolder∧mLink≠mGone∧mLink≠mShut∧mLink≠mFolder∧mGone≠mShut∧mGone≠mFolder∧mShut≠mFolder:=by decide +kernel
 have inP:∀ {w:List Str} {x:Str × Str},pAt u l w=some x→(w,x)∈pressR u l:=fun h=>(rowAt_mem nd).mp ((at' _).trans h)
 refine ⟨PC.so,fun r hr=>?_,fun r hr=>?_,fun r hr e=>?_,fun r hr e=>?_,fun r hr=>?_,?_⟩
 ·rcases cs r hr with ⟨m0,mu,hp⟩ | ⟨hn,hb,ml⟩
  ·rcases U.fs _ mu with z | z | ⟨q,mq,eq,fq⟩
   ·exact .inl z
   ·exact .inr (.inl z)
   ·refine .inr (.inr ?_)
    have eq':q.1=r.1.dropLast:=eq
    obtain ⟨m',hm',fm⟩:=pm_fs fq (hidBy l r.1.dropLast) (hidesO (markR l r.1.dropLast) && !hidBy u r.1.dropLast)
    have ha:pAt u l r.1.dropLast=some (m',q.2.2):=by
     unfold pAt
     rw [(rowAt_mem ndu).mpr (show (r.1.dropLast,q.2)∈u by rw [← eq']; exact mq)]
     show (pmark q.2.1 _ _).map _=_
     rw [hm']
     rfl
    exact ⟨_,inP ha,rfl,fm⟩
  ·rcases L.fs _ ml with z | z | ⟨q,mq,eq,fq⟩
   ·exact .inl z
   ·exact .inr (.inl z)
   ·refine .inr (.inr ?_)
    by_cases h0:r.1=[]
    ·have:r.1.dropLast=[]:=by rw [h0]; rfl
     rw [this] at eq
     have:=L.rt q mq eq
     obtain ⟨b1,_⟩:=hid_pre hb
     rw [h0] at hn hb b1
     refine ⟨(r.1.dropLast,q.2),inP ?_,rfl,fq⟩
     rw [show r.1.dropLast=[] by rw [h0]; rfl]
     unfold pAt
     rw [hn]
     show (if hidBy u []=true then none else rowAt l [])=_
     rw [hb,if_neg Bool.false_ne_true]
     exact (rowAt_mem ndl).mpr (by rw [← show q.1=[] from eq]; exact mq)
    obtain ⟨b1,b2⟩:=hid_pre hb
    have b2:=b2 h0
    rw [markR_at] at b2
    cases hd:rowAt u r.1.dropLast with
    | none =>
     refine ⟨(r.1.dropLast,q.2),inP ?_,rfl,fq⟩
     unfold pAt
     rw [hd]
     show (if hidBy u r.1.dropLast=true then none else rowAt l r.1.dropLast)=_
     rw [b1,if_neg Bool.false_ne_true]
     exact (rowAt_mem ndl).mpr (by rw [← show q.1=r.1.dropLast from eq]; exact mq)
    | some y =>
     rw [hd] at b2
     have fy:y.1=mFolder:=by simpa [hidesO] using b2
     obtain ⟨m',hm',fm⟩:=pm_fs (.inl fy) (hidBy l r.1.dropLast) (hidesO (markR l r.1.dropLast) && !hidBy u r.1.dropLast)
     refine ⟨(r.1.dropLast,m',y.2),inP ?_,rfl,fm⟩
     unfold pAt
     rw [hd]
     show (pmark y.1 _ _).map _=_
     rw [hm']
     rfl
 ·rcases cs r hr with ⟨m0,mu,hp⟩ | ⟨_,_,ml⟩
  ·rcases U.mt _ mu with z | ⟨z,t⟩
   ·rcases pm_some hp with ⟨a,_⟩ | ⟨a,_⟩ | ⟨a,_⟩ | ⟨_,a⟩
    ·rcases z with z | z
     ·exact absurd (z.symm.trans a) k.1
     ·exact absurd (z.symm.trans a) k.2.2.2.1
    ·rcases z with z | z
     ·exact absurd (z.symm.trans a) k.2.1
     ·exact absurd (z.symm.trans a) k.2.2.2.2.1
    ·rcases z with z | z
     ·exact absurd (z.symm.trans a) k.2.2.1
     ·exact absurd (z.symm.trans a) k.2.2.2.2.2.1
    ·rw [a]; exact .inl z
   ·refine .inr ⟨?_,t⟩
    rcases pm_some hp with ⟨_,_,a⟩ | ⟨_,a | a⟩ | ⟨_,a | a⟩ | ⟨a,_⟩
    ·exact .inr (.inr a)
    ·exact .inl a.2
    ·exact .inr (.inl a.2)
    ·exact .inr (.inl a.2.2)
    ·exact .inl a
    ·rcases z with z | z | z
     ·exact absurd z a.2.2
     ·exact absurd z a.2.1
     ·exact absurd z a.1
  ·exact L.mt r ml
 ·rcases cs r hr with ⟨m0,mu,hp⟩ | ⟨_,_,ml⟩
  ·have:=U.rt _ mu e
   have hb:hidBy l r.1=false:=by rw [e]; rfl
   have this':m0=mShut:=this
   rw [this',pm_shut,hb,if_neg Bool.false_ne_true] at hp
   exact (Option.some.inj hp).symm
  ·exact L.rt r ml e
 ·rw [hid_press at' r.1]
  rcases cs r hr with ⟨m0,mu,hp⟩ | ⟨_,hb,ml⟩
  ·rcases pm_some hp with ⟨a,b,c⟩ | ⟨a,b | b⟩ | ⟨a,b | b⟩ | ⟨a,b⟩
   ·rw [b,U.nu _ mu (.inl a)]; rfl
   ·rcases e with e | e
    ·exact absurd (e.symm.trans b.2) k.2.2.2.2.2.2.2.1
    ·exact absurd (e.symm.trans b.2) k.2.2.2.2.2.2.2.2
   ·rw [b.1,U.nu _ mu (.inr a)]; rfl
   ·have c:=(Bool.and_eq_true_iff.mp b.2.1).2
    have c':hidBy u r.1=false:=by simpa using c
    rw [b.1,c']; rfl
   ·rcases e with e | e
    ·exact absurd (e.symm.trans b) k.2.2.2.2.2.2.2.1
    ·exact absurd (e.symm.trans b) k.2.2.2.2.2.2.2.2
   ·rcases e with e | e
    ·exact absurd (b.symm.trans e) a.1
    ·exact absurd (b.symm.trans e) a.2.1
  ·rw [hb,L.nu r ml e]; rfl
 ·rcases cs r hr with ⟨m0,mu,_⟩ | ⟨_,_,ml⟩
  ·exact U.nm (r.1,m0,r.2.2) mu
  ·exact L.nm r ml
 ·rw [pm.length_eq]
  have:=press_len u l
  have:=U.len
  have:=L.len
  lia
theorem laid_press {n m:Nat} {u l t:List Row} (U:PaneF n u) (L:PaneF m l) (T:TreeOk t):laidR (pressR u l) t=laidR u (laidR l t):=by
 have PP:=(press_pane U L).ok
 obtain ⟨_,_,at'⟩:=pressR_ok U.ok.c L.ok.c
 have ndu:=rsorted_nd U.so
 obtain ⟨T2,_⟩:=laid_ok L.ok T
 obtain ⟨T3,_⟩:=laid_ok U.ok T2
 obtain ⟨T4,_⟩:=laid_ok PP T
 refine rsorted_ext T4.so T3.so fun w=>?_
 by_cases hw:w=[]
 ·rw [hw,laid_root PP T,laid_root U.ok T2]
 rw [laid_at PP T hw,laid_at U.ok T2 hw]
 have hp:=hid_press at' w
 unfold LA
 rw [at',hp]
 unfold pAt
 have k:mFolder≠mGone∧mFolder≠mShut∧mShut≠mGone∧mShut≠mFile∧mShut≠mLink∧mFolder≠mFile∧mFolder≠mLink:=by decide +kernel
 cases hu:rowAt u w with
 | none =>
  show (match (if hidBy u w=true then none else rowAt l w) with | some x=>_ | none=>_)=(if hidBy u w=true then none else rowAt (laidR l t) w)
  cases hb:hidBy u w with
  | true=>rfl
  | false =>
   show (match rowAt l w with | some x=>if x.1=mGone then none else if x.1=mShut then some (mFolder,tEmpty) else some x | none=>if (false || hidBy l w)=true then none else rowAt t w)=rowAt (laidR l t) w
   rw [laid_at L.ok T hw]
   rfl
 | some y =>
  obtain ⟨m0,x⟩:=y
  have mu:=(rowAt_mem ndu).mp hu
  show (match (pmark m0 (hidBy l w) (hidesO (markR l w) && !hidBy u w)).map (fun m=>(m,x)) with | some x=>if x.1=mGone then none else if x.1=mShut then some (mFolder,tEmpty) else some x | none=>if (hidBy u w || hidBy l w)=true then none else rowAt t w)=(if m0=mGone then none else if m0=mShut then some (mFolder,tEmpty) else some (m0,x))
  cases hm:pmark m0 (hidBy l w) (hidesO (markR l w) && !hidBy u w) with
  | none =>
   have e:m0=mGone∧hidBy l w=true:=by
    rcases pmark_cases m0 with e | e | e | e
    ·subst e
     rw [pm_gone] at hm
     cases hb:hidBy l w with
     | true=>exact ⟨rfl,rfl⟩
     | false=>rw [hb,if_neg Bool.false_ne_true] at hm; cases hm
    ·subst e
     rw [pm_shut] at hm
     split at hm <;> cases hm
    ·subst e
     rw [pm_folder] at hm
     split at hm <;> cases hm
    ·rw [pm_else e] at hm; cases hm
   rw [e.1,if_pos rfl]
   show (if (hidBy u w || hidBy l w)=true then none else rowAt t w)=none
   rw [e.2,Bool.or_true,if_pos rfl]
  | some m' =>
   show (if m'=mGone then none else if m'=mShut then some (mFolder,tEmpty) else some (m',x))=_
   have tx:m0=mFolder∨m0=mShut→x=tEmpty:=fun z=>by
    rcases U.mt _ mu with q | q
    ·rcases z with z | z
     ·rcases q with q | q
      ·exact absurd (z.symm.trans q) k.2.2.2.2.2.1
      ·exact absurd (z.symm.trans q) k.2.2.2.2.2.2
     ·rcases q with q | q
      ·exact absurd (z.symm.trans q) k.2.2.2.1
      ·exact absurd (z.symm.trans q) k.2.2.2.2.1
    ·exact q.2
   rcases pm_some hm with ⟨a,_,c⟩ | ⟨a,b | b⟩ | ⟨a,b | b⟩ | ⟨a,b⟩
   ·rw [a,c]
   ·rw [a,b.2,if_neg k.1,if_neg k.2.1,if_neg k.2.2.1,if_pos rfl,tx (.inr a)]
   ·rw [a,b.2]
   ·rw [a,b.2.2,if_neg k.2.2.1,if_pos rfl,if_neg k.1,if_neg k.2.1,tx (.inl a)]
   ·rw [a,b,if_neg k.1,if_neg k.2.1]
   ·rw [b]
noncomputable def g_laid:DP:=fun ds Q=>∃ p tr:List Row,ds=[rowsL p,rowsL tr]∧PaneOk p∧NmOk p∧p.length≤250∧TreeOk tr∧NmOk tr∧tr.length+bulk p≤700∧(TreeOk (laidR p tr)→NmOk (laidR p tr)→(laidR p tr).length≤tr.length+bulk p→Q (.own (rowsL (laidR p tr))))
theorem len_laid:∀ ds Q,g_laid ds Q→ds.length=2:=by rintro ds Q ⟨_,_,rfl,_⟩; rfl
structure StandOk (ps:List Row) (r:Row):Prop where
 wy:WyOk r.1
 rt:r.1=[]→r.2.1=mShut
 pre:∀ k,k < r.1.length→(markR ps (r.1.take k)=none→k=0)∧∀ m,markR ps (r.1.take k)=some m→FS m∧(m=mShut→r.2.1≠mGone∧r.2.1≠mShut)
 mt:r.2.1=mFile∨r.2.1=mLink∨r.2.1=mFolder∨r.2.1=mGone∨r.2.1=mShut
noncomputable def g_stands:DP:=fun ds Q=>∃ (ps:List Row) (r:Row),ds=[rowD r,dictD (ps.map prM)]∧StandOk ps r∧Q (.val (.bl true))
noncomputable def g_is_pane:DP:=fun ds Q=>∃ p:List Row,ds=[rowsL p]∧PaneF 300 p∧Q (.val (.bl true))
theorem len_stands:∀ ds Q,g_stands ds Q→ds.length=2:=by rintro ds Q ⟨_,_,rfl,_⟩; rfl
theorem len_is_pane:∀ ds Q,g_is_pane ds Q→ds.length=1:=by rintro ds Q ⟨_,rfl,_⟩; rfl
theorem mark_take {p:List Row} (so:RSorted p) {i:Nat} (hi:i < p.length) {v:List Str} (h:ltW v p[i].1=true):markR (p.take i) v=markR p v:=by
 have nd:=rsorted_nd so
 have nd2:((p.take i).map (·.1)).Nodup:=nd.sublist ((List.take_sublist _ _).map _)
 rw [markR_at,markR_at]
 congr 1
 refine opt_ext fun x=>?_
 rw [rowAt_mem nd2,rowAt_mem nd]
 refine ⟨fun m=>List.mem_of_mem_take m,fun m=>?_⟩
 obtain ⟨j,hj,ej⟩:=List.mem_iff_getElem.mp m
 rcases Nat.lt_or_ge j i with q | q
 ·refine List.mem_iff_getElem.mpr ⟨j,by rw [List.length_take]; lia,?_⟩
  rw [List.getElem_take]
  exact ej
 ·exfalso
  by_cases e:i=j
  ·subst e
   have:=ltW_as h
   rw [ej] at h this
   rw [h] at this
   cases this
  ·have:=List.pairwise_iff_getElem.mp so i j hi hj (by lia)
   rw [ej] at this
   have a:=ltW_as h
   rw [this] at a
   cases a
theorem PaneF.stand {n:Nat} {p:List Row} (P:PaneF n p) {i:Nat} (hi:i < p.length):StandOk (p.take i) p[i]:=by
 have mr:p[i]∈p:=List.getElem_mem hi
 have nd:=rsorted_nd P.so
 have mt:∀ k,k < p[i].1.length→markR (p.take i) (p[i].1.take k)=markR p (p[i].1.take k):=fun k hk=>mark_take P.so hi (ltW_take (p[i].1.length - k - 1) k (by lia))
 refine ⟨(P.nm _ mr).ok,P.rt _ mr,fun k hk=>⟨fun h=>?_,fun m h=>?_⟩,?_⟩
 ·rw [mt k hk] at h
  rcases pfs_chain P.fs mr (p[i].1.length - k - 1) k (by lia) with z | ⟨q,mq,eq,_⟩
  ·exact z
  ·rw [← eq,markR_mem nd mq] at h
   cases h
 ·rw [mt k hk] at h
  refine ⟨pfs_pre nd P.fs P.rt mr hk h,fun e=>?_⟩
  have no:¬ (p[i].2.1=mGone∨p[i].2.1=mShut):=fun z=>by
   have hb:=P.nu _ mr z
   unfold hidBy at hb
   rw [List.any_eq_false] at hb
   have:=hb k (List.mem_range.mpr hk)
   rw [h,e,hd_shut] at this
   exact this rfl
  exact ⟨fun z=>no (.inl z),fun z=>no (.inr z)⟩
 ·rcases P.mt _ mr with (z | z) | ⟨z | z | z,_⟩
  ·exact .inl z
  ·exact .inr (.inl z)
  ·exact .inr (.inr (.inl z))
  ·exact .inr (.inr (.inr (.inr z)))
  ·exact .inr (.inr (.inr (.inl z)))
noncomputable def g_law:DP:=fun ds Q=>∃ ns,ds=[.scr ns]∧Q (.val (.bl true))
theorem len_law:∀ ds Q,g_law ds Q→ds.length=1:=by rintro ds Q ⟨_,rfl,_⟩; rfl
noncomputable def b_cell_at:TVS:=(vSeq (vIfS (vBl (vOp vLt (vVar 1) (vF1 vLen (vVar 0))))
  (vRet (vOp vIxR (vVar 0) (vVar 1)))
  vNext)
 (vRet (vC (.int 0))))
noncomputable abbrev N_cell_at:List Str:=["_law_script","_law_k"]
theorem w_cell_at:∀ ds Q,g_cell_at ds Q→b_cell_at (En Q) (startD N_cell_at ds):=by
 rintro ds Q ⟨ns,k,rfl,h0,h⟩
 simp! only [vSeq,b_cell_at]
 split
 ·rename_i c
  obtain ⟨v,hv,hv2⟩:=at_nat (xs:=ns) h0 (of_decide_eq_true c)
  unfold cellI at h
  rw [hv2] at h
  exact ⟨v,hv,h⟩
 ·rename_i c
  have hn:ns[k.toNat]?=none:=List.getElem?_eq_none (by have:=of_decide_eq_false (Bool.eq_false_iff.mpr c); omega)
  unfold cellI at h
  rw [hn] at h
  exact h
noncomputable def mxA:List Int:=[48271,69621,16807,39373,21401,60493,87721,31337]
noncomputable def mxB:List Int:=[99991,99989,99971,99961,99929,99923,99907,99901]
noncomputable def b_big:TVS:=(vSeq (vSet 2 (vTup (vCons (vC (.int 48271)) (vCons (vC (.int 69621)) (vCons (vC (.int 16807)) (vCons (vC (.int 39373)) (vCons (vC (.int 21401)) (vCons (vC (.int 60493)) (vCons (vC (.int 87721)) (vCons (vC (.int 31337)) vNil))))))))))
 (vSeq (vSet 3 (vTup (vCons (vC (.int 99991)) (vCons (vC (.int 99989)) (vCons (vC (.int 99971)) (vCons (vC (.int 99961)) (vCons (vC (.int 99929)) (vCons (vC (.int 99923)) (vCons (vC (.int 99907)) (vCons (vC (.int 99901)) vNil))))))))))
 (vSeq (vSet 4 (vCallN g_cell_at (vCons (vVar 0) (vCons (vVar 1) vNil))))
 (vSeq (vIfS (vBl (vOp vEq (vOp vMod (vVar 4) (vC (.int 2))) (vC (.int 0))))
  (vRet (vOp vDiv (vVar 4) (vC (.int 2))))
  vNext)
 (vSeq (vSet 5 (vC (.int 0)))
 (vSeq (vFor (vRng1 (vC (.int 60))) (vgName 6)
  (vSeq (vSet 7 (vOp vAdd (vOp vAdd (vOp vMod (vCallN g_cell_at (vCons (vVar 0) (vCons (vOp vAdd (vVar 1) (vOp vMod (vVar 6) (vC (.int 9)))) vNil))) (vOp vPow (vC (.int 10)) (vC (.int 18)))) (vC (.int 1))) (vOp vMul (vVar 6) (vVar 6))))
 (vSet 5 (vOp vAdd (vOp vMul (vVar 5) (vC (.int 7919))) (vOp vMod (vOp vMod (vOp vMul (vVar 7) (vOp vIxR (vVar 2) (vOp vMod (vVar 6) (vC (.int 8))))) (vOp vIxR (vVar 3) (vOp vMod (vVar 6) (vC (.int 8))))) (vC (.int 7919)))))))
 (vRet (vVar 5))))))))
noncomputable abbrev N_big:List Str:=["_law_script","_law_at","_law_by","_law_prime","_law_cell","_law_big_here","_law_k","_law_one"]
theorem w_big:∀ ds Q,g_big ds Q→b_big (En Q) (startD N_big ds):=by
 rintro ds Q ⟨ns,k,rfl,h0,h⟩
 refine v_cut (fun τ=>τ=[some (.val (.scr ns)),some (.val (.int k)),some (.val (.tup (mxA.map D.int))),none,none,none,none,none]) ?_ fun nx hnx=>?now
 case now =>
  dsimp! only [true_and]
  exact ⟨by decide,hnx _ rfl⟩
 rintro τ rfl
 refine v_cut (fun τ=>τ=[some (.val (.scr ns)),some (.val (.int k)),some (.val (.tup (mxA.map D.int))),some (.val (.tup (mxB.map D.int))),none,none,none,none]) ?_ fun nx hnx=>?now
 case now =>
  dsimp! only [true_and]
  exact ⟨by decide,hnx _ rfl⟩
 rintro τ rfl
 refine v_cut (fun τ=>∃ c:Int,τ=[some (.val (.scr ns)),some (.val (.int k)),some (.val (.tup (mxA.map D.int))),some (.val (.tup (mxB.map D.int))),some (.val (.int c)),none,none,none]) ?_ fun nx hnx=>?now
 case now =>
  dsimp! only [g_cell_at]
  exact ⟨h0,hnx _ ⟨_,rfl⟩⟩
 rintro τ ⟨c,rfl⟩
 refine v_cut (fun τ=>τ=[some (.val (.scr ns)),some (.val (.int k)),some (.val (.tup (mxA.map D.int))),some (.val (.tup (mxB.map D.int))),some (.val (.int c)),none,none,none]) ?_ fun nx hnx=>?now
 case now =>
  dsimp! only [true_and]
  split
  ·exact h _
  ·exact hnx _ rfl
 rintro τ rfl
 refine v_cut (fun τ=>τ=[some (.val (.scr ns)),some (.val (.int k)),some (.val (.tup (mxA.map D.int))),some (.val (.tup (mxB.map D.int))),some (.val (.int c)),some (.val (.int 0)),none,none]) ?_ fun nx hnx=>?now
 case now =>
  dsimp! only [true_and]
  exact hnx _ rfl
 rintro τ rfl
 refine v_cut (fun τ=>∃ (i:Int) (a b:Option R),τ=[some (.val (.scr ns)),some (.val (.int k)),some (.val (.tup (mxA.map D.int))),some (.val (.tup (mxB.map D.int))),some (.val (.int c)),some (.val (.int i)),a,b]) ?_ fun nx hnx=>?now
 case now =>
  dsimp! only [true_and]
  refine ⟨by decide,by decide,for_rng (fun _ τ=>∃ (i:Int) (a b:Option R),τ=[some (.val (.scr ns)),some (.val (.int k)),some (.val (.tup (mxA.map D.int))),some (.val (.tup (mxB.map D.int))),some (.val (.int c)),some (.val (.int i)),a,b]) ⟨0,none,none,rfl⟩ ?_ ?_⟩
  ·rintro j τ hj ⟨i,a,b,rfl⟩ nx2 hnx2
   refine v_cut (fun τ=>∃ o:Int,τ=[some (.val (.scr ns)),some (.val (.int k)),some (.val (.tup (mxA.map D.int))),some (.val (.tup (mxB.map D.int))),some (.val (.int c)),some (.val (.int i)),some (.val (.int j)),some (.val (.int o))]) ?_ fun nx3 hnx3=>?now
   case now =>
    have q0:=Int.emod_nonneg (j:Int) (show (9:Int)≠0 by decide)
    have hj':(j:Int) < 60:=by have:(60:Int).toNat=60:=rfl; lia
    dsimp! only [g_cell_at]
    exact ⟨by lia,⟨by decide,by decide,by decide⟩,by decide,.inr ⟨by lia,by lia⟩,hnx3 _ ⟨_,rfl⟩⟩
   rintro τ ⟨o,rfl⟩
   have q0:=Int.emod_nonneg (j:Int) (show (8:Int)≠0 by decide)
   have q1:=Int.emod_lt_of_pos (j:Int) (show (0:Int) < 8 by decide)
   obtain ⟨x,hx,hx2⟩:=at_nat (xs:=mxA) (k:=(j:Int) % 8) q0 q1
   obtain ⟨y,hy,hy2⟩:=at_nat (xs:=mxB) (k:=(j:Int) % 8) q0 q1
   have ba:∀ x∈mxA,0≤x∧x < 100000:=by decide
   have bb:∀ x∈mxB,0 < x:=by decide
   have a1:=ba x (List.mem_of_getElem? hx2)
   have b1:=bb y (List.mem_of_getElem? hy2)
   dsimp! only [true_and]
   refine ⟨.inr (by decide),.int x,by rw [atI_map,hx]; rfl,?_⟩
   dsimp! only [true_and]
   refine ⟨.inr ⟨by lia,by lia⟩,.int y,by rw [atI_map,hy]; rfl,?_⟩
   dsimp! only [true_and]
   exact ⟨b1,hnx2 _ ⟨_,_,_,rfl⟩⟩
  ·rintro τ ⟨i,a,b,rfl⟩
   exact hnx _ ⟨i,a,b,rfl⟩
 rintro τ ⟨i,a,b,rfl⟩
 dsimp! only [true_and]
 exact h i
theorem ns36:(NS.cps.toList.length:Int)=36:=by decide +kernel
theorem nsLine:NS.length≤sizeLine:=by decide +kernel
noncomputable def b_name_of:TVS:=(vSeq (vSet 2 (vC (.str ("abcdefghijklmnopqrstuvwxyz0123456789" : Str))))
 (vSeq (vSet 3 (vOp vMod (vVar 0) (vC (.int 8))))
 (vSeq (vSet 0 (vOp vDiv (vVar 0) (vC (.int 8))))
 (vSeq (vIfS (vAndT (vBl (vOp vGt (vVar 3) (vC (.int 1)))) (vBl (vOp vNeD (vVarI 1) (vLst vNil))))
  (vRetI (vTup (vCons (vOp vIxR (vVarI 1) (vOp vMod (vVar 0) (vF1 vLen (vVarI 1)))) (vCons (vOp vDiv (vVar 0) (vF1 vLen (vVarI 1))) vNil))))
  vNext)
 (vSeq (vSet 4 (vC (.str ("" : Str))))
 (vSeq (vIfS (vAndT (vBl (vOp vEq (vVar 3) (vC (.int 1)))) (vBl (vOp vNeD (vVarI 1) (vLst vNil))))
  (vSeq (vSet 4 (vSlice (vOp vIxR (vVarI 1) (vOp vMod (vVar 0) (vF1 vLen (vVarI 1)))) vNoPart (vPart (vC (.int 11)))))
 (vSet 0 (vOp vDiv (vVar 0) (vF1 vLen (vVarI 1)))))
  vNext)
 (vSeq (vSet 5 (vOp vAdd (vC (.int 1)) (vOp vMod (vVar 0) (vOp vSub (vC (.int 12)) (vF1 vLen (vVar 4))))))
 (vSeq (vSet 0 (vOp vDiv (vVar 0) (vOp vSub (vC (.int 12)) (vF1 vLen (vVar 4)))))
 (vSeq (vFor (vRng1 (vVar 5)) (vgName 6)
  (vSeq (vSet 4 (vOp vAdd (vVar 4) (vOp vIxR (vVar 2) (vOp vMod (vVar 0) (vC (.int 36))))))
 (vSet 0 (vOp vDiv (vVar 0) (vC (.int 36))))))
 (vSeq (vAppendI 1 (vVar 4))
 (vRetI (vTup (vCons (vVar 4) (vCons (vVar 0) vNil))))))))))))))
noncomputable abbrev N_name_of:List Str:=["_law_big_here","_law_pool","_law_signs","_law_kind","_law_name","_law_size","_law_k"]
theorem w_name_of:∀ ds ps c Q,g_name_of ds ps Q→b_name_of (EnI 1 c Q) (startI N_name_of 1 c ds ps):=by
 rintro ds ps c Q ⟨b,n,zs,rfl,rfl,hn,⟨hl,hz⟩,h⟩
 have s1000:=line10000
 have ix:∀ t:Int,∃ d,atI NS.cps.toList (t % 36)=some d:=fun t=>by
  obtain ⟨d,hd,_⟩:=at_nat (xs:=NS.cps.toList) (k:=t % 36) (Int.emod_nonneg _ (by decide)) (by rw [ns36]; exact Int.emod_lt_of_pos _ (by decide))
  exact ⟨d,hd⟩
 refine v_cut (fun τ=>τ=[some (.val (.int b)),some (.own (.io c (zs.map D.str))),some (.val (.str NS)),none,none,none,none]) ?_ fun nx hnx=>?now
 case now =>
  dsimp! only [true_and]
  exact hnx _ rfl
 rintro τ rfl
 refine v_cut (fun τ=>∃ k:Int,τ=[some (.val (.int b)),some (.own (.io c (zs.map D.str))),some (.val (.str NS)),some (.val (.int k)),none,none,none]) ?_ fun nx hnx=>?now
 case now =>
  dsimp! only [true_and]
  exact hnx _ ⟨_,rfl⟩
 rintro τ ⟨k,rfl⟩
 refine v_cut (fun τ=>∃ b:Int,τ=[some (.val (.int b)),some (.own (.io c (zs.map D.str))),some (.val (.str NS)),some (.val (.int k)),none,none,none]) ?_ fun nx hnx=>?now
 case now =>
  dsimp! only [true_and]
  exact hnx _ ⟨_,rfl⟩
 clear b
 rintro τ ⟨b,rfl⟩
 have at0:zs≠[]→∃ z∈zs,atI (zs.map D.str) (b % (zs.length:Int))=some (.str z):=fun ne=>by
  have hp:=List.length_pos_iff.mpr ne
  obtain ⟨z,z1,z2⟩:=at_nat (xs:=zs) (k:=b % (zs.length:Int)) (Int.emod_nonneg _ (by lia)) (Int.emod_lt_of_pos _ (by lia))
  exact ⟨z,List.mem_of_getElem? z2,by rw [atI_map,z1]; rfl⟩
 refine v_cut (fun τ=>τ=[some (.val (.int b)),some (.own (.io c (zs.map D.str))),some (.val (.str NS)),some (.val (.int k)),none,none,none]) ?_ fun nx hnx=>?now
 case now =>
  dsimp! only [true_and]
  split
  ·refine ⟨cmpSL zs [],depSL zs,?_⟩
   have e:=eqSL zs []
   rw [List.map_nil] at e
   rw [e]
   by_cases z0:zs=[]
   ·rw [decide_eq_true z0]
    exact hnx _ rfl
   ·rw [decide_eq_false z0]
    have hp:=List.length_pos_iff.mpr z0
    obtain ⟨z,mz,ez⟩:=at0 z0
    exact ⟨by lia,_,ez,by lia,by lia,by decide,h z _ zs (hz z mz) ⟨by lia,hz⟩⟩
  ·exact hnx _ rfl
 rintro τ rfl
 refine v_cut (fun τ=>τ=[some (.val (.int b)),some (.own (.io c (zs.map D.str))),some (.val (.str NS)),some (.val (.int k)),some (.val (.str "")),none,none]) ?_ fun nx hnx=>?now
 case now =>
  dsimp! only [true_and]
  exact hnx _ rfl
 rintro τ rfl
 have e0:("" : Str).length=0:=by decide +kernel
 refine v_cut (fun τ=>∃ (b:Int) (z:Str),z.length≤11∧τ=[some (.val (.int b)),some (.own (.io c (zs.map D.str))),some (.val (.str NS)),some (.val (.int k)),some (.val (.str z)),none,none]) ?_ fun nx hnx=>?now
 case now =>
  have stay:=hnx _ ⟨b,"",by lia,rfl⟩
  refine v_if (fun b=>b=true→zs≠[]) (fun Y y=>?test) (fun hyes=>?yes) fun _=>stay
  case test =>
   dsimp! only [true_and]
   split
   ·refine ⟨cmpSL zs [],depSL zs,y _ fun z z0=>?_⟩
    have e:=eqSL zs []
    rw [List.map_nil] at e
    rw [e,decide_eq_true z0] at z
    cases z
   ·exact y _ fun z=>by cases z
  case yes =>
   have z0:=hyes rfl
   have hp:=List.length_pos_iff.mpr z0
   obtain ⟨z,mz,ez⟩:=at0 z0
   have:=(hz z mz).2
   refine v_seq ?_
   dsimp! only [true_and]
   refine ⟨by lia,_,ez,?_⟩
   dsimp! only [true_and]
   refine ⟨by lia,by lia,by lia,hnx _ ⟨_,_,?_,rfl⟩⟩
   show (Txt.slice z none (some ((11:Nat):Int))).cps.toList.length≤11
   rw [slice_list,cutL_take,List.length_take]
   exact Nat.min_le_left _ _
 clear at0 b
 rintro τ ⟨b,y,hy,rfl⟩
 refine v_cut (fun τ=>∃ m:Nat,(1≤m∧m≤12 - y.length)∧τ=[some (.val (.int b)),some (.own (.io c (zs.map D.str))),some (.val (.str NS)),some (.val (.int k)),some (.val (.str y)),some (.val (.int m)),none]) ?_ fun nx hnx=>?now
 case now =>
  dsimp! only [true_and]
  have q0:=Int.emod_nonneg b (show (12 - (y.length:Int))≠0 by lia)
  have q1:=Int.emod_lt_of_pos b (show (0:Int) < 12 - y.length by lia)
  refine ⟨by lia,by lia,hnx _ ⟨(1+b % (12 - (y.length:Int))).toNat,by lia,?_⟩⟩
  rw [show (((1+b % (12 - (y.length:Int))).toNat:Nat):Int)=1+b % (12 - (y.length:Int)) by lia]
 rintro τ ⟨m,⟨m1,m2⟩,rfl⟩
 refine v_cut (fun τ=>∃ b:Int,τ=[some (.val (.int b)),some (.own (.io c (zs.map D.str))),some (.val (.str NS)),some (.val (.int k)),some (.val (.str y)),some (.val (.int m)),none]) ?_ fun nx hnx=>?now
 case now =>
  dsimp! only [true_and]
  exact ⟨by lia,by lia,by lia,hnx _ ⟨_,rfl⟩⟩
 clear b
 rintro τ ⟨b,rfl⟩
 refine v_cut (fun τ=>∃ (b:Int) (z:Str) (a:Option R),NmZ z∧τ=[some (.val (.int b)),some (.own (.io c (zs.map D.str))),some (.val (.str NS)),some (.val (.int k)),some (.val (.str z)),some (.val (.int m)),a]) ?_ fun nx hnx=>?now
 case now =>
  dsimp! only [true_and]
  refine ⟨by lia,by lia,for_rng (fun i τ=>∃ (b:Int) (z:Str) (a:Option R),z.length=y.length+i∧τ=[some (.val (.int b)),some (.own (.io c (zs.map D.str))),some (.val (.str NS)),some (.val (.int k)),some (.val (.str z)),some (.val (.int m)),a]) ⟨b,y,none,rfl,rfl⟩ ?_ ?_⟩
  ·rintro i τ hi ⟨b,z,a,lz,rfl⟩ nx2 hnx2
   refine v_cut (fun τ=>∃ z:Str,z.length=y.length+i+1∧τ=[some (.val (.int b)),some (.own (.io c (zs.map D.str))),some (.val (.str NS)),some (.val (.int k)),some (.val (.str z)),some (.val (.int m)),some (.val (.int i))]) ?_ fun nx3 hnx3=>?now
   case now =>
    dsimp! only [true_and]
    obtain ⟨d,hd⟩:=ix b
    exact ⟨nsLine,d,hd,Nat.le_trans (show z.length+1≤1000 by lia) line1000,hnx3 _ ⟨_,by rw [PySem.Str.length_append,lz]; rfl,rfl⟩⟩
   clear lz z
   rintro τ ⟨z,lz,rfl⟩
   dsimp! only [true_and]
   exact hnx2 _ ⟨_,z,_,lz,rfl⟩
  ·rintro τ ⟨b,z,a,lz,rfl⟩
   exact hnx _ ⟨b,z,a,⟨by lia,by lia⟩,rfl⟩
 clear b
 rintro τ ⟨b,z,a,nz,rfl⟩
 refine v_cut (fun τ=>τ=[some (.val (.int b)),some (.own (.io c ((zs++[z]).map D.str))),some (.val (.str NS)),some (.val (.int k)),some (.val (.str z)),some (.val (.int m)),a]) ?_ fun nx hnx=>?now
 case now =>
  dsimp! only [true_and]
  refine ⟨by lia,hnx _ ?_⟩
  rw [List.map_append]
 rintro τ rfl
 dsimp! only [true_and]
 refine ⟨by decide,h z b (zs++[z]) nz ⟨by rw [List.length_append]; exact Nat.succ_le_succ hl,fun x hx=>?_⟩⟩
 rcases List.mem_append.mp hx with hx | hx
 ·exact hz x hx
 ·rw [List.mem_singleton.mp hx]
  exact nz
noncomputable def NA:Str:=" !\"#$&'()*+,-./0123456789:;<=>?@ABCDEFGHIJKLMNOPQRSTUVWXYZ[\\]^_`"
noncomputable def NB:Str:=NA++"abcdefghijklmnopqrstuvwxyz{|}~"
theorem nb94:(NB.cps.toList.length:Int)=94:=by decide +kernel
theorem nbLine:NB.length≤sizeLine:=by decide +kernel
noncomputable def b_signs_of:TVS:=(vSeq (vSet 2 (vC (.str (" !\"#$&'()*+,-./0123456789:;<=>?@ABCDEFGHIJKLMNOPQRSTUVWXYZ[\\]^_`" : Str))))
 (vSeq (vSet 2 (vOp vAdd (vVar 2) (vC (.str ("abcdefghijklmnopqrstuvwxyz{|}~" : Str)))))
 (vSeq (vSet 3 (vOp vMod (vVar 0) (vOp vAdd (vVar 1) (vC (.int 1)))))
 (vSeq (vSet 0 (vOp vDiv (vVar 0) (vOp vAdd (vVar 1) (vC (.int 1)))))
 (vSeq (vSet 4 (vC (.str ("" : Str))))
 (vSeq (vFor (vRng1 (vVar 3)) (vgName 5)
  (vSeq (vSet 4 (vOp vAdd (vVar 4) (vOp vIxR (vVar 2) (vOp vMod (vVar 0) (vC (.int 94))))))
 (vSet 0 (vOp vDiv (vVar 0) (vC (.int 94))))))
 (vRet (vTup (vCons (vVar 4) (vCons (vVar 0) vNil))))))))))
noncomputable abbrev N_signs_of:List Str:=["_law_big_here","_law_most","_law_some","_law_size","_law_text","_law_k"]
theorem w_signs_of:∀ ds Q,g_signs_of ds Q→b_signs_of (En Q) (startD N_signs_of ds):=by
 rintro ds Q ⟨b,m,rfl,m0,m1,h⟩
 have s1000:=line10000
 refine v_cut (fun τ=>τ=[some (.val (.int b)),some (.val (.int m)),some (.val (.str NA)),none,none,none]) ?_ fun nx hnx=>?now
 case now =>
  dsimp! only [true_and]
  exact hnx _ rfl
 rintro τ rfl
 refine v_cut (fun τ=>τ=[some (.val (.int b)),some (.val (.int m)),some (.val (.str NB)),none,none,none]) ?_ fun nx hnx=>?now
 case now =>
  dsimp! only [true_and]
  exact ⟨by decide +kernel,hnx _ rfl⟩
 rintro τ rfl
 refine v_cut (fun τ=>∃ s:Nat,s≤100∧τ=[some (.val (.int b)),some (.val (.int m)),some (.val (.str NB)),some (.val (.int s)),none,none]) ?_ fun nx hnx=>?now
 case now =>
  dsimp! only [true_and]
  have q0:=Int.emod_nonneg b (show m+1≠0 by lia)
  have q1:=Int.emod_lt_of_pos b (show 0 < m+1 by lia)
  refine ⟨by lia,hnx _ ⟨(b % (m+1)).toNat,by lia,?_⟩⟩
  rw [show (((b % (m+1)).toNat:Nat):Int)=b % (m+1) by lia]
 rintro τ ⟨s,hs,rfl⟩
 refine v_cut (fun τ=>∃ b:Int,τ=[some (.val (.int b)),some (.val (.int m)),some (.val (.str NB)),some (.val (.int s)),none,none]) ?_ fun nx hnx=>?now
 case now =>
  dsimp! only [true_and]
  exact ⟨by lia,by lia,hnx _ ⟨_,rfl⟩⟩
 clear b
 rintro τ ⟨b,rfl⟩
 have e0:("" : Str).length=0:=by decide +kernel
 refine v_cut (fun τ=>τ=[some (.val (.int b)),some (.val (.int m)),some (.val (.str NB)),some (.val (.int s)),some (.val (.str "")),none]) ?_ fun nx hnx=>?now
 case now =>
  dsimp! only [true_and]
  exact hnx _ rfl
 rintro τ rfl
 refine v_cut (fun τ=>∃ (b:Int) (z:Str) (a:Option R),τ=[some (.val (.int b)),some (.val (.int m)),some (.val (.str NB)),some (.val (.int s)),some (.val (.str z)),a]) ?_ fun nx hnx=>?now
 case now =>
  dsimp! only [true_and]
  refine ⟨by lia,by lia,for_rng (fun i τ=>∃ (b:Int) (z:Str) (a:Option R),z.length=i∧τ=[some (.val (.int b)),some (.val (.int m)),some (.val (.str NB)),some (.val (.int s)),some (.val (.str z)),a]) ⟨b,"",none,e0,rfl⟩ ?_ ?_⟩
  ·rintro i τ hi ⟨b,z,a,lz,rfl⟩ nx2 hnx2
   refine v_cut (fun τ=>∃ z:Str,z.length=i+1∧τ=[some (.val (.int b)),some (.val (.int m)),some (.val (.str NB)),some (.val (.int s)),some (.val (.str z)),some (.val (.int i))]) ?_ fun nx3 hnx3=>?now
   case now =>
    dsimp! only [true_and]
    obtain ⟨d,hd,_⟩:=at_nat (xs:=NB.cps.toList) (k:=b % 94) (Int.emod_nonneg _ (by decide)) (by rw [nb94]; exact Int.emod_lt_of_pos _ (by decide))
    exact ⟨nbLine,d,hd,Nat.le_trans (show z.length+1≤1000 by lia) line1000,hnx3 _ ⟨_,by rw [PySem.Str.length_append,lz]; rfl,rfl⟩⟩
   clear lz z
   rintro τ ⟨z,lz,rfl⟩
   dsimp! only [true_and]
   exact hnx2 _ ⟨_,z,_,lz,rfl⟩
  ·rintro τ ⟨b,z,a,lz,rfl⟩
   exact hnx _ ⟨b,z,a,rfl⟩
 rintro τ ⟨b,z,a,rfl⟩
 dsimp! only [true_and]
 exact ⟨by decide,h z b⟩
theorem dot1:("." : Str).length≤12:=by decide +kernel
theorem dot2:(".." : Str).length≤12:=by decide +kernel
noncomputable def b_words_of:TVS:=(vSeq (vSetO 3 (vLst vNil))
 (vSeq (vFor (vRng1 (vVar 1)) (vgName 4)
  (vSeq (vSet 5 (vOp vIxR (vTup (vCons (vC (.str ("." : Str))) (vCons (vC (.str (".." : Str))) vNil))) (vOp vMod (vVar 0) (vC (.int 2)))))
 (vSeq (vSet 6 (vOp vMod (vOp vDiv (vVar 0) (vC (.int 2))) (vC (.int 2))))
 (vSeq (vSet 0 (vOp vDiv (vVar 0) (vC (.int 4))))
 (vSeq (vIfS (vBl (vOp vEq (vVar 6) (vC (.int 1))))
  (vAsgI g_name_of 2 (vCons (vVar 0) vNil) (vgTup 2 (vgCons (vgName 5) (vgCons (vgName 0) vgNil))))
  vNext)
 (vAppend 3 (vVar 5)))))))
 (vFrz 3 (vRetI (vTup (vCons (vVar 3) (vCons (vVar 0) vNil)))))))
noncomputable abbrev N_words_of:List Str:=["_law_big_here","_law_many","_law_pool","_law_words","_law_k","_law_word","_law_kind"]
theorem w_words_of:∀ ds ps c Q,g_words_of ds ps Q→b_words_of (EnI 2 c Q) (startI N_words_of 2 c ds ps):=by
 rintro ds ps c Q ⟨b,m,n,zs,rfl,rfl,m0,m5,hn,hp,h⟩
 have s1000:=line10000
 refine v_cut (fun τ=>τ=[some (.val (.int b)),some (.val (.int m)),some (.own (.io c (zs.map D.str))),some (.own (.lst (([]:List Str).map D.str))),none,none,none]) ?_ fun nx hnx=>?now
 case now =>
  dsimp! only [true_and]
  exact hnx _ rfl
 rintro τ rfl
 refine v_cut (fun τ=>∃ (b:Int) (ws zs:List Str) (k x y:Option R),(ws.length≤5∧(∀ w∈ws,w.length≤12)∧Pool (n+5) zs)∧τ=[some (.val (.int b)),some (.val (.int m)),some (.own (.io c (zs.map D.str))),some (.own (.lst (ws.map D.str))),k,x,y]) ?_ fun nx hnx=>?now
 case now =>
  dsimp! only [true_and]
  refine ⟨by lia,by lia,for_rng (fun i τ=>∃ (b:Int) (ws zs:List Str) (k x y:Option R),(ws.length=i∧(∀ w∈ws,w.length≤12)∧Pool (n+i) zs)∧τ=[some (.val (.int b)),some (.val (.int m)),some (.own (.io c (zs.map D.str))),some (.own (.lst (ws.map D.str))),k,x,y]) ⟨b,[],zs,none,none,none,⟨rfl,(fun w hw=>by cases hw),hp⟩,rfl⟩ ?_ ?_⟩
  ·clear hp zs b
   rintro i τ hi ⟨b,ws,zs,k,x,y,⟨wl,wz,hp⟩,rfl⟩ nx2 hnx2
   refine v_cut (fun τ=>∃ x:Str,x.length≤12∧τ=[some (.val (.int b)),some (.val (.int m)),some (.own (.io c (zs.map D.str))),some (.own (.lst (ws.map D.str))),some (.val (.int i)),some (.val (.str x)),y]) ?_ fun nx3 hnx3=>?now
   case now =>
    have q0:=Int.emod_nonneg b (show (2:Int)≠0 by decide)
    have q1:=Int.emod_lt_of_pos b (show (0:Int) < 2 by decide)
    obtain ⟨z,z1,z2⟩:=at_nat (xs:=[(".": Str),".."]) (k:=b % 2) q0 q1
    have mz:=List.mem_of_getElem? z2
    have lz:z.length≤12:=by
     simp only [List.mem_cons,List.not_mem_nil,or_false] at mz
     rcases mz with rfl | rfl
     ·exact dot1
     ·exact dot2
    have e:[D.str (Str.ofString "."),D.str (Str.ofString "..")]=[("." : Str),".."].map D.str:=rfl
    dsimp! only [true_and]
    exact ⟨by decide,.str z,by rw [e,atI_map,z1]; rfl,hnx3 _ ⟨z,lz,rfl⟩⟩
   rintro τ ⟨x,lx,rfl⟩
   refine v_cut (fun τ=>∃ y,τ=[some (.val (.int b)),some (.val (.int m)),some (.own (.io c (zs.map D.str))),some (.own (.lst (ws.map D.str))),some (.val (.int i)),some (.val (.str x)),some (.val (.int y))]) ?_ fun nx3 hnx3=>?now
   case now =>
    dsimp! only [true_and]
    exact hnx3 _ ⟨_,rfl⟩
   rintro τ ⟨y,rfl⟩
   refine v_cut (fun τ=>∃ b,τ=[some (.val (.int b)),some (.val (.int m)),some (.own (.io c (zs.map D.str))),some (.own (.lst (ws.map D.str))),some (.val (.int i)),some (.val (.str x)),some (.val (.int y))]) ?_ fun nx3 hnx3=>?now
   case now =>
    dsimp! only [true_and]
    exact hnx3 _ ⟨_,rfl⟩
   clear b
   rintro τ ⟨b,rfl⟩
   refine v_cut (fun τ=>∃ (b:Int) (x:Str) (zs:List Str),(x.length≤12∧Pool (n+(i+1)) zs)∧τ=[some (.val (.int b)),some (.val (.int m)),some (.own (.io c (zs.map D.str))),some (.own (.lst (ws.map D.str))),some (.val (.int i)),some (.val (.str x)),some (.val (.int y))]) ?_ fun nx3 hnx3=>?now
   case now =>
    have no:∀ Y:R→List D→Prop,(∀ (z:Str) (b':Int) (zs':List Str),NmZ z→Pool (n+i+1) zs'→Y (.val (.tup [.str z,.int b'])) (zs'.map D.str))→g_name_of [.int b] (zs.map D.str) Y:=fun Y y=>⟨b,n+i,zs,rfl,rfl,by lia,hp,y⟩
    dsimp! only [true_and]
    split
    ·refine no _ fun z b' zs' nz hp'=>?_
     dsimp! only [true_and]
     exact hnx3 _ ⟨b',z,zs',⟨nz.2,hp'⟩,rfl⟩
    ·exact hnx3 _ ⟨b,x,zs,⟨lx,hp.more (by lia)⟩,rfl⟩
   clear hp lx zs x b
   rintro τ ⟨b,x,zs,⟨lx,hp⟩,rfl⟩
   dsimp! only [true_and]
   refine ⟨by lia,hnx2 _ ⟨b,ws++[x],zs,_,_,_,⟨by rw [List.length_append,wl]; rfl,fun w hw=>?_,hp⟩,rfl⟩⟩
   rcases List.mem_append.mp hw with hw | hw
   ·exact wz w hw
   ·rw [List.mem_singleton.mp hw]
    exact lx
  ·clear hp zs b
   rintro τ ⟨b,ws,zs,k,x,y,⟨wl,wz,hp⟩,rfl⟩
   exact hnx _ ⟨b,ws,zs,k,x,y,⟨by lia,wz,hp.more (by lia)⟩,rfl⟩
 clear hp zs b
 rintro τ ⟨b,ws,zs,k,x,y,⟨wl,wz,hp⟩,rfl⟩
 dsimp! only [true_and]
 exact ⟨by decide,h ws b zs wl wz hp⟩
theorem join_len:∀ ws:List Str,(∀ w∈ws,w.length≤12)→(PySem.Str.join (Str.ofString "/") ws).length≤13 * ws.length
 | [],_=>by decide +kernel
 | [w],h=>by
  have:=h w (by simp)
  show w.length≤13
  lia
 | w :: x :: ws,h=>by
  have e:PySem.Str.join (Str.ofString "/") (w :: x :: ws)=w++(Str.ofString "/")++PySem.Str.join (Str.ofString "/") (x :: ws):=rfl
  have h1:=h w (by simp)
  have h2:=join_len (x :: ws) fun y hy=>h y (by simp [hy])
  have e1:(Str.ofString "/").length=1:=by decide +kernel
  rw [e,PySem.Str.length_append,PySem.Str.length_append,e1,List.length_cons]
  lia
theorem glue_len (ws:List Str) (h:∀ w∈ws,w.length≤12):(glue (Str.ofString "/") ws).length≤13 * ws.length:=by
 show (Builtin.Str.glued (Str.ofString "/") _).length≤_
 rw [StrLaws.glued_eq_join]
 exact join_len ws h
theorem sum_len:∀ ws:List Str,(∀ w∈ws,w.length≤12)→(ws.map fun x=>x.length).sum≤12 * ws.length
 | [],_=>Nat.le_refl _
 | w :: ws,h=>by
  have h1:=h w (by simp)
  have h2:=sum_len ws fun y hy=>h y (by simp [hy])
  rw [List.map_cons,List.sum_cons,List.length_cons]
  lia
theorem mul_ok:∀ k:Fin 2,MulOk (Str.ofString "/") ((k.val:Nat):Int)∧(Txt.mul (Str.ofString "/") ((k.val:Nat):Int)).length≤1:=by unfold MulOk; decide +kernel
noncomputable def b_text_of:TVS:=(vSeq (vIfS (vBl (vOp vEq (vVar 0) (vC (.str ("file" : Str)))))
  (vRetI (vCallN g_signs_of (vCons (vVar 1) (vCons (vC (.int 8)) vNil))))
  vNext)
 (vSeq (vIfS (vBl (vOp vNeD (vVar 0) (vC (.str ("link" : Str)))))
  (vRetI (vTup (vCons (vC (.str ("" : Str))) (vCons (vVar 1) vNil))))
  vNext)
 (vSeq (vSet 3 (vOp vMod (vVar 1) (vC (.int 2))))
 (vSeq (vAsgI g_words_of 2 (vCons (vOp vDiv (vVar 1) (vC (.int 8))) (vCons (vOp vSub (vOp vAdd (vOp vMod (vOp vDiv (vVar 1) (vC (.int 2))) (vC (.int 4))) (vC (.int 1))) (vVar 3)) vNil)) (vgTup 2 (vgCons (vgName 4) (vgCons (vgName 1) vgNil))))
 (vRetI (vTup (vCons (vOp vAdd (vOp vMulS (vC (.str ("/" : Str))) (vVar 3)) (vJoin (vC (.str ("/" : Str))) (vVar 4))) (vCons (vVar 1) vNil))))))))
noncomputable abbrev N_text_of:List Str:=["_law_mark","_law_big_here","_law_pool","_law_rooted","_law_words"]
theorem w_text_of:∀ ds ps c Q,g_text_of ds ps Q→b_text_of (EnI 2 c Q) (startI N_text_of 2 c ds ps):=by
 rintro ds ps c Q ⟨m,b,n,zs,rfl,rfl,hn,hp,h⟩
 have s1000:=line10000
 refine v_cut (fun τ=>m≠mFile∧τ=[some (.val (.str m)),some (.val (.int b)),some (.own (.io c (zs.map D.str))),none,none]) ?_ fun nx hnx=>?now
 case now =>
  have so:∀ Y:R→Prop,(∀ (z:Str) (b':Int),Y (.val (.tup [.str z,.int b'])))→g_signs_of [.int b,.int 8] Y:=fun Y y=>⟨b,8,rfl,by decide,by decide,y⟩
  dsimp! only [true_and]
  by_cases e:m=mFile
  ·rw [decide_eq_true (show m=Str.ofString "file" from e)]
   refine iteT (so _ fun z b'=>?_)
   dsimp! only [true_and]
   exact h z b' zs (fun q=>absurd e q) (hp.more (by lia))
  ·rw [decide_eq_false (show ¬ m=Str.ofString "file" from e)]
   exact iteF (hnx _ ⟨e,rfl⟩)
 rintro τ ⟨hf,rfl⟩
 refine v_cut (fun τ=>m=mLink∧τ=[some (.val (.str m)),some (.val (.int b)),some (.own (.io c (zs.map D.str))),none,none]) ?_ fun nx hnx=>?now
 case now =>
  dsimp! only [true_and]
  by_cases e:m=mLink
  ·rw [decide_eq_true (show m=Str.ofString "link" from e)]
   exact hnx _ ⟨e,rfl⟩
  ·rw [decide_eq_false (show ¬ m=Str.ofString "link" from e)]
   exact ⟨by decide,h tEmpty b zs (fun _ _=>rfl) (hp.more (by lia))⟩
 rintro τ ⟨hl,rfl⟩
 refine v_cut (fun τ=>∃ r:Int,(0≤r∧r < 2)∧τ=[some (.val (.str m)),some (.val (.int b)),some (.own (.io c (zs.map D.str))),some (.val (.int r)),none]) ?_ fun nx hnx=>?now
 case now =>
  dsimp! only [true_and]
  exact hnx _ ⟨_,⟨Int.emod_nonneg _ (by decide),Int.emod_lt_of_pos _ (by decide)⟩,rfl⟩
 rintro τ ⟨r,⟨r0,r1⟩,rfl⟩
 refine v_cut (fun τ=>∃ (b:Int) (ws zs:List Str),(ws.length≤5∧(∀ w∈ws,w.length≤12)∧Pool (n+5) zs)∧τ=[some (.val (.str m)),some (.val (.int b)),some (.own (.io c (zs.map D.str))),some (.val (.int r)),some (.val (.lst (ws.map D.str)))]) ?_ fun nx hnx=>?now
 case now =>
  have q0:=Int.emod_nonneg (b / 2) (show (4:Int)≠0 by decide)
  have q1:=Int.emod_lt_of_pos (b / 2) (show (0:Int) < 4 by decide)
  have wo:∀ (x k:Int) (Y:R→List D→Prop),0≤k→k≤5→(∀ (ws:List Str) (b':Int) (zs':List Str),ws.length≤5→(∀ w∈ws,w.length≤12)→Pool (n+5) zs'→Y (.val (.tup [.lst (ws.map D.str),.int b'])) (zs'.map D.str))→g_words_of [.int x,.int k] (zs.map D.str) Y:=fun x k Y k0 k1 y=>⟨x,k,n,zs,rfl,rfl,k0,k1,hn,hp,y⟩
  dsimp! only [true_and]
  refine wo _ _ _ (by lia) (by lia) fun ws b' zs' w1 w2 hp'=>?_
  dsimp! only [true_and]
  exact hnx _ ⟨b',ws,zs',⟨w1,w2,hp'⟩,rfl⟩
 clear hp zs b
 rintro τ ⟨b,ws,zs,⟨w1,w2,hp⟩,rfl⟩
 dsimp! only [true_and]
 have g1:=glue_len ws w2
 have g2:=sum_len ws w2
 obtain ⟨k1,k2⟩:=mul_ok ⟨r.toNat,by lia⟩
 have er:((r.toNat:Nat):Int)=r:=by lia
 rw [er] at k1 k2
 have e1:(Str.ofString "/").length=1:=by decide +kernel
 refine ⟨k1,ws,.inl rfl,by rw [e1]; lia,by lia,by decide,h _ b zs (fun _ q=>absurd hl q) hp⟩
noncomputable def b_under_shut:TVS:=(vSeq (vFor (vRng1 (vF1 vLen (vVar 1))) (vgName 2)
  (vIfS (vAndT (vBl (vDIn id (vSlice (vVar 1) vNoPart (vPart (vVar 2))) (vVar 0))) (vBl (vOp vEq (vOp vIxR (vDGet (vVar 0) (vSlice (vVar 1) vNoPart (vPart (vVar 2)))) (vC (.int 0))) (vC (.str ("shut" : Str))))))
  (vRet (vC (.bl true)))
  vNext))
 (vRet (vC (.bl false))))
noncomputable abbrev N_under_shut:List Str:=["_law_things","_law_way","_law_k"]
theorem w_under_shut:∀ ds Q,g_under_shut ds Q→b_under_shut (En Q) (startD N_under_shut ds):=by
 rintro ds Q ⟨rs,w,rfl,hw,hl,h⟩
 simp! only [vSeq,b_under_shut,wayD]
 have tk:∀ k:Nat,("" : Str)∉w.take k:=fun k m=>hw (List.mem_of_mem_take m)
 refine ⟨by omega,by omega,for_rng (fun i τ=>(∀ k,k < i→markR rs (w.take k)≠some mShut)∧∃ kv,τ=[some (.val (dictD (rs.map prR))),some (.val (wayD w)),kv]) ⟨fun k hk=>absurd hk (Nat.not_lt_zero _),none,rfl⟩ ?_ ?_⟩
 ·rintro i τ hi ⟨hb,kv,rfl⟩ nx hnx
  have hd:∀ Y:R→Prop,Y (.val (.bl (markR rs (w.take i)).isSome))→True:=fun _ _=>trivial
  have mk:markR rs (w.take i)=(rs.find? fun r=>decide (r.1=w.take i)).map (·.2.1):=rfl
  have lk:=lkP_pr rs (w.take i)
  have e0:shutR rs w=true→Q (.val (.bl true)):=fun z=>by rw [z] at h; exact h
  have hit:markR rs (w.take i)=some mShut→Q (.val (.bl true)):=fun z=>e0 (List.any_eq_true.mpr ⟨i,List.mem_range.mpr hi,decide_eq_true z⟩)
  have go:markR rs (w.take i)≠some mShut→∀ kv,nx [some (.val (dictD (rs.map prR))),some (.val (wayD w)),kv]:=fun z kv=>hnx _ ⟨fun k hk=>by
   rcases Nat.lt_or_ge k i with q | q
   ·exact hb k q
   ·have:k=i:=by omega
    rw [this]; exact z,kv,rfl⟩
  dsimp! only [dictD,wayD]
  simp only [cutL_take]
  refine ⟨tk i,?_⟩
  rw [lkD_pairs,lk]
  cases e:rs.find? fun r=>decide (r.1=w.take i) with
  | none =>
   rw [e] at mk
   refine iteF ?_
   exact go (by rw [mk]; exact fun z=>by cases z) _
  | some r =>
   rw [e] at mk
   refine iteT ⟨tk i,thD r.2,rfl,?_⟩
   dsimp! only [thD]
   by_cases q:r.2.1=mShut
   ·rw [decide_eq_true q]
    exact iteT (hit (by rw [mk,← q]; rfl))
   ·rw [decide_eq_false q]
    exact iteF (go (by rw [mk]; exact fun z=>q (Option.some.inj z)) _)
 ·rintro τ ⟨hb,kv,rfl⟩
  simp! only [vSeq,true_and]
  have e:shutR rs w=false:=by
   unfold shutR
   rw [List.any_eq_false]
   exact fun k hk z=>hb k (List.mem_range.mp hk) (of_decide_eq_true z)
  rw [e] at h
  exact h
noncomputable def b_pane_of:TVS:=(vSeq (vSetO 3 vDNewT)
 (vSeq (vSetO 4 (vLst (vCons (vTup vNil) vNil)))
 (vSeq (vIfS (vBl (vOp vEq (vOp vMod (vVar 0) (vC (.int 6))) (vC (.int 5))))
  (vDPut 3 (vTup vNil) (vTup (vCons (vC (.str ("shut" : Str))) (vCons (vC (.str ("" : Str))) vNil))))
  vNext)
 (vSeq (vSet 5 (vOp vMod (vOp vDiv (vVar 0) (vC (.int 6))) (vOp vAdd (vVar 1) (vC (.int 1)))))
 (vSeq (vSet 0 (vOp vDiv (vOp vDiv (vVar 0) (vC (.int 6))) (vOp vAdd (vVar 1) (vC (.int 1)))))
 (vSeq (vFor (vRng1 (vVar 5)) (vgName 6)
  (vSeq (vSet 7 (vOp vIxR (vVar 4) (vOp vMod (vVar 0) (vF1 vLen (vVar 4)))))
 (vSeq (vSet 0 (vOp vDiv (vVar 0) (vF1 vLen (vVar 4))))
 (vSeq (vSet 8 (vOp vIxR (vTup (vCons (vC (.str ("folder" : Str))) (vCons (vC (.str ("shut" : Str))) (vCons (vC (.str ("file" : Str))) (vCons (vC (.str ("gone" : Str))) (vCons (vC (.str ("link" : Str))) vNil)))))) (vOp vMod (vVar 0) (vC (.int 5)))))
 (vSeq (vAsgI g_name_of 2 (vCons (vOp vDiv (vVar 0) (vC (.int 5))) vNil) (vgTup 2 (vgCons (vgName 9) (vgCons (vgName 0) vgNil))))
 (vSeq (vSet 10 (vOp vAdd (vVar 7) (vTup (vCons (vVar 9) vNil))))
 (vSeq (vIfS (vAndT (vBl (vOp (vIn id) (vVar 8) (vTup (vCons (vC (.str ("gone" : Str))) (vCons (vC (.str ("shut" : Str))) vNil))))) (vBl (vCalB g_under_shut 3 (vCons (vVar 10) vNil))))
  (vSet 8 (vC (.str ("folder" : Str))))
  vNext)
 (vSeq (vAsgI g_text_of 2 (vCons (vVar 8) (vCons (vVar 0) vNil)) (vgTup 2 (vgCons (vgName 11) (vgCons (vgName 0) vgNil))))
 (vIfS (vAndT (vBl (vDIn (!·) (vVar 10) (vVar 3))) (vBl (vOp vLt (vF1 vLen (vVar 10)) (vC (.int 15)))))
  (vSeq (vDPut 3 (vVar 10) (vTup (vCons (vVar 8) (vCons (vVar 11) vNil))))
 (vIfS (vBl (vOp (vIn id) (vVar 8) (vTup (vCons (vC (.str ("folder" : Str))) (vCons (vC (.str ("shut" : Str))) vNil)))))
  (vAppend 4 (vVar 10))
  vNext))
  vNext)))))))))
 (vRetI (vComp (vItems (vF1 vSorted (vF1 vListD (vVar 3)))) (vgName 12) (fun _ Q=>Q true) (vOp vAdd (vTup (vCons (vVar 12) vNil)) (vDGet (vVar 3) (vVar 12))) 1))))))))
noncomputable abbrev N_pane_of:List Str:=["_law_big_here","_law_most","_law_pool","_law_things","_law_folders","_law_many","_law_k","_law_over_here","_law_mark","_law_name","_law_way","_law_text"]
theorem w_pane_of:∀ ds ps c Q,g_pane_of ds ps Q→b_pane_of (EnI 2 c Q) (startI N_pane_of 2 c ds ps):=by
 rintro ds ps c Q ⟨b,m,n,zs,rfl,rfl,m0,m1,hn,hp,h⟩
 have s1000:=line10000
 refine v_cut (fun τ=>τ=[some (.val (.int b)),some (.val (.int m)),some (.own (.io c (zs.map D.str))),some (.own (dictD (([]:List Row).map prR))),none,none,none,none,none,none,none,none]) ?_ fun nx hnx=>?now
 case now =>
  dsimp! only [true_and]
  exact hnx _ rfl
 rintro τ rfl
 refine v_cut (fun τ=>τ=[some (.val (.int b)),some (.val (.int m)),some (.own (.io c (zs.map D.str))),some (.own (dictD (([]:List Row).map prR))),some (.own (.lst ([([]:List Str)].map wayD))),none,none,none,none,none,none,none]) ?_ fun nx hnx=>?now
 case now =>
  dsimp! only [true_and]
  exact ⟨by decide,hnx _ rfl⟩
 rintro τ rfl
 refine v_cut (fun τ=>∃ rs:List Row,(rs=[]∨rs=[([],mShut,tEmpty)])∧τ=[some (.val (.int b)),some (.val (.int m)),some (.own (.io c (zs.map D.str))),some (.own (dictD (rs.map prR))),some (.own (.lst ([([]:List Str)].map wayD))),none,none,none,none,none,none,none]) ?_ fun nx hnx=>?now
 case now =>
  dsimp! only [true_and]
  split
  ·exact ⟨by decide,[],rfl,by simp,by decide,hnx _ ⟨[([],mShut,tEmpty)],.inr rfl,rfl⟩⟩
  ·exact hnx _ ⟨[],.inl rfl,rfl⟩
 rintro τ ⟨rs0,hrs0,rfl⟩
 have tx0:TxE rs0:=fun r hr=>by
  rcases hrs0 with e | e
  ·rw [e] at hr; cases hr
  ·rw [e] at hr
   rw [List.mem_singleton.mp hr]
   exact fun _ _=>rfl
 refine v_cut (fun τ=>∃ q:Nat,q≤m.toNat∧τ=[some (.val (.int b)),some (.val (.int m)),some (.own (.io c (zs.map D.str))),some (.own (dictD (rs0.map prR))),some (.own (.lst ([([]:List Str)].map wayD))),some (.val (.int q)),none,none,none,none,none,none]) ?_ fun nx hnx=>?now
 case now =>
  dsimp! only [true_and]
  have q0:=Int.emod_nonneg (b / 6) (show m+1≠0 by lia)
  have q1:=Int.emod_lt_of_pos (b / 6) (show 0 < m+1 by lia)
  refine ⟨by lia,hnx _ ⟨(b / 6 % (m+1)).toNat,by lia,?_⟩⟩
  rw [show (((b / 6 % (m+1)).toNat:Nat):Int)=b / 6 % (m+1) by lia]
  rfl
 rintro τ ⟨q,hq,rfl⟩
 refine v_cut (fun τ=>∃ b:Int,τ=[some (.val (.int b)),some (.val (.int m)),some (.own (.io c (zs.map D.str))),some (.own (dictD (rs0.map prR))),some (.own (.lst ([([]:List Str)].map wayD))),some (.val (.int q)),none,none,none,none,none,none]) ?_ fun nx hnx=>?now
 case now =>
  dsimp! only [true_and]
  exact ⟨by lia,by lia,hnx _ ⟨_,rfl⟩⟩
 clear b
 rintro τ ⟨b,rfl⟩
 refine v_cut (fun τ=>∃ (b:Int) (zs:List Str) (rs:List Row) (fs:List (List Str)) (x6 x7 x8 x9 x10 x11:Option R),(PInv q rs fs∧TxE rs∧Pool (n+360) zs)∧τ=[some (.val (.int b)),some (.val (.int m)),some (.own (.io c (zs.map D.str))),some (.own (dictD (rs.map prR))),some (.own (.lst (fs.map wayD))),some (.val (.int q)),x6,x7,x8,x9,x10,x11]) ?_ fun nx hnx=>?now
 case now =>
  dsimp! only [true_and]
  refine ⟨by lia,by lia,for_rng (fun i τ=>∃ (b:Int) (zs:List Str) (rs:List Row) (fs:List (List Str)) (x6 x7 x8 x9 x10 x11:Option R),(PInv i rs fs∧TxE rs∧Pool (n+6 * i) zs)∧τ=[some (.val (.int b)),some (.val (.int m)),some (.own (.io c (zs.map D.str))),some (.own (dictD (rs.map prR))),some (.own (.lst (fs.map wayD))),some (.val (.int q)),x6,x7,x8,x9,x10,x11]) ⟨b,zs,rs0,[[]],none,none,none,none,none,none,⟨.start hrs0,tx0,hp⟩,rfl⟩ ?_ ?_⟩
  ·clear hp zs b tx0 hrs0 rs0
   rintro i τ hi ⟨b,zs,rs,fs,x6,x7,x8,x9,x10,x11,⟨PI,TX,hp⟩,rfl⟩ nx hnx
   have hfp:0 < fs.length:=List.length_pos_iff.mpr PI.ne
   have hfl:=PI.fln
   have hrl:=PI.len
   refine v_cut (fun τ=>∃ f,f∈fs∧τ=[some (.val (.int b)),some (.val (.int m)),some (.own (.io c (zs.map D.str))),some (.own (dictD (rs.map prR))),some (.own (.lst (fs.map wayD))),some (.val (.int q)),some (.val (.int i)),some (.val (wayD f)),x8,x9,x10,x11]) ?_ fun nx2 hnx2=>?now
   case now =>
    dsimp! only [true_and]
    obtain ⟨f,hf,hf2⟩:=at_nat (xs:=fs) (k:=b % (fs.length:Int)) (Int.emod_nonneg _ (by lia)) (Int.emod_lt_of_pos _ (by lia))
    exact ⟨by lia,wayD f,by rw [atI_map,hf]; rfl,hnx2 _ ⟨f,List.mem_of_getElem? hf2,rfl⟩⟩
   rintro τ ⟨f,mf,rfl⟩
   have hf14:=(PI.fol f mf).1
   refine v_cut (fun τ=>∃ b:Int,τ=[some (.val (.int b)),some (.val (.int m)),some (.own (.io c (zs.map D.str))),some (.own (dictD (rs.map prR))),some (.own (.lst (fs.map wayD))),some (.val (.int q)),some (.val (.int i)),some (.val (wayD f)),x8,x9,x10,x11]) ?_ fun nx2 hnx2=>?now
   case now =>
    dsimp! only [true_and]
    exact ⟨by lia,by lia,hnx2 _ ⟨_,rfl⟩⟩
   clear b
   rintro τ ⟨b,rfl⟩
   refine v_cut (fun τ=>∃ mk:Str,(mk=mFolder∨mk=mShut∨mk=mFile∨mk=mGone∨mk=mLink)∧τ=[some (.val (.int b)),some (.val (.int m)),some (.own (.io c (zs.map D.str))),some (.own (dictD (rs.map prR))),some (.own (.lst (fs.map wayD))),some (.val (.int q)),some (.val (.int i)),some (.val (wayD f)),some (.val (.str mk)),x9,x10,x11]) ?_ fun nx2 hnx2=>?now
   case now =>
    dsimp! only [true_and]
    have e:[D.str (Str.ofString "folder"),D.str (Str.ofString "shut"),D.str (Str.ofString "file"),D.str (Str.ofString "gone"),D.str (Str.ofString "link")]=[mFolder,mShut,mFile,mGone,mLink].map D.str:=rfl
    obtain ⟨y,hy,hy2⟩:=at_nat (xs:=[mFolder,mShut,mFile,mGone,mLink]) (k:=b % 5) (Int.emod_nonneg _ (by decide)) (Int.emod_lt_of_pos _ (by decide))
    have my:y=mFolder∨y=mShut∨y=mFile∨y=mGone∨y=mLink:=by
     have:=List.mem_of_getElem? hy2
     simp only [List.mem_cons,List.not_mem_nil,or_false] at this
     rcases this with q | q | q | q | q <;> simp [q]
    exact ⟨by decide,.str y,by rw [e,atI_map,hy]; rfl,hnx2 _ ⟨y,my,rfl⟩⟩
   rintro τ ⟨mk,hmk,rfl⟩
   refine v_cut (fun τ=>∃ (b:Int) (z:Str) (zs:List Str),(NmZ z∧Pool (n+6 * i+1) zs)∧τ=[some (.val (.int b)),some (.val (.int m)),some (.own (.io c (zs.map D.str))),some (.own (dictD (rs.map prR))),some (.own (.lst (fs.map wayD))),some (.val (.int q)),some (.val (.int i)),some (.val (wayD f)),some (.val (.str mk)),some (.val (.str z)),x10,x11]) ?_ fun nx2 hnx2=>?now
   case now =>
    have no:∀ (x:Int) (Y:R→List D→Prop),(∀ (z:Str) (b':Int) (zs':List Str),NmZ z→Pool (n+6 * i+1) zs'→Y (.val (.tup [.str z,.int b'])) (zs'.map D.str))→g_name_of [.int x] (zs.map D.str) Y:=fun x Y y=>⟨x,n+6 * i,zs,rfl,rfl,by lia,hp,y⟩
    dsimp! only [true_and]
    refine no _ _ fun z b' zs' nz hp'=>?_
    dsimp! only [true_and]
    exact hnx2 _ ⟨b',z,zs',⟨nz,hp'⟩,rfl⟩
   clear hp zs b
   rintro τ ⟨b,z,zs,⟨⟨z1,z2⟩,hp⟩,rfl⟩
   refine v_cut (fun τ=>τ=[some (.val (.int b)),some (.val (.int m)),some (.own (.io c (zs.map D.str))),some (.own (dictD (rs.map prR))),some (.own (.lst (fs.map wayD))),some (.val (.int q)),some (.val (.int i)),some (.val (wayD f)),some (.val (.str mk)),some (.val (.str z)),some (.val (wayD (f++[z]))),x11]) ?_ fun nx2 hnx2=>?now
   case now =>
    dsimp! only [wayD]
    have:=hf14.1
    exact ⟨by decide,by lia,hnx2 _ rfl⟩
   rintro τ rfl
   have hfz:(∀ y∈f++[z],1≤y.length∧y.length≤12):=fun y hy=>by
    rcases List.mem_append.mp hy with m | m
    ·exact hf14.2 y m
    ·rw [List.mem_singleton.mp m]; exact ⟨z1,z2⟩
   have hwy:WyOk (f++[z]):=⟨by have:=hf14.1; rw [List.length_append,List.length_singleton]; lia,hfz⟩
   have lk:(lkP (rs.map prR) (f++[z])).isSome=decide (f++[z]∈rs.map (·.1)):=by
    rw [lkP_pr,Option.isSome_map]
    exact (Option.isSome_map ..).symm.trans (markR_in rs (f++[z]))
   have put:=fun (m t:Str) (hm:mkOk (f++[z],m,t)) (hw:Wy14 (f++[z])) (nw:f++[z]∉rs.map (·.1)) (hs:m=mGone∨m=mShut→shutR rs (f++[z])=false)=>PI.put mf hm hw nw hs
   generalize hw:f++[z]=w at *
   refine v_cut (fun τ=>∃ mk:Str,(mk=mFolder∨mk=mShut∨mk=mFile∨mk=mGone∨mk=mLink)∧(mk=mGone∨mk=mShut→shutR rs w=false)∧τ=[some (.val (.int b)),some (.val (.int m)),some (.own (.io c (zs.map D.str))),some (.own (dictD (rs.map prR))),some (.own (.lst (fs.map wayD))),some (.val (.int q)),some (.val (.int i)),some (.val (wayD f)),some (.val (.str mk)),some (.val (.str z)),some (.val (wayD w)),x11]) ?_ fun nx2 hnx2=>?now
   case now =>
    have us:∀ Y:R→Prop,Y (.val (.bl (shutR rs w)))→g_under_shut [dictD (rs.map prR),wayD w] Y:=fun Y y=>⟨rs,w,rfl,hwy.ne,by have:=hwy.1; lia,y⟩
    dsimp! only [true_and]
    refine ⟨by decide,?_⟩
    by_cases q:mk∈[mGone,mShut]
    ·simp only [show decide (mk∈[Str.ofString "gone",Str.ofString "shut"])=true from decide_eq_true q]
     refine iteT (us _ ?_)
     dsimp! only [true_and]
     cases hs:shutR rs w with
     | false=>exact iteF (hnx2 _ ⟨mk,hmk,fun _=>hs,rfl⟩)
     | true=>exact iteT (hnx2 _ ⟨mFolder,.inl rfl,fun z=>z.elim (fun z=>absurd z.symm mne.2.1) fun z=>absurd z.symm mne.1,rfl⟩)
    ·simp only [show decide (mk∈[Str.ofString "gone",Str.ofString "shut"])=false from decide_eq_false q]
     exact hnx2 _ ⟨mk,hmk,fun z=>absurd (by rcases z with z | z <;> simp [z]) q,rfl⟩
   clear hmk mk
   rintro τ ⟨mk,hmk,hsh,rfl⟩
   refine v_cut (fun τ=>∃ (b:Int) (t:Str) (zs:List Str),(mkOk (w,mk,t)∧(mk≠mFile→mk≠mLink→t=tEmpty)∧Pool (n+6 * (i+1)) zs)∧τ=[some (.val (.int b)),some (.val (.int m)),some (.own (.io c (zs.map D.str))),some (.own (dictD (rs.map prR))),some (.own (.lst (fs.map wayD))),some (.val (.int q)),some (.val (.int i)),some (.val (wayD f)),some (.val (.str mk)),some (.val (.str z)),some (.val (wayD w)),some (.val (.str t))]) ?_ fun nx2 hnx2=>?now
   case now =>
    have to:∀ (Y:R→List D→Prop),(∀ (z:Str) (b':Int) (zs':List Str),(mk≠mFile→mk≠mLink→z=tEmpty)→Pool (n+6 * i+1+5) zs'→Y (.val (.tup [.str z,.int b'])) (zs'.map D.str))→g_text_of [.str mk,.int b] (zs.map D.str) Y:=fun Y y=>⟨mk,b,n+6 * i+1,zs,rfl,rfl,by lia,hp,y⟩
    dsimp! only [true_and]
    refine to _ fun t b' zs' ht hp'=>?_
    dsimp! only [true_and]
    refine hnx2 _ ⟨b',t,zs',⟨?_,ht,hp'.more (by lia)⟩,rfl⟩
    rcases hmk with q | q | q | q | q
    ·exact .inr (.inl ⟨q,ht (by rw [q]; exact Ne.symm mne.2.2.1) (by rw [q]; exact Ne.symm mne.2.2.2.1)⟩)
    ·exact .inr (.inr (.inl q))
    ·exact .inl (.inl q)
    ·exact .inr (.inr (.inr q))
    ·exact .inl (.inr q)
   clear hp zs b
   rintro τ ⟨b,t,zs,⟨hmt,htx,hp⟩,rfl⟩
   refine v_if (fun b=>b=true→w∉rs.map (·.1)∧w.length < 15) (fun Y y=>?test) (fun hyes=>?yes) fun _=>hnx _ ⟨b,zs,rs,fs,_,_,_,_,_,_,⟨PI.stay,TX,hp⟩,rfl⟩
   case test =>
    dsimp! only [dictD,wayD]
    refine ⟨hwy.ne,?_⟩
    rw [lkD_pairs,lk]
    by_cases hm:w∈rs.map (·.1)
    ·rw [decide_eq_true hm]
     exact iteF (y _ fun z=>by cases z)
    ·rw [decide_eq_false hm]
     exact iteT (y _ fun z=>⟨hm,by have:=of_decide_eq_true z; lia⟩)
   case yes =>
    obtain ⟨hm,h15'⟩:=hyes rfl
    have w14:Wy14 w:=⟨by lia,hfz⟩
    refine v_cut (fun τ=>τ=[some (.val (.int b)),some (.val (.int m)),some (.own (.io c (zs.map D.str))),some (.own (dictD ((rs++[(w,mk,t)]).map prR))),some (.own (.lst (fs.map wayD))),some (.val (.int q)),some (.val (.int i)),some (.val (wayD f)),some (.val (.str mk)),some (.val (.str z)),some (.val (wayD w)),some (.val (.str t))]) ?_ fun nx2 hnx2=>?now
    case now =>
     dsimp! only [dictD,wayD]
     refine ⟨by decide,hwy.ne,by lia,?_⟩
     rw [putD_pairs]
     refine hnx2 _ ?_
     have e:insP (rs.map prR) w (.tup [.str mk,.str t])=(rs++[(w,mk,t)]).map prR:=by
      unfold insP
      rw [ways_pr,if_neg hm,List.map_append]
      rfl
     rw [e]
     rfl
    rintro τ rfl
    obtain ⟨A,A2⟩:=put mk t hmt w14 hm hsh
    have TX2:TxE (rs++[(w,mk,t)]):=fun r hr=>by
     rcases List.mem_append.mp hr with hr | hr
     ·exact TX r hr
     ·rw [List.mem_singleton.mp hr]
      exact htx
    dsimp! only [true_and]
    refine ⟨by decide,?_⟩
    by_cases q:mk∈[mFolder,mShut]
    ·rw [decide_eq_true q]
     have fsm:FS mk:=by simpa [FS] using q
     have em:fs.map wayD++[wayD w]=(fs++[w]).map wayD:=by rw [List.map_append]; rfl
     rw [em]
     exact ⟨by lia,hnx _ ⟨b,zs,rs++[(w,mk,t)],fs++[w],_,_,_,_,_,_,⟨A2 fsm,TX2,hp⟩,rfl⟩⟩
    ·rw [decide_eq_false q]
     exact hnx _ ⟨b,zs,rs++[(w,mk,t)],fs,_,_,_,_,_,_,⟨A,TX2,hp⟩,rfl⟩
  ·clear hp zs b tx0 hrs0 rs0
   rintro τ ⟨b,zs,rs,fs,x6,x7,x8,x9,x10,x11,⟨PI,TX,hp⟩,rfl⟩
   exact hnx _ ⟨b,zs,rs,fs,x6,x7,x8,x9,x10,x11,⟨PI,TX,hp.more (by lia)⟩,rfl⟩
 clear hp zs b tx0 hrs0 rs0
 rintro τ ⟨b,zs,rs,fs,x6,x7,x8,x9,x10,x11,⟨PI,TX,hp⟩,rfl⟩
 have hlen:=PI.len
 simp! only [vSeq,dictD]
 have ek:(((rs.map prR).map (·.1)).map fun w=>D.tup (w.map D.str))=(rs.map (·.1)).map wayD:=by
  rw [List.map_map,List.map_map,List.map_map]
  rfl
 refine ⟨?_,fun ds hp' hs=>?_⟩
 ·rw [ek]
  exact sortD_ways PI.nd
 ·rw [ek] at hp'
  obtain ⟨vs,rfl,hv,hso⟩:=ways_back hp' hs
  have hvl:vs.length=rs.length:=by rw [hv.length_eq,List.length_map]
  refine comp_map (fun w=>rowD (w,lkR rs w)) vs (by lia) (fun w mw Y N hY=>?_) ?_
  ·have mw':=hv.mem_iff.mp mw
   simp! only [vSeq,wayD]
   have wk:("" : Str)∉w:=by
    obtain ⟨r,mr,er⟩:=List.mem_map.mp mw'
    rcases PI.row r mr with q | q
    ·rw [← er,q.1]; simp
    ·rw [← er]; exact q.2.1.ok.ne
   exact ⟨by decide,wk,thD (lkR rs w),by rw [lkD_pairs]; exact lkP_lkR PI.nd mw',by show 3≤sizeLine; decide,hY⟩
  ·simp! only [vSeq,true_and]
   have e:vs.map (fun w=>rowD (w,lkR rs w))=(vs.map fun w=>(w,lkR rs w)).map rowD:=by rw [List.map_map]; rfl
   rw [e]
   obtain ⟨p1,p2⟩:=rows_of_ways PI.nd hv hso
   obtain ⟨a1,a2,a3,a4,a5⟩:=PI.pane p1 p2
   refine h _ zs ⟨a1,a2,by lia,by lia,a5⟩ (fun r hr=>?_) (fun r hr=>TX r (p1.mem_iff.mp hr)) hp
   rcases PI.row r (p1.mem_iff.mp hr) with z | ⟨_,_,⟨_,z⟩,_⟩
   ·exact .inl z.1
   ·exact .inr (z.imp id fun ⟨q,mq,x⟩=>⟨q,p1.mem_iff.mpr mq,x⟩)
noncomputable def b_tree_of:TVS:=(vSeq (vSetO 3 vDNewT)
 (vSeq (vSetO 4 (vLst (vCons (vTup vNil) vNil)))
 (vSeq (vSet 5 (vOp vMod (vVar 0) (vOp vAdd (vVar 1) (vC (.int 1)))))
 (vSeq (vSet 0 (vOp vDiv (vVar 0) (vOp vAdd (vVar 1) (vC (.int 1)))))
 (vSeq (vFor (vRng1 (vVar 5)) (vgName 6)
  (vSeq (vSet 7 (vOp vIxR (vVar 4) (vOp vMod (vVar 0) (vF1 vLen (vVar 4)))))
 (vSeq (vSet 0 (vOp vDiv (vVar 0) (vF1 vLen (vVar 4))))
 (vSeq (vSet 8 (vOp vIxR (vTup (vCons (vC (.str ("folder" : Str))) (vCons (vC (.str ("file" : Str))) (vCons (vC (.str ("link" : Str))) vNil)))) (vOp vMod (vVar 0) (vC (.int 3)))))
 (vSeq (vAsgI g_name_of 2 (vCons (vOp vDiv (vVar 0) (vC (.int 3))) vNil) (vgTup 2 (vgCons (vgName 9) (vgCons (vgName 0) vgNil))))
 (vSeq (vAsgI g_text_of 2 (vCons (vVar 8) (vCons (vVar 0) vNil)) (vgTup 2 (vgCons (vgName 10) (vgCons (vgName 0) vgNil))))
 (vSeq (vSet 11 (vOp vAdd (vVar 7) (vTup (vCons (vVar 9) vNil))))
 (vIfS (vAndT (vBl (vDIn (!·) (vVar 11) (vVar 3))) (vBl (vOp vLt (vF1 vLen (vVar 11)) (vC (.int 15)))))
  (vSeq (vDPut 3 (vVar 11) (vTup (vCons (vVar 8) (vCons (vVar 10) vNil))))
 (vIfS (vBl (vOp vEq (vVar 8) (vC (.str ("folder" : Str)))))
  (vAppend 4 (vVar 11))
  vNext))
  vNext))))))))
 (vRetI (vComp (vItems (vF1 vSorted (vF1 vListD (vVar 3)))) (vgName 12) (fun _ Q=>Q true) (vOp vAdd (vTup (vCons (vVar 12) vNil)) (vDGet (vVar 3) (vVar 12))) 1)))))))
noncomputable abbrev N_tree_of:List Str:=["_law_big_here","_law_most","_law_pool","_law_things","_law_folders","_law_many","_law_k","_law_over_here","_law_mark","_law_name","_law_text","_law_way"]
theorem w_tree_of:∀ ds ps c Q,g_tree_of ds ps Q→b_tree_of (EnI 2 c Q) (startI N_tree_of 2 c ds ps):=by
 rintro ds ps c Q ⟨b,m,n,zs,rfl,rfl,m0,m1,hn,hp,h⟩
 have s1000:=line10000
 refine v_cut (fun τ=>τ=[some (.val (.int b)),some (.val (.int m)),some (.own (.io c (zs.map D.str))),some (.own (dictD (([]:List Row).map prR))),none,none,none,none,none,none,none,none]) ?_ fun nx hnx=>?now
 case now =>
  dsimp! only [true_and]
  exact hnx _ rfl
 rintro τ rfl
 refine v_cut (fun τ=>τ=[some (.val (.int b)),some (.val (.int m)),some (.own (.io c (zs.map D.str))),some (.own (dictD (([]:List Row).map prR))),some (.own (.lst ([([]:List Str)].map wayD))),none,none,none,none,none,none,none]) ?_ fun nx hnx=>?now
 case now =>
  dsimp! only [true_and]
  exact ⟨by decide,hnx _ rfl⟩
 rintro τ rfl
 refine v_cut (fun τ=>∃ q:Nat,q≤m.toNat∧τ=[some (.val (.int b)),some (.val (.int m)),some (.own (.io c (zs.map D.str))),some (.own (dictD (([]:List Row).map prR))),some (.own (.lst ([([]:List Str)].map wayD))),some (.val (.int q)),none,none,none,none,none,none]) ?_ fun nx hnx=>?now
 case now =>
  dsimp! only [true_and]
  have q0:=Int.emod_nonneg b (show m+1≠0 by lia)
  have q1:=Int.emod_lt_of_pos b (show 0 < m+1 by lia)
  refine ⟨by lia,hnx _ ⟨(b % (m+1)).toNat,by lia,?_⟩⟩
  rw [show (((b % (m+1)).toNat:Nat):Int)=b % (m+1) by lia]
  rfl
 rintro τ ⟨q,hq,rfl⟩
 refine v_cut (fun τ=>∃ b:Int,τ=[some (.val (.int b)),some (.val (.int m)),some (.own (.io c (zs.map D.str))),some (.own (dictD (([]:List Row).map prR))),some (.own (.lst ([([]:List Str)].map wayD))),some (.val (.int q)),none,none,none,none,none,none]) ?_ fun nx hnx=>?now
 case now =>
  dsimp! only [true_and]
  exact ⟨by lia,by lia,hnx _ ⟨_,rfl⟩⟩
 clear b
 rintro τ ⟨b,rfl⟩
 refine v_cut (fun τ=>∃ (b:Int) (zs:List Str) (rs:List Row) (fs:List (List Str)) (x6 x7 x8 x9 x10 x11:Option R),(PInv q rs fs∧TMk rs∧Pool (n+360) zs)∧τ=[some (.val (.int b)),some (.val (.int m)),some (.own (.io c (zs.map D.str))),some (.own (dictD (rs.map prR))),some (.own (.lst (fs.map wayD))),some (.val (.int q)),x6,x7,x8,x9,x10,x11]) ?_ fun nx hnx=>?now
 case now =>
  dsimp! only [true_and]
  refine ⟨by lia,by lia,for_rng (fun i τ=>∃ (b:Int) (zs:List Str) (rs:List Row) (fs:List (List Str)) (x6 x7 x8 x9 x10 x11:Option R),(PInv i rs fs∧TMk rs∧Pool (n+6 * i) zs)∧τ=[some (.val (.int b)),some (.val (.int m)),some (.own (.io c (zs.map D.str))),some (.own (dictD (rs.map prR))),some (.own (.lst (fs.map wayD))),some (.val (.int q)),x6,x7,x8,x9,x10,x11]) ⟨b,zs,[],[[]],none,none,none,none,none,none,⟨.start (.inl rfl),(fun r hr=>by cases hr),hp⟩,rfl⟩ ?_ ?_⟩
  ·clear hp zs b
   rintro i τ hi ⟨b,zs,rs,fs,x6,x7,x8,x9,x10,x11,⟨PI,TM,hp⟩,rfl⟩ nx hnx
   have hfp:0 < fs.length:=List.length_pos_iff.mpr PI.ne
   have hfl:=PI.fln
   have hrl:=PI.len
   refine v_cut (fun τ=>∃ f,f∈fs∧τ=[some (.val (.int b)),some (.val (.int m)),some (.own (.io c (zs.map D.str))),some (.own (dictD (rs.map prR))),some (.own (.lst (fs.map wayD))),some (.val (.int q)),some (.val (.int i)),some (.val (wayD f)),x8,x9,x10,x11]) ?_ fun nx2 hnx2=>?now
   case now =>
    dsimp! only [true_and]
    obtain ⟨f,hf,hf2⟩:=at_nat (xs:=fs) (k:=b % (fs.length:Int)) (Int.emod_nonneg _ (by lia)) (Int.emod_lt_of_pos _ (by lia))
    exact ⟨by lia,wayD f,by rw [atI_map,hf]; rfl,hnx2 _ ⟨f,List.mem_of_getElem? hf2,rfl⟩⟩
   rintro τ ⟨f,mf,rfl⟩
   have hf14:=(PI.fol f mf).1
   refine v_cut (fun τ=>∃ b:Int,τ=[some (.val (.int b)),some (.val (.int m)),some (.own (.io c (zs.map D.str))),some (.own (dictD (rs.map prR))),some (.own (.lst (fs.map wayD))),some (.val (.int q)),some (.val (.int i)),some (.val (wayD f)),x8,x9,x10,x11]) ?_ fun nx2 hnx2=>?now
   case now =>
    dsimp! only [true_and]
    exact ⟨by lia,by lia,hnx2 _ ⟨_,rfl⟩⟩
   clear b
   rintro τ ⟨b,rfl⟩
   refine v_cut (fun τ=>∃ mk:Str,(mk=mFolder∨mk=mFile∨mk=mLink)∧τ=[some (.val (.int b)),some (.val (.int m)),some (.own (.io c (zs.map D.str))),some (.own (dictD (rs.map prR))),some (.own (.lst (fs.map wayD))),some (.val (.int q)),some (.val (.int i)),some (.val (wayD f)),some (.val (.str mk)),x9,x10,x11]) ?_ fun nx2 hnx2=>?now
   case now =>
    dsimp! only [true_and]
    have e:[D.str (Str.ofString "folder"),D.str (Str.ofString "file"),D.str (Str.ofString "link")]=[mFolder,mFile,mLink].map D.str:=rfl
    obtain ⟨y,hy,hy2⟩:=at_nat (xs:=[mFolder,mFile,mLink]) (k:=b % 3) (Int.emod_nonneg _ (by decide)) (Int.emod_lt_of_pos _ (by decide))
    have my:y=mFolder∨y=mFile∨y=mLink:=by
     have:=List.mem_of_getElem? hy2
     simp only [List.mem_cons,List.not_mem_nil,or_false] at this
     exact this
    exact ⟨by decide,.str y,by rw [e,atI_map,hy]; rfl,hnx2 _ ⟨y,my,rfl⟩⟩
   rintro τ ⟨mk,hmk,rfl⟩
   refine v_cut (fun τ=>∃ (b:Int) (z:Str) (zs:List Str),(NmZ z∧Pool (n+6 * i+1) zs)∧τ=[some (.val (.int b)),some (.val (.int m)),some (.own (.io c (zs.map D.str))),some (.own (dictD (rs.map prR))),some (.own (.lst (fs.map wayD))),some (.val (.int q)),some (.val (.int i)),some (.val (wayD f)),some (.val (.str mk)),some (.val (.str z)),x10,x11]) ?_ fun nx2 hnx2=>?now
   case now =>
    have no:∀ (x:Int) (Y:R→List D→Prop),(∀ (z:Str) (b':Int) (zs':List Str),NmZ z→Pool (n+6 * i+1) zs'→Y (.val (.tup [.str z,.int b'])) (zs'.map D.str))→g_name_of [.int x] (zs.map D.str) Y:=fun x Y y=>⟨x,n+6 * i,zs,rfl,rfl,by lia,hp,y⟩
    dsimp! only [true_and]
    refine no _ _ fun z b' zs' nz hp'=>?_
    dsimp! only [true_and]
    exact hnx2 _ ⟨b',z,zs',⟨nz,hp'⟩,rfl⟩
   clear hp zs b
   rintro τ ⟨b,z,zs,⟨⟨z1,z2⟩,hp⟩,rfl⟩
   refine v_cut (fun τ=>∃ (b:Int) (t:Str) (zs:List Str),((mk≠mFile→mk≠mLink→t=tEmpty)∧Pool (n+6 * (i+1)) zs)∧τ=[some (.val (.int b)),some (.val (.int m)),some (.own (.io c (zs.map D.str))),some (.own (dictD (rs.map prR))),some (.own (.lst (fs.map wayD))),some (.val (.int q)),some (.val (.int i)),some (.val (wayD f)),some (.val (.str mk)),some (.val (.str z)),some (.val (.str t)),x11]) ?_ fun nx2 hnx2=>?now
   case now =>
    have to:∀ (Y:R→List D→Prop),(∀ (z:Str) (b':Int) (zs':List Str),(mk≠mFile→mk≠mLink→z=tEmpty)→Pool (n+6 * i+1+5) zs'→Y (.val (.tup [.str z,.int b'])) (zs'.map D.str))→g_text_of [.str mk,.int b] (zs.map D.str) Y:=fun Y y=>⟨mk,b,n+6 * i+1,zs,rfl,rfl,by lia,hp,y⟩
    dsimp! only [true_and]
    refine to _ fun t b' zs' ht hp'=>?_
    dsimp! only [true_and]
    exact hnx2 _ ⟨b',t,zs',⟨ht,hp'.more (by lia)⟩,rfl⟩
   clear hp zs b
   rintro τ ⟨b,t,zs,⟨ht,hp⟩,rfl⟩
   refine v_cut (fun τ=>τ=[some (.val (.int b)),some (.val (.int m)),some (.own (.io c (zs.map D.str))),some (.own (dictD (rs.map prR))),some (.own (.lst (fs.map wayD))),some (.val (.int q)),some (.val (.int i)),some (.val (wayD f)),some (.val (.str mk)),some (.val (.str z)),some (.val (.str t)),some (.val (wayD (f++[z])))]) ?_ fun nx2 hnx2=>?now
   case now =>
    dsimp! only [wayD]
    have:=hf14.1
    exact ⟨by decide,by lia,hnx2 _ rfl⟩
   rintro τ rfl
   have hfz:(∀ y∈f++[z],1≤y.length∧y.length≤12):=fun y hy=>by
    rcases List.mem_append.mp hy with m | m
    ·exact hf14.2 y m
    ·rw [List.mem_singleton.mp m]; exact ⟨z1,z2⟩
   have hwy:WyOk (f++[z]):=⟨by have:=hf14.1; rw [List.length_append,List.length_singleton]; lia,hfz⟩
   have lk:(lkP (rs.map prR) (f++[z])).isSome=decide (f++[z]∈rs.map (·.1)):=by
    rw [lkP_pr,Option.isSome_map]
    exact (Option.isSome_map ..).symm.trans (markR_in rs (f++[z]))
   have put:=fun (m t:Str) (hm:mkOk (f++[z],m,t)) (hw:Wy14 (f++[z])) (nw:f++[z]∉rs.map (·.1)) (hs:m=mGone∨m=mShut→shutR rs (f++[z])=false)=>PI.put mf hm hw nw hs
   have hmt:mkOk (f++[z],mk,t):=by
    rcases hmk with q | q | q
    ·exact .inr (.inl ⟨q,ht (by rw [q]; exact Ne.symm mne.2.2.1) (by rw [q]; exact Ne.symm mne.2.2.2.1)⟩)
    ·exact .inl (.inl q)
    ·exact .inl (.inr q)
   have hsh:mk=mGone∨mk=mShut→shutR rs (f++[z])=false:=fun g=>by
    have k:mFolder≠mGone∧mFolder≠mShut∧mFile≠mGone∧mFile≠mShut∧mLink≠mGone∧mLink≠mShut:=by decide +kernel
    rcases hmk with q | q | q
    ·rw [q] at g; exact absurd g (by simp [k.1,k.2.1])
    ·rw [q] at g; exact absurd g (by simp [k.2.2.1,k.2.2.2.1])
    ·rw [q] at g; exact absurd g (by simp [k.2.2.2.2.1,k.2.2.2.2.2])
   have nez:f++[z]≠[]:=by simp
   generalize hw:f++[z]=w at *
   refine v_if (fun b=>b=true→w∉rs.map (·.1)∧w.length < 15) (fun Y y=>?test) (fun hyes=>?yes) fun _=>hnx _ ⟨b,zs,rs,fs,_,_,_,_,_,_,⟨PI.stay,TM,hp⟩,rfl⟩
   case test =>
    dsimp! only [dictD,wayD]
    refine ⟨hwy.ne,?_⟩
    rw [lkD_pairs,lk]
    by_cases hm:w∈rs.map (·.1)
    ·rw [decide_eq_true hm]
     exact iteF (y _ fun z=>by cases z)
    ·rw [decide_eq_false hm]
     exact iteT (y _ fun z=>⟨hm,by have:=of_decide_eq_true z; lia⟩)
   case yes =>
    obtain ⟨hm,h15'⟩:=hyes rfl
    have w14:Wy14 w:=⟨by lia,hfz⟩
    refine v_cut (fun τ=>τ=[some (.val (.int b)),some (.val (.int m)),some (.own (.io c (zs.map D.str))),some (.own (dictD ((rs++[(w,mk,t)]).map prR))),some (.own (.lst (fs.map wayD))),some (.val (.int q)),some (.val (.int i)),some (.val (wayD f)),some (.val (.str mk)),some (.val (.str z)),some (.val (.str t)),some (.val (wayD w))]) ?_ fun nx2 hnx2=>?now
    case now =>
     dsimp! only [dictD,wayD]
     refine ⟨by decide,hwy.ne,by lia,?_⟩
     rw [putD_pairs]
     refine hnx2 _ ?_
     have e:insP (rs.map prR) w (.tup [.str mk,.str t])=(rs++[(w,mk,t)]).map prR:=by
      unfold insP
      rw [ways_pr,if_neg hm,List.map_append]
      rfl
     rw [e]
     rfl
    rintro τ rfl
    obtain ⟨A,A2⟩:=put mk t hmt w14 hm hsh
    have TM2:TMk (rs++[(w,mk,t)]):=fun r hr=>by
     rcases List.mem_append.mp hr with hr | hr
     ·exact TM r hr
     ·rw [List.mem_singleton.mp hr]
      exact ⟨nez,hmk⟩
    dsimp! only [true_and]
    by_cases q:mk=mFolder
    ·rw [decide_eq_true (show mk=Str.ofString "folder" from q)]
     have fsm:FS mk:=.inl q
     have em:fs.map wayD++[wayD w]=(fs++[w]).map wayD:=by rw [List.map_append]; rfl
     rw [em]
     exact ⟨by lia,hnx _ ⟨b,zs,rs++[(w,mk,t)],fs++[w],_,_,_,_,_,_,⟨A2 fsm,TM2,hp⟩,rfl⟩⟩
    ·rw [decide_eq_false (show ¬ mk=Str.ofString "folder" from q)]
     exact hnx _ ⟨b,zs,rs++[(w,mk,t)],fs,_,_,_,_,_,_,⟨A,TM2,hp⟩,rfl⟩
  ·clear hp zs b
   rintro τ ⟨b,zs,rs,fs,x6,x7,x8,x9,x10,x11,⟨PI,TM,hp⟩,rfl⟩
   exact hnx _ ⟨b,zs,rs,fs,x6,x7,x8,x9,x10,x11,⟨PI,TM,hp.more (by lia)⟩,rfl⟩
 clear hp zs b
 rintro τ ⟨b,zs,rs,fs,x6,x7,x8,x9,x10,x11,⟨PI,TM,hp⟩,rfl⟩
 have hlen:=PI.len
 simp! only [vSeq,dictD]
 have ek:(((rs.map prR).map (·.1)).map fun w=>D.tup (w.map D.str))=(rs.map (·.1)).map wayD:=by
  rw [List.map_map,List.map_map,List.map_map]
  rfl
 refine ⟨?_,fun ds hp' hs=>?_⟩
 ·rw [ek]
  exact sortD_ways PI.nd
 ·rw [ek] at hp'
  obtain ⟨vs,rfl,hv,hso⟩:=ways_back hp' hs
  have hvl:vs.length=rs.length:=by rw [hv.length_eq,List.length_map]
  refine comp_map (fun w=>rowD (w,lkR rs w)) vs (by lia) (fun w mw Y N hY=>?_) ?_
  ·have mw':=hv.mem_iff.mp mw
   simp! only [vSeq,wayD]
   have wk:("" : Str)∉w:=by
    obtain ⟨r,mr,er⟩:=List.mem_map.mp mw'
    rcases PI.row r mr with q | q
    ·rw [← er,q.1]; simp
    ·rw [← er]; exact q.2.1.ok.ne
   exact ⟨by decide,wk,thD (lkR rs w),by rw [lkD_pairs]; exact lkP_lkR PI.nd mw',by show 3≤sizeLine; decide,hY⟩
  ·simp! only [vSeq,true_and]
   have e:vs.map (fun w=>rowD (w,lkR rs w))=(vs.map fun w=>(w,lkR rs w)).map rowD:=by rw [List.map_map]; rfl
   rw [e]
   obtain ⟨p1,p2⟩:=rows_of_ways PI.nd hv hso
   refine h _ zs ⟨p2,fun r hr=>?_,fun r hr=>?_,fun r hr=>?_,fun r hr=>?_,by rw [p1.length_eq]; lia⟩ hp
   ·have mr:=p1.mem_iff.mp hr
    obtain ⟨ne,_⟩:=TM r mr
    rcases PI.row r mr with z | ⟨_,_,⟨_,z⟩,_⟩
    ·exact absurd z.1 ne
    ·refine ⟨ne,z.imp id fun ⟨q,mq,eq,fq⟩=>⟨q,p1.mem_iff.mpr mq,eq,?_⟩⟩
     rcases fq with f | f
     ·exact f
     ·have k:mShut≠mFolder∧mShut≠mFile∧mShut≠mLink:=by decide +kernel
      rcases (TM q mq).2 with x | x | x
      ·exact absurd (f.symm.trans x) k.1
      ·exact absurd (f.symm.trans x) k.2.1
      ·exact absurd (f.symm.trans x) k.2.2
   ·have mr:=p1.mem_iff.mp hr
    rcases PI.row r mr with z | z
    ·exact absurd z.1 (TM r mr).1
    ·exact z.2.1.ok
   ·have mr:=p1.mem_iff.mp hr
    rcases PI.row r mr with z | z
    ·exact absurd z.1 (TM r mr).1
    ·have:=z.2.1.1
     lia
   ·exact (TM r (p1.mem_iff.mp hr)).2
noncomputable def b_tidied:TVS:=(vSeq (vSetO 1 vDNewT)
 (vSeq (vFor (vItems (vF1 vSorted (vF1 vListD (vVar 0)))) (vgName 2)
  (vSeq (vSet 3 (vOp vIxR (vDGet (vVar 0) (vVar 2)) (vC (.int 0))))
 (vSeq (vSet 4 (vSlice (vVar 2) vNoPart (vPart (vNeg (vC (.int 1))))))
 (vSeq (vSet 5 (vCalB g_under_shut 1 (vCons (vVar 2) vNil)))
 (vSeq (vIfS (vAndT (vBl (vVar 5)) (vBl (vOp vEq (vVar 3) (vC (.str ("shut" : Str))))))
  (vSet 3 (vC (.str ("folder" : Str))))
  vNext)
 (vIfS (vOrT (vBl (vOp vLt (vF1 vLen (vVar 2)) (vC (.int 2)))) (vAndT (vBl (vDIn id (vVar 4) (vVar 1))) (vBl (vOp (vIn id) (vOp vIxR (vDGet (vVar 1) (vVar 4)) (vC (.int 0))) (vTup (vCons (vC (.str ("folder" : Str))) (vCons (vC (.str ("shut" : Str))) vNil)))))))
  (vIfS (vOrT (vBl (vOp vNeD (vVar 3) (vC (.str ("gone" : Str))))) (vNotT (vBl (vVar 5))))
  (vDPut 1 (vVar 2) (vTup (vCons (vVar 3) (vCons (vOp vIxR (vDGet (vVar 0) (vVar 2)) (vC (.int 1))) vNil))))
  vNext)
  vNext))))))
 (vRet (vComp (vItems (vF1 vSorted (vF1 vListD (vVar 1)))) (vgName 6) (fun _ Q=>Q true) (vOp vAdd (vTup (vCons (vVar 6) vNil)) (vDGet (vVar 1) (vVar 6))) 1))))
noncomputable abbrev N_tidied:List Str:=["_law_things","_law_kept","_law_way","_law_mark","_law_over_here","_law_shut"]
theorem w_tidied:∀ ds Q,g_tidied ds Q→b_tidied (En Q) (startD N_tidied ds):=by
 rintro ds Q ⟨rs,rfl,T,h⟩
 have s1000:=line10000
 have tl:=T.len
 refine v_cut (fun τ=>τ=[some (.val (dictD (rs.map prR))),some (.own (dictD (([]:List Row).map prR))),none,none,none,none]) ?_ fun nx hnx=>?now
 case now =>
  dsimp! only [true_and]
  exact hnx _ rfl
 rintro τ rfl
 refine v_cut (fun τ=>∃ (ks:List Row) (ws:List (List Str)) (a b c d:Option R),(TKF ws ks∧ws.length≤150∧ws.Nodup)∧τ=[some (.val (dictD (rs.map prR))),some (.own (dictD (ks.map prR))),a,b,c,d]) ?_ fun nx hnx=>?now
 case now =>
  dsimp! only [dictD]
  have ek:(((rs.map prR).map (·.1)).map fun w=>D.tup (w.map D.str))=(rs.map (·.1)).map wayD:=by
   rw [List.map_map,List.map_map,List.map_map]
   rfl
  rw [ek]
  refine ⟨sortD_ways T.nd,fun ds' hp hs=>?_⟩
  obtain ⟨vs,rfl,hv,hso⟩:=ways_back hp hs
  have vn:vs.Nodup:=hv.nodup_iff.mpr T.nd
  have vl:vs.length≤150:=by rw [hv.length_eq,List.length_map]; exact tl
  refine for_map (fun i τ=>∃ (ks:List Row) (a b c d:Option R),TKF (vs.take i) ks∧τ=[some (.val (dictD (rs.map prR))),some (.own (dictD (ks.map prR))),a,b,c,d]) ⟨[],none,none,none,none,⟨by simp,(fun r hr=>by cases hr),(fun r hr=>by cases hr),(fun r hr=>by cases hr),(fun r hr=>by cases hr),(fun r hr=>by cases hr)⟩,rfl⟩ ?_ ?_
  ·rintro i w τ hw ⟨ks,a,b,c,d,KI,rfl⟩ nx2 hnx2
   have mw:=List.mem_of_getElem? hw
   have hi:=(List.getElem?_eq_some_iff.mp hw).1
   have et:vs.take (i+1)=vs.take i++[w]:=by rw [List.take_succ,hw]; rfl
   obtain ⟨r0,mr0,er0⟩:=List.mem_map.mp (hv.mem_iff.mp mw)
   obtain ⟨w0,m,t⟩:=r0
   cases (show w0=w from er0)
   have w14:Wy14 w:=T.nm _ mr0
   have mm:=T.mt _ mr0
   have rt0:=T.rt _ mr0
   have lo:∀ q∈ks,ltW q.1 w=true:=fun q hq=>by
    have m:=KI.sub.mem (List.mem_map.mpr ⟨q,hq,rfl⟩)
    obtain ⟨j,hj,ej⟩:=List.mem_iff_getElem.mp m
    rw [List.length_take] at hj
    rw [List.getElem_take] at ej
    have:=List.pairwise_iff_getElem.mp hso j i (by lia) hi (by lia)
    rw [ej] at this
    have ew:vs[i]=w:=(List.getElem?_eq_some_iff.mp hw).2
    rw [ew] at this
    exact this
   have wy:=w14.ok
   have hr:rowAt rs w=some (m,t):=(rowAt_mem T.nd).mpr mr0
   have lr:lkD ((rs.map prR).map (·.1)) ((rs.map prR).map (·.2)) w=some (thD (m,t)):=by rw [lkD_pairs,lkP_row,hr]; rfl
   have kl:ks.length≤150:=by
    have:=KI.sub.length_le
    rw [List.length_map,List.length_take] at this
    lia
   have nk:w∉ks.map (·.1):=fun z=>by
    have:=KI.sub.mem z
    have nd2:=vn
    rw [← List.take_append_drop (i+1) vs,et] at nd2
    have:=(List.nodup_append.mp (List.nodup_append.mp nd2).1).2.2 w this w (by simp)
    exact this rfl
   have knd:(ks.map (·.1)).Nodup:=(vn.sublist (List.take_sublist _ _)).sublist KI.sub
   refine v_cut (fun τ=>τ=[some (.val (dictD (rs.map prR))),some (.own (dictD (ks.map prR))),some (.val (wayD w)),some (.val (.str m)),c,d]) ?_ fun nx3 hnx3=>?now
   case now =>
    dsimp! only [dictD,wayD]
    rw [lr]
    refine ⟨wy.ne,_,rfl,?_⟩
    dsimp! only [thD]
    exact hnx3 _ rfl
   rintro τ rfl
   refine v_cut (fun τ=>τ=[some (.val (dictD (rs.map prR))),some (.own (dictD (ks.map prR))),some (.val (wayD w)),some (.val (.str m)),some (.val (wayD w.dropLast)),d]) ?_ fun nx3 hnx3=>?now
   case now =>
    dsimp! only [wayD,cutL_last]
    exact hnx3 _ rfl
   rintro τ rfl
   refine v_cut (fun τ=>τ=[some (.val (dictD (rs.map prR))),some (.own (dictD (ks.map prR))),some (.val (wayD w)),some (.val (.str m)),some (.val (wayD w.dropLast)),some (.val (.bl (shutR ks w)))]) ?_ fun nx3 hnx3=>?now
   case now =>
    have us:∀ Y:R→Prop,Y (.val (.bl (shutR ks w)))→g_under_shut [dictD (ks.map prR),wayD w] Y:=fun Y y=>⟨ks,w,rfl,wy.ne,by have:=wy.1; lia,y⟩
    dsimp! only [true_and]
    refine us _ ?_
    dsimp! only [true_and]
    exact hnx3 _ rfl
   rintro τ rfl
   refine v_cut (fun τ=>∃ m:Str,(((m=mFile∨m=mLink)∨((m=mFolder∨m=mShut∨m=mGone)∧t=tEmpty))∧(w=[]→m=mShut)∧(m=mShut→shutR ks w=false))∧τ=[some (.val (dictD (rs.map prR))),some (.own (dictD (ks.map prR))),some (.val (wayD w)),some (.val (.str m)),some (.val (wayD w.dropLast)),some (.val (.bl (shutR ks w)))]) ?_ fun nx3 hnx3=>?now
   case now =>
    have k:mShut≠mFile∧mShut≠mLink∧mFolder≠mShut:=by decide +kernel
    dsimp! only [true_and]
    cases hs:shutR ks w with
    | false =>
     rw [hs] at hnx3
     exact iteF (hnx3 _ ⟨m,⟨mm,rt0,fun _=>rfl⟩,rfl⟩)
    | true =>
     rw [hs] at hnx3
     refine iteT ?_
     by_cases q:m=mShut
     ·rw [decide_eq_true (show m=Str.ofString "shut" from q)]
      refine iteT (hnx3 _ ⟨mFolder,⟨.inr ⟨.inl rfl,?_⟩,fun z=>?_,fun z=>absurd z k.2.2⟩,rfl⟩)
      ·rcases mm with (z | z) | z
       ·exact absurd (q.symm.trans z) k.1
       ·exact absurd (q.symm.trans z) k.2.1
       ·exact z.2
      ·rw [z] at hs; cases hs
     ·rw [decide_eq_false (show ¬ m=Str.ofString "shut" from q)]
      exact iteF (hnx3 _ ⟨m,⟨mm,rt0,fun z=>absurd z q⟩,rfl⟩)
   rintro τ ⟨m',⟨mm',rt',sh'⟩,rfl⟩
   have stay:∀ a b c d,nx2 [some (.val (dictD (rs.map prR))),some (.own (dictD (ks.map prR))),a,b,c,d]:=fun a b c d=>hnx2 _ ⟨ks,a,b,c,d,by rw [et]; exact KI.stay w,rfl⟩
   refine v_if (fun b=>b=true→w=[]∨w.dropLast=[]∨∃ q∈ks,q.1=w.dropLast∧FS q.2.1) (fun Y y=>?test) (fun hyes=>?yes) fun _=>stay _ _ _ _
   case test =>
    have lk:lkD ((ks.map prR).map (·.1)) ((ks.map prR).map (·.2)) w.dropLast=(rowAt ks w.dropLast).map thD:=by rw [lkD_pairs,lkP_row]
    dsimp! only [dictD,wayD]
    split
    ·rename_i h2
     have h2':w.length < 2:=by have:=of_decide_eq_true h2; lia
     refine y _ fun _=>?_
     match w,h2' with
     | [],_=>exact .inl rfl
     | [_],_=>exact .inr (.inl rfl)
    ·refine ⟨wy.drop.ne,?_⟩
     rw [lk]
     cases hk:rowAt ks w.dropLast with
     | none=>exact iteF (y _ fun z=>by cases z)
     | some x =>
      refine iteT ⟨wy.drop.ne,thD x,rfl,?_⟩
      dsimp! only [thD]
      refine ⟨by decide,y _ fun z=>.inr (.inr ⟨(w.dropLast,x),(rowAt_mem knd).mp hk,rfl,?_⟩)⟩
      have z':=of_decide_eq_true (show decide (x.1∈[Str.ofString "folder",Str.ofString "shut"])=true from z)
      simp only [List.mem_cons,List.not_mem_nil,or_false] at z'
      exact z'
   case yes =>
    have hc:=hyes rfl
    have put:(m'=mGone→shutR ks w=false)→∀ a b c d,nx2 [some (.val (dictD (rs.map prR))),some (.own (dictD ((ks++[(w,m',t)]).map prR))),a,b,c,d]:=fun hg a b c d=>hnx2 _ ⟨ks++[(w,m',t)],a,b,c,d,by rw [et]; exact KI.put (r:=(w,m',t)) w14 mm' rt' hc (fun z=>z.elim hg sh') lo,rfl⟩
    refine v_if (fun b=>b=true→m'=mGone→shutR ks w=false) (fun Y y=>?test2) (fun hg=>?yes2) fun _=>stay _ _ _ _
    case test2 =>
     dsimp! only [true_and]
     by_cases q:m'=mGone
     ·rw [decide_eq_true (show m'=Str.ofString "gone" from q)]
      exact iteF (y _ fun z _=>by simpa using z)
     ·rw [decide_eq_false (show ¬ m'=Str.ofString "gone" from q)]
      exact iteT (y _ fun _ z=>absurd z q)
    case yes2 =>
     dsimp! only [dictD,wayD]
     rw [lr]
     refine ⟨wy.ne,_,rfl,?_⟩
     dsimp! only [thD]
     refine ⟨by decide,wy.ne,by lia,?_⟩
     rw [putD_pairs]
     have e:insP (ks.map prR) w (.tup [.str m',.str t])=(ks++[(w,m',t)]).map prR:=by
      unfold insP
      rw [ways_pr,if_neg nk,List.map_append]
      rfl
     rw [e]
     exact put (hg rfl) _ _ _ _
  ·rintro τ ⟨ks,a,b,c,d,KI,rfl⟩
   rw [List.take_length] at KI
   exact hnx _ ⟨ks,vs,a,b,c,d,⟨KI,vl,vn⟩,rfl⟩
 rintro τ ⟨ks,ws,a,b,c,d,⟨KI,wl,wn⟩,rfl⟩
 have nd:(ks.map (·.1)).Nodup:=wn.sublist KI.sub
 have kl:ks.length≤150:=by
  have:=KI.sub.length_le
  rw [List.length_map] at this
  lia
 simp! only [vSeq,dictD]
 have ek:(((ks.map prR).map (·.1)).map fun w=>D.tup (w.map D.str))=(ks.map (·.1)).map wayD:=by
  rw [List.map_map,List.map_map,List.map_map]
  rfl
 rw [ek]
 refine ⟨sortD_ways nd,fun ds' hp hs=>?_⟩
 obtain ⟨vs,rfl,hv,hso⟩:=ways_back hp hs
 have hvl:vs.length=ks.length:=by rw [hv.length_eq,List.length_map]
 refine comp_map (fun w=>rowD (w,lkR ks w)) vs (by lia) (fun w mw Y N hY=>?_) ?_
 ·have mw':=hv.mem_iff.mp mw
  simp! only [vSeq,wayD]
  have wk:("" : Str)∉w:=by
   obtain ⟨r,mr,er⟩:=List.mem_map.mp mw'
   rw [← er]; exact (KI.nm r mr).ok.ne
  exact ⟨by decide,wk,thD (lkR ks w),by rw [lkD_pairs]; exact lkP_lkR nd mw',by show 3≤sizeLine; decide,hY⟩
 ·simp! only [vSeq,true_and]
  have e:vs.map (fun w=>rowD (w,lkR ks w))=(vs.map fun w=>(w,lkR ks w)).map rowD:=by rw [List.map_map]; rfl
  rw [e]
  obtain ⟨p1,p2⟩:=rows_of_ways nd hv hso
  have ndp:=rsorted_nd p2
  have F:PFS (vs.map fun w=>(w,lkR ks w)):=fun r hr=>(KI.fs r (p1.mem_iff.mp hr)).imp id fun z=>z.imp id fun ⟨q,mq,x⟩=>⟨q,p1.mem_iff.mpr mq,x⟩
  have RT:∀ r∈vs.map fun w=>(w,lkR ks w),r.1=[]→r.2.1=mShut:=fun r hr=>KI.rt r (p1.mem_iff.mp hr)
  refine h _ ⟨p2,F,fun r hr=>KI.mt r (p1.mem_iff.mp hr),RT,fun r hr z=>hid_shut ndp F RT hr ?_,fun r hr=>KI.nm r (p1.mem_iff.mp hr),by rw [p1.length_eq]; lia⟩
  rw [shut_perm p1 ndp]
  exact KI.nu r (p1.mem_iff.mp hr) z
noncomputable def b_over:TVS:=(vSeq (vSetO 3 vDNewT)
 (vSeq (vFor (vItems (vVar 1)) (vgName 4)
  (vSeq (vSet 5 (vOp vIxR (vTup (vCons (vC (.str ("" : Str))) (vCons (vC (.str ("folder" : Str))) (vCons (vC (.str ("shut" : Str))) (vCons (vC (.str ("file" : Str))) (vCons (vC (.str ("gone" : Str))) vNil)))))) (vOp vMod (vVar 2) (vC (.int 5)))))
 (vSeq (vSet 2 (vOp vDiv (vVar 2) (vC (.int 5))))
 (vIfS (vAndT (vBl (vOp vNeD (vVar 5) (vC (.str ("" : Str))))) (vBl (vOp vNeD (vOp vIxR (vVar 4) (vC (.int 0))) (vTup vNil))))
  (vDPut 3 (vOp vIxR (vVar 4) (vC (.int 0))) (vTup (vCons (vVar 5) (vCons (vC (.str ("" : Str))) vNil))))
  vNext))))
 (vSeq (vFor (vItems (vVar 0)) (vgName 4)
  (vDPut 3 (vOp vIxR (vVar 4) (vC (.int 0))) (vTup (vCons (vOp vIxR (vVar 4) (vC (.int 1))) (vCons (vOp vIxR (vVar 4) (vC (.int 2))) vNil)))))
 (vFrz 3 (vRet (vCallN g_tidied (vCons (vVar 3) vNil)))))))
noncomputable abbrev N_over:List Str:=["_law_upper","_law_lower","_law_big_here","_law_things","_law_row","_law_mark"]
theorem w_over:∀ ds Q,g_over ds Q→b_over (En Q) (startD N_over ds):=by
 rintro ds Q ⟨u,l,b,rfl,U,L,h⟩
 have ul:=U.len
 have ll:=L.len
 have s1000:=line10000
 refine v_cut (fun τ=>τ=[some (.val (rowsL u)),some (.val (rowsL l)),some (.val (.int b)),some (.own (dictD (([]:List Row).map prR))),none,none]) ?_ fun nx hnx=>?now
 case now =>
  dsimp! only [true_and]
  exact hnx _ rfl
 rintro τ rfl
 refine v_cut (fun τ=>∃ (b:Int) (rs:List Row) (x y:Option R),ThF 75 rs∧τ=[some (.val (rowsL u)),some (.val (rowsL l)),some (.val (.int b)),some (.own (dictD (rs.map prR))),x,y]) ?_ fun nx hnx=>?now
 case now =>
  dsimp! only [rowsL]
  refine for_map (fun i τ=>∃ (b:Int) (rs:List Row) (x y:Option R),ThF i rs∧τ=[some (.val (rowsL u)),some (.val (rowsL l)),some (.val (.int b)),some (.own (dictD (rs.map prR))),x,y]) ⟨b,[],none,none,⟨List.nodup_nil,(fun r hr=>by cases hr),Nat.le_refl _,(fun r hr=>by cases hr),(fun r hr=>by cases hr)⟩,rfl⟩ ?_ ?_
  ·clear b
   rintro i r τ hr ⟨b,rs,x,y,T,rfl⟩ nx2 hnx2
   have mr:=List.mem_of_getElem? hr
   have hi:=(List.getElem?_eq_some_iff.mp hr).1
   have w14:=L.nm r mr
   have tl:=T.len
   refine v_cut (fun τ=>∃ m:Str,m∈[tEmpty,mFolder,mShut,mFile,mGone]∧τ=[some (.val (rowsL u)),some (.val (rowsL l)),some (.val (.int b)),some (.own (dictD (rs.map prR))),some (.val (rowD r)),some (.val (.str m))]) ?_ fun nx3 hnx3=>?now
   case now =>
    have e:[D.str (Str.ofString ""),D.str (Str.ofString "folder"),D.str (Str.ofString "shut"),D.str (Str.ofString "file"),D.str (Str.ofString "gone")]=[tEmpty,mFolder,mShut,mFile,mGone].map D.str:=rfl
    obtain ⟨z,z1,z2⟩:=at_nat (xs:=[tEmpty,mFolder,mShut,mFile,mGone]) (k:=b % 5) (Int.emod_nonneg _ (by decide)) (Int.emod_lt_of_pos _ (by decide))
    dsimp! only [true_and]
    exact ⟨by decide,.str z,by rw [e,atI_map,z1]; rfl,hnx3 _ ⟨z,List.mem_of_getElem? z2,rfl⟩⟩
   rintro τ ⟨m,mem,rfl⟩
   refine v_cut (fun τ=>∃ b:Int,τ=[some (.val (rowsL u)),some (.val (rowsL l)),some (.val (.int b)),some (.own (dictD (rs.map prR))),some (.val (rowD r)),some (.val (.str m))]) ?_ fun nx3 hnx3=>?now
   case now =>
    dsimp! only [true_and]
    exact hnx3 _ ⟨_,rfl⟩
   clear b
   rintro τ ⟨b,rfl⟩
   have stay:∀ x y,nx2 [some (.val (rowsL u)),some (.val (rowsL l)),some (.val (.int b)),some (.own (dictD (rs.map prR))),x,y]:=fun x y=>hnx2 _ ⟨b,rs,x,y,⟨T.nd,T.nm,by lia,T.mt,T.rt⟩,rfl⟩
   refine v_if (fun b=>b=true→m≠tEmpty∧r.1≠[]) (fun Y y=>?test) (fun hyes=>?yes) fun _=>stay _ _
   case test =>
    dsimp! only [rowD,wayD]
    split
    ·rename_i hm
     refine ⟨cmpW _ [],depW _,y _ fun b=>⟨fun e=>?_,fun e=>?_⟩⟩
     ·rw [decide_eq_true (show m=Str.ofString "" from e)] at hm
      cases hm
     ·have e0:=eqW r.1 []
      rw [List.map_nil] at e0
      rw [e0,decide_eq_true e] at b
      cases b
    ·exact y _ fun z=>by cases z
   case yes =>
    obtain ⟨hm,hn⟩:=hyes rfl
    have mok:(m=mFile∨m=mLink)∨((m=mFolder∨m=mShut∨m=mGone)∧tEmpty=tEmpty):=by
     simp only [List.mem_cons,List.not_mem_nil,or_false] at mem
     rcases mem with q | q | q | q | q
     ·exact absurd q hm
     ·exact .inr ⟨.inl q,rfl⟩
     ·exact .inr ⟨.inr (.inl q),rfl⟩
     ·exact .inl (.inl q)
     ·exact .inr ⟨.inr (.inr q),rfl⟩
    dsimp! only [rowD,dictD,wayD]
    refine ⟨by decide,w14.ok.ne,by lia,?_⟩
    rw [putD_pairs]
    have e:=ins_up rs (r.1,m,tEmpty)
    have e':insP (rs.map prR) r.1 (.tup [.str m,.str (Str.ofString "")])=(upR rs (r.1,m,tEmpty)).map prR:=e
    rw [e']
    exact hnx2 _ ⟨b,upR rs (r.1,m,tEmpty),some (.val (rowD r)),_,T.up (r:=(r.1,m,tEmpty)) w14 mok (fun z=>absurd z hn),rfl⟩
  ·clear b
   rintro τ ⟨b,rs,x,y,T,rfl⟩
   exact hnx _ ⟨b,rs,x,y,⟨T.nd,T.nm,by have:=T.len; lia,T.mt,T.rt⟩,rfl⟩
 clear b
 rintro τ ⟨b,rs0,x,y,T0,rfl⟩
 refine v_cut (fun τ=>∃ (rs:List Row) (x y:Option R),ThF 150 rs∧τ=[some (.val (rowsL u)),some (.val (rowsL l)),some (.val (.int b)),some (.own (dictD (rs.map prR))),x,y]) ?_ fun nx hnx=>?now
 case now =>
  dsimp! only [rowsL]
  refine for_map (fun i τ=>∃ (rs:List Row) (x y:Option R),ThF (75+i) rs∧τ=[some (.val (rowsL u)),some (.val (rowsL l)),some (.val (.int b)),some (.own (dictD (rs.map prR))),x,y]) ⟨rs0,x,y,T0,rfl⟩ ?_ ?_
  ·rintro i r τ hr ⟨rs,x,y,T,rfl⟩ nx2 hnx2
   have mr:=List.mem_of_getElem? hr
   have hi:=(List.getElem?_eq_some_iff.mp hr).1
   have w14:=U.nm r mr
   have tl:=T.len
   dsimp! only [rowD,dictD,wayD]
   refine ⟨by decide,w14.ok.ne,by lia,?_⟩
   rw [putD_pairs]
   have e':insP (rs.map prR) r.1 (.tup [.str r.2.1,.str r.2.2])=(upR rs r).map prR:=ins_up rs r
   rw [e']
   exact hnx2 _ ⟨upR rs r,some (.val (rowD r)),_,T.up w14 (U.mt r mr) (U.rt r mr),rfl⟩
  ·rintro τ ⟨rs,x,y,T,rfl⟩
   exact hnx _ ⟨rs,x,y,⟨T.nd,T.nm,by have:=T.len; lia,T.mt,T.rt⟩,rfl⟩
 rintro τ ⟨rs,x',y',T,rfl⟩
 have td:∀ Y:R→Prop,(∀ p,PaneF 150 p→Y (.own (rowsL p)))→g_tidied [dictD (rs.map prR)] Y:=fun Y y=>⟨rs,rfl,T,y⟩
 dsimp! only [true_and]
 refine td _ fun p p1=>?_
 dsimp! only [true_and]
 exact h p p1
noncomputable def b_tree_under:TVS:=(vSeq (vSetO 3 vDNewT)
 (vSeq (vFor (vItems (vF1 vSortedW (vVar 0))) (vgName 4)
  (vSeq (vSet 5 (vSlice (vVar 4) vNoPart (vPart (vNeg (vC (.int 1))))))
 (vSeq (vSet 6 (vOrE (vOp vEq (vVar 5) (vTup vNil)) (vAndE (vDIn id (vVar 5) (vVar 3)) (vOp vEq (vOp vIxR (vDGet (vVar 3) (vVar 5)) (vC (.int 0))) (vC (.str ("folder" : Str)))))))
 (vIfS (vAndT (vBl (vOp vNeD (vVar 4) (vTup vNil))) (vBl (vVar 6)))
  (vSeq (vDPut 3 (vVar 4) (vTup (vCons (vC (.str ("folder" : Str))) (vCons (vC (.str ("" : Str))) vNil))))
 (vSeq (vIfS (vBl (vOp vEq (vOp vMod (vVar 1) (vC (.int 4))) (vC (.int 1))))
  (vDPut 3 (vVar 4) (vTup (vCons (vC (.str ("file" : Str))) (vCons (vC (.str ("low" : Str))) vNil))))
  vNext)
 (vSet 1 (vOp vDiv (vVar 1) (vC (.int 4))))))
  vNext))))
 (vSeq (vFor (vItems (vF1 vListD (vVar 3))) (vgName 4)
  (vIfS (vAndT (vBl (vOp vEq (vOp vIxR (vDGet (vVar 3) (vVar 4)) (vC (.int 0))) (vC (.str ("folder" : Str))))) (vBl (vDIn (!·) (vOp vAdd (vVar 4) (vTup (vCons (vVar 2) vNil))) (vVar 3))))
  (vDPut 3 (vOp vAdd (vVar 4) (vTup (vCons (vVar 2) vNil))) (vTup (vCons (vC (.str ("file" : Str))) (vCons (vC (.str ("lower" : Str))) vNil))))
  vNext))
 (vSeq (vIfS (vBl (vDIn (!·) (vTup (vCons (vVar 2) vNil)) (vVar 3)))
  (vDPut 3 (vTup (vCons (vVar 2) vNil)) (vTup (vCons (vC (.str ("file" : Str))) (vCons (vC (.str ("lowest" : Str))) vNil))))
  vNext)
 (vRet (vComp (vItems (vF1 vSorted (vF1 vListD (vVar 3)))) (vgName 7) (fun _ Q=>Q true) (vOp vAdd (vTup (vCons (vVar 7) vNil)) (vDGet (vVar 3) (vVar 7))) 1))))))
noncomputable abbrev N_tree_under:List Str:=["_law_ways","_law_big_here","_law_name","_law_things","_law_way","_law_over_here","_law_held"]
theorem w_tree_under:∀ ds Q,g_tree_under ds Q→b_tree_under (En Q) (startD N_tree_under ds):=by
 rintro ds Q ⟨ws,b,z,rfl,w14,wl,⟨z1,z2⟩,h⟩
 have s1000:=line10000
 refine v_cut (fun τ=>τ=[some (.val (.lst (ws.map wayD))),some (.val (.int b)),some (.val (.str z)),some (.own (dictD (([]:List Row).map prR))),none,none,none]) ?_ fun nx hnx=>?now
 case now =>
  dsimp! only [true_and]
  exact hnx _ rfl
 rintro τ rfl
 refine v_cut (fun τ=>∃ (b:Int) (rs:List Row) (x y w:Option R),(UI 225 rs∧∀ r∈rs,Wy14 r.1)∧τ=[some (.val (.lst (ws.map wayD))),some (.val (.int b)),some (.val (.str z)),some (.own (dictD (rs.map prR))),x,y,w]) ?_ fun nx hnx=>?now
 case now =>
  dsimp! only [true_and]
  refine ⟨sortW_ways ws,fun ds' hp hs=>?_⟩
  obtain ⟨vs,rfl,hv,hso⟩:=ways_backW hp hs
  have vl:vs.length≤225:=by rw [hv.length_eq]; exact wl
  refine for_map (fun i τ=>∃ (b:Int) (rs:List Row) (x y w:Option R),(UI i rs∧(∀ r∈rs,Wy14 r.1)∧∀ r∈rs,r.1∈vs.take i)∧τ=[some (.val (.lst (ws.map wayD))),some (.val (.int b)),some (.val (.str z)),some (.own (dictD (rs.map prR))),x,y,w]) ⟨b,[],none,none,none,⟨.nil,(fun r hr=>by cases hr),(fun r hr=>by cases hr)⟩,rfl⟩ ?_ ?_
  ·clear b
   rintro i w τ hw ⟨b,rs,x,y,u,⟨UU,R14,RT⟩,rfl⟩ nx2 hnx2
   have mw:=List.mem_of_getElem? hw
   have hi:=(List.getElem?_eq_some_iff.mp hw).1
   have et:vs.take (i+1)=vs.take i++[w]:=by rw [List.take_succ,hw]; rfl
   have wy14:=w14 w (hv.mem_iff.mp mw)
   have wy:=wy14.ok
   have ul:=UU.len
   have nc:∀ q∈rs,q.1.dropLast≠w:=fun q hq e=>by
    have m:=RT q hq
    obtain ⟨j,hj,ej⟩:=List.mem_iff_getElem.mp m
    rw [List.length_take] at hj
    rw [List.getElem_take] at ej
    have a:=List.pairwise_iff_getElem.mp hso j i (by lia) hi (by lia)
    rw [ej,(List.getElem?_eq_some_iff.mp hw).2] at a
    have b:=ltW_drop (UU.cl q hq).1
    rw [e,a] at b
    cases b
   refine v_cut (fun τ=>τ=[some (.val (.lst (ws.map wayD))),some (.val (.int b)),some (.val (.str z)),some (.own (dictD (rs.map prR))),some (.val (wayD w)),some (.val (wayD w.dropLast)),u]) ?_ fun nx3 hnx3=>?now
   case now =>
    dsimp! only [wayD,cutL_last]
    exact hnx3 _ rfl
   rintro τ rfl
   refine v_cut (fun τ=>∃ hd:Bool,(hd=true→w.dropLast=[]∨∃ q∈rs,q.1=w.dropLast∧q.2.1=mFolder)∧τ=[some (.val (.lst (ws.map wayD))),some (.val (.int b)),some (.val (.str z)),some (.own (dictD (rs.map prR))),some (.val (wayD w)),some (.val (wayD w.dropLast)),some (.val (.bl hd))]) ?_ fun nx3 hnx3=>?now
   case now =>
    have lk:=row_lk rs w.dropLast
    dsimp! only [dictD,wayD]
    refine ⟨cmpW _ [],depW _,?_⟩
    have e0:=eqW w.dropLast []
    rw [List.map_nil] at e0
    simp only [e0]
    by_cases q0:w.dropLast=[]
    ·rw [decide_eq_true q0]
     exact iteT (hnx3 _ ⟨true,fun _=>.inl q0,rfl⟩)
    ·rw [decide_eq_false q0]
     refine iteF ⟨wy.drop.ne,?_⟩
     rw [lk]
     cases hk:rowAt rs w.dropLast with
     | none=>exact iteF (hnx3 _ ⟨false,(fun z=>by cases z),rfl⟩)
     | some x =>
      refine iteT ⟨wy.drop.ne,thD x,rfl,?_⟩
      dsimp! only [thD]
      exact hnx3 _ ⟨_,fun z=>.inr ⟨(w.dropLast,x),(rowAt_mem UU.nd).mp hk,rfl,of_decide_eq_true z⟩,rfl⟩
   rintro τ ⟨hd,hhd,rfl⟩
   refine v_if (fun c=>c=true→w≠[]∧hd=true) (fun Y y=>?test) (fun hyes=>?yes) fun _=>hnx2 _ ⟨b,rs,_,_,_,⟨UU.more (by lia),R14,fun r hr=>by rw [et]; exact List.mem_append_left _ (RT r hr)⟩,rfl⟩
   case test =>
    dsimp! only [wayD]
    refine ⟨cmpW _ [],depW _,?_⟩
    have e0:=eqW w []
    rw [List.map_nil] at e0
    simp only [e0]
    by_cases q:w=[]
    ·rw [decide_eq_true q]
     exact y _ fun z=>by cases z
    ·rw [decide_eq_false q]
     exact y _ fun z=>⟨q,z⟩
   case yes =>
    obtain ⟨w0,hd'⟩:=hyes rfl
    have hc:=hhd hd'
    have fin:∀ (rs':List Row),UI (i+1) rs'→(∀ r∈rs',r∈rs∨r.1=w)→∀ b,nx2 [some (.val (.lst (ws.map wayD))),some (.val (.int b)),some (.val (.str z)),some (.own (dictD (rs'.map prR))),some (.val (wayD w)),some (.val (wayD w.dropLast)),some (.val (.bl hd))]:=fun rs' U' S' b=>hnx2 _ ⟨b,rs',_,_,_,⟨U',fun r hr=>by
     rcases S' r hr with hr | hr
     ·exact R14 r hr
     ·rw [hr]; exact wy14,fun r hr=>by
     rw [et]
     rcases S' r hr with hr | hr
     ·exact List.mem_append_left _ (RT r hr)
     ·rw [hr]; exact List.mem_append_right _ (List.mem_singleton.mpr rfl)⟩,rfl⟩
    have l15:w.length≤15:=by have:=wy14.1; lia
    have ul1:=up_len rs (w,mFolder,tEmpty)
    have U1:UI (i+1) (upR rs (w,mFolder,tEmpty)):=UU.up (r:=(w,mFolder,tEmpty)) wy l15 (.inl rfl) ⟨w0,hc⟩ nc (by lia)
    have S1:∀ r∈upR rs (w,mFolder,tEmpty),r∈rs∨r.1=w:=fun r hr=>(up_mem hr).imp id fun e=>by rw [e]
    have in1:w∈(upR rs (w,mFolder,tEmpty)).map (·.1):=List.mem_map.mpr ⟨_,up_self rs _,rfl⟩
    have nc1:∀ q∈upR rs (w,mFolder,tEmpty),q.1.dropLast≠w:=fun q hq=>by
     rcases up_mem hq with hq | hq
     ·exact nc q hq
     ·rw [hq]
      intro e
      have:=congrArg List.length e
      rw [List.length_dropLast] at this
      have:=List.length_pos_iff.mpr w0
      have e':(w,mFolder,tEmpty).1.length=w.length:=rfl
      lia
    have hc1:w.dropLast=[]∨∃ q∈upR rs (w,mFolder,tEmpty),q.1=w.dropLast∧q.2.1=mFolder:=hc.imp id fun ⟨q,mq,eq,fq⟩=>⟨q,up_in mq fun e=>by
     have:=congrArg List.length (eq.symm.trans e)
     rw [List.length_dropLast] at this
     have:=List.length_pos_iff.mpr w0
     have e':(w,mFolder,tEmpty).1.length=w.length:=rfl
     lia,eq,fq⟩
    have U2:UI (i+1) (upR (upR rs (w,mFolder,tEmpty)) (w,mFile,Str.ofString "low")):=U1.up (r:=(w,mFile,Str.ofString "low")) wy l15 (.inr rfl) ⟨w0,hc1⟩ nc1 (by rw [up_len_in (r:=(w,mFile,Str.ofString "low")) in1]; lia)
    have S2:∀ r∈upR (upR rs (w,mFolder,tEmpty)) (w,mFile,Str.ofString "low"),r∈rs∨r.1=w:=fun r hr=>(up_mem hr).elim (S1 r) fun e=>.inr (by rw [e])
    refine v_cut (fun τ=>τ=[some (.val (.lst (ws.map wayD))),some (.val (.int b)),some (.val (.str z)),some (.own (dictD ((upR rs (w,mFolder,tEmpty)).map prR))),some (.val (wayD w)),some (.val (wayD w.dropLast)),some (.val (.bl hd))]) ?_ fun nx3 hnx3=>?now
    case now =>
     dsimp! only [dictD,wayD]
     refine ⟨by decide,wy.ne,by lia,?_⟩
     rw [putD_pairs]
     have e:=ins_up rs (w,mFolder,tEmpty)
     rw [show insP (rs.map prR) w (.tup [.str (Str.ofString "folder"),.str (Str.ofString "")])=_ from e]
     exact hnx3 _ rfl
    rintro τ rfl
    refine v_cut (fun τ=>∃ rs':List Row,(UI (i+1) rs'∧∀ r∈rs',r∈rs∨r.1=w)∧τ=[some (.val (.lst (ws.map wayD))),some (.val (.int b)),some (.val (.str z)),some (.own (dictD (rs'.map prR))),some (.val (wayD w)),some (.val (wayD w.dropLast)),some (.val (.bl hd))]) ?_ fun nx3 hnx3=>?now
    case now =>
     dsimp! only [dictD,wayD]
     split
     ·refine ⟨by decide,wy.ne,by lia,?_⟩
      rw [putD_pairs]
      have e:=ins_up (upR rs (w,mFolder,tEmpty)) (w,mFile,Str.ofString "low")
      rw [show insP ((upR rs (w,mFolder,tEmpty)).map prR) w (.tup [.str (Str.ofString "file"),.str (Str.ofString "low")])=_ from e]
      exact hnx3 _ ⟨_,⟨U2,S2⟩,rfl⟩
     ·exact hnx3 _ ⟨_,⟨U1,S1⟩,rfl⟩
    rintro τ ⟨rs',⟨U',S'⟩,rfl⟩
    dsimp! only [true_and]
    exact fin rs' U' S' _
  ·clear b
   rintro τ ⟨b,rs,x,y,u,⟨UU,R14,RT⟩,rfl⟩
   exact hnx _ ⟨b,rs,x,y,u,⟨UU.more vl,R14⟩,rfl⟩
 clear b
 rintro τ ⟨b,rs0,x,y,u,⟨U0,R14⟩,rfl⟩
 refine v_cut (fun τ=>∃ (rs:List Row) (x:Option R),UI 450 rs∧τ=[some (.val (.lst (ws.map wayD))),some (.val (.int b)),some (.val (.str z)),some (.own (dictD (rs.map prR))),x,y,u]) ?_ fun nx hnx=>?now
 case now =>
  have l0:=U0.len
  dsimp! only [dictD]
  have ek:(((rs0.map prR).map (·.1)).map fun w=>D.tup (w.map D.str))=(rs0.map fun r=>wayD r.1):=by
   rw [List.map_map,List.map_map]
   rfl
  rw [ek]
  refine for_map (fun i τ=>∃ (rs:List Row) (x:Option R),(UI (225+i) rs∧∀ r∈rs0,r∈rs)∧τ=[some (.val (.lst (ws.map wayD))),some (.val (.int b)),some (.val (.str z)),some (.own (dictD (rs.map prR))),x,y,u]) ⟨rs0,x,⟨U0,fun r hr=>hr⟩,rfl⟩ ?_ ?_
  ·rintro i r τ hr ⟨rs,x,⟨UU,S0⟩,rfl⟩ nx2 hnx2
   have mr:=List.mem_of_getElem? hr
   have hi:=(List.getElem?_eq_some_iff.mp hr).1
   have ul:=UU.len
   have wy14:=R14 r mr
   have wy:=wy14.ok
   have wyz:WyOk (r.1++[z]):=⟨by rw [List.length_append]; have:=wy14.1; show _+1≤_; lia,fun a ha=>by
    rcases List.mem_append.mp ha with ha | ha
    ·exact wy14.2 a ha
    ·rw [List.mem_singleton.mp ha]; exact ⟨z1,z2⟩⟩
   have lr:rowAt rs r.1=some r.2:=(rowAt_mem UU.nd).mpr (S0 r mr)
   have stay:nx2 [some (.val (.lst (ws.map wayD))),some (.val (.int b)),some (.val (.str z)),some (.own (dictD (rs.map prR))),some (.val (wayD r.1)),y,u]:=hnx2 _ ⟨rs,_,⟨UU.more (by lia),S0⟩,rfl⟩
   refine v_if (fun c=>c=true→r.2.1=mFolder∧r.1++[z]∉rs.map (·.1)) (fun Y y=>?test) (fun hyes=>?yes) fun _=>stay
   case test =>
    have lk:=row_lk rs r.1
    have lz:=row_lk rs (r.1++[z])
    dsimp! only [dictD,wayD]
    rw [lk,lr]
    refine ⟨wy.ne,_,rfl,?_⟩
    dsimp! only [thD]
    by_cases q:r.2.1=mFolder
    ·rw [decide_eq_true (show r.2.1=Str.ofString "folder" from q)]
     refine iteT ⟨by decide,by have:=wy.1; lia,wyz.ne,?_⟩
     rw [lz]
     refine y _ fun e=>⟨q,rowAt_none.mp ?_⟩
     cases hz:rowAt rs (r.1++[z]) with
     | none=>rfl
     | some x=>rw [hz] at e; cases e
    ·rw [decide_eq_false (show ¬ r.2.1=Str.ofString "folder" from q)]
     exact iteF (y _ fun e=>by cases e)
   case yes =>
    obtain ⟨hf,nw⟩:=hyes rfl
    dsimp! only [dictD,wayD]
    refine ⟨by decide,by decide,by have:=wy.1; lia,wyz.ne,by lia,?_⟩
    rw [putD_pairs]
    have e:=ins_new nw mFile (Str.ofString "lower")
    rw [show insP (rs.map prR) (r.1++[z]) (.tup [.str (Str.ofString "file"),.str (Str.ofString "lower")])=_ from e]
    refine hnx2 _ ⟨rs++[(r.1++[z],mFile,Str.ofString "lower")],some (.val (wayD r.1)),⟨UU.put (r:=(r.1++[z],mFile,Str.ofString "lower")) nw wyz (by show (r.1++[z]).length≤15; rw [List.length_append]; have:=wy14.1; show _+1≤_; lia) (.inr rfl) ⟨by simp,.inr ⟨r,S0 r mr,?_,hf⟩⟩,fun q hq=>List.mem_append_left _ (S0 q hq)⟩,rfl⟩
    show r.1=(r.1++[z]).dropLast
    rw [List.dropLast_concat]
  ·rintro τ ⟨rs,x,⟨UU,S0⟩,rfl⟩
   exact hnx _ ⟨rs,x,UU.more (by lia),rfl⟩
 rintro τ ⟨rs1,x',U1,rfl⟩
 refine v_cut (fun τ=>∃ (rs:List Row),UI 451 rs∧τ=[some (.val (.lst (ws.map wayD))),some (.val (.int b)),some (.val (.str z)),some (.own (dictD (rs.map prR))),x',y,u]) ?_ fun nx hnx=>?now
 case now =>
  have lz:=row_lk rs1 [z]
  have wyz:WyOk [z]:=⟨by simp,fun a ha=>by rw [List.mem_singleton.mp ha]; exact ⟨z1,z2⟩⟩
  have ul:=U1.len
  dsimp! only [dictD,wayD]
  refine ⟨by decide,[z],rfl,wyz.ne,?_⟩
  rw [lz]
  cases hz:rowAt rs1 [z] with
  | some x=>exact hnx _ ⟨rs1,U1.more (by decide),rfl⟩
  | none =>
   have nw:=rowAt_none.mp hz
   refine iteT ⟨by decide,by decide,[z],rfl,wyz.ne,by lia,?_⟩
   rw [putD_pairs]
   have e:=ins_new nw mFile (Str.ofString "lowest")
   rw [show insP (rs1.map prR) [z] (.tup [.str (Str.ofString "file"),.str (Str.ofString "lowest")])=_ from e]
   exact hnx _ ⟨rs1++[([z],mFile,Str.ofString "lowest")],U1.put (r:=([z],mFile,Str.ofString "lowest")) nw wyz (by show [z].length≤15; simp) (.inr rfl) ⟨by simp,.inl rfl⟩,rfl⟩
 rintro τ ⟨rs,UU,rfl⟩
 have hlen:=UU.len
 simp! only [vSeq,dictD]
 have ek:(((rs.map prR).map (·.1)).map fun w=>D.tup (w.map D.str))=(rs.map (·.1)).map wayD:=by
  rw [List.map_map,List.map_map,List.map_map]
  rfl
 rw [ek]
 refine ⟨sortD_ways UU.nd,fun ds' hp hs=>?_⟩
 obtain ⟨vs,rfl,hv,hso⟩:=ways_back hp hs
 have hvl:vs.length=rs.length:=by rw [hv.length_eq,List.length_map]
 refine comp_map (fun w=>rowD (w,lkR rs w)) vs (by lia) (fun w mw Y N hY=>?_) ?_
 ·have mw':=hv.mem_iff.mp mw
  simp! only [vSeq,wayD]
  have wk:("" : Str)∉w:=by
   obtain ⟨r,mr,er⟩:=List.mem_map.mp mw'
   rw [← er]; exact (UU.nm r mr).ne
  exact ⟨by decide,wk,thD (lkR rs w),by rw [lkD_pairs]; exact lkP_lkR UU.nd mw',by show 3≤sizeLine; decide,hY⟩
 ·simp! only [vSeq,true_and]
  have e:vs.map (fun w=>rowD (w,lkR rs w))=(vs.map fun w=>(w,lkR rs w)).map rowD:=by rw [List.map_map]; rfl
  rw [e]
  obtain ⟨p1,p2⟩:=rows_of_ways UU.nd hv hso
  refine h _ ⟨p2,fun r hr=>?_,fun r hr=>UU.nm r (p1.mem_iff.mp hr),fun r hr=>UU.l15 r (p1.mem_iff.mp hr),fun r hr=>?_,by rw [p1.length_eq]; lia⟩
  ·obtain ⟨a1,a2⟩:=UU.cl r (p1.mem_iff.mp hr)
   exact ⟨a1,a2.imp id fun ⟨q,mq,x⟩=>⟨q,p1.mem_iff.mpr mq,x⟩⟩
  ·exact (UU.mkd r (p1.mem_iff.mp hr)).imp id fun z=>.inl z
noncomputable def b_above:TVS:=(vRet (vSlice (vVar 0) vNoPart (vPart (vNeg (vC (.int 1))))))
noncomputable abbrev N_above:List Str:=["way"]
theorem w_above:∀ ds Q,g_above ds Q→b_above (En Q) (startD N_above ds):=by
 rintro ds Q ⟨w,rfl,h⟩
 simp! only [vSeq,b_above,wayD]
 rw [cutL_last]
 exact h
noncomputable def b_in_order:TVS:=(vRet (vF1 vSorted (vVar 0)))
noncomputable abbrev N_in_order:List Str:=["entries"]
theorem w_in_order:∀ ds Q,g_in_order ds Q→b_in_order (En Q) (startD N_in_order ds):=by
 rintro ds Q ⟨rs,rfl,nd,h⟩
 simp! only [vSeq,b_in_order,rowsL]
 refine ⟨sortD_rows nd,fun ds hp hs=>?_⟩
 obtain ⟨ts,rfl,p1,p2⟩:=rows_back nd hp hs
 exact h ts p1 p2
noncomputable def b_marks_of:TVS:=(vSeq (vSetO 1 vDNewT)
 (vSeq (vFor (vItems (vVar 0)) (vgTup 3 (vgCons (vgName 2) (vgCons (vgName 3) (vgCons (vgName 4) vgNil))))
  (vDPut 1 (vVar 2) (vVar 3)))
 (vRetO 1)))
noncomputable abbrev N_marks_of:List Str:=["pane","marks","way","mark","text"]
theorem w_marks_of:∀ ds Q,g_marks_of ds Q→b_marks_of (En Q) (startD N_marks_of ds):=by
 rintro ds Q ⟨p,rfl,nd,nm,hl,h⟩
 simp! only [vSeq,b_marks_of,rowsL]
 refine for_map (fun i τ=>∃ (a b c:Option R),τ=[some (.val (.lst (p.map rowD))),some (.own (dictD ((p.take i).map prM))),a,b,c]) ⟨none,none,none,rfl⟩ ?_ ?_
 ·rintro i r τ hr ⟨a,b,c,rfl⟩ nx hnx
  have mr:=List.mem_of_getElem? hr
  have hi:=(List.getElem?_eq_some_iff.mp hr).1
  simp! only [vSeq,rowD,dictD,wayD]
  refine ⟨(nm r mr).ok.ne,?_,?_⟩
  ·rw [List.length_take]
   exact Nat.lt_of_lt_of_le (show _ < 1000 by omega) line1000
  ·rw [putD_pairs]
   have ni:¬ r.1∈((p.take i).map prM).map (·.1):=by
    rw [ways_mk]
    exact take_new nd hr
   have e:insP ((p.take i).map prM) r.1 (.str r.2.1)=(p.take (i+1)).map prM:=by
    unfold insP
    rw [if_neg ni,List.take_succ,hr,List.map_append]
    rfl
   rw [e]
   exact hnx _ ⟨_,_,_,rfl⟩
 ·rintro τ ⟨a,b,c,rfl⟩
  simp! only [vSeq,true_and]
  rw [List.take_length]
  exact h
noncomputable def b_hides:TVS:=(vRet (vAndE (vOp (vIsN (!·)) (vVar 0) (vC .non)) (vOp vNeD (vVar 0) (vC (.str ("folder" : Str))))))
noncomputable abbrev N_hides:List Str:=["mark"]
theorem w_hides:∀ ds Q,g_hides ds Q→b_hides (En Q) (startD N_hides ds):=by
 rintro ds Q ⟨o,rfl,h⟩
 cases o with
 | none =>
  simp! only [vSeq,b_hides,Option.map_none,Option.getD_none]
  exact h
 | some m =>
  simp! only [vSeq,b_hides,Option.map_some,Option.getD_some]
  exact h
noncomputable def b_hidden_ways:TVS:=(vSeq (vSet 2 (vCallN g_marks_of (vCons (vVar 0) vNil)))
 (vSeq (vSetO 3 vDNewT)
 (vSeq (vFor (vItems (vVar 1)) (vgTup 3 (vgCons (vgName 4) (vgCons (vgName 5) (vgCons (vgName 6) vgNil))))
  (vIfS (vAndT (vBl (vOp vNeD (vVar 4) (vTup vNil))) (vOrT (vBl (vDIn id (vCallN g_above (vCons (vVar 4) vNil)) (vVar 3))) (vBl (vCallN g_hides (vCons (vDGet1 (vVar 2) (vCallN g_above (vCons (vVar 4) vNil))) vNil)))))
  (vDPut 3 (vVar 4) (vC (.bl true)))
  vNext))
 (vRetO 3))))
noncomputable abbrev N_hidden_ways:List Str:=["pane","entries","marks","hidden","way","mark","text"]
theorem w_hidden_ways:∀ ds Q,g_hidden_ways ds Q→b_hidden_ways (En Q) (startD N_hidden_ways ds):=by
 rintro ds Q ⟨p,tr,rfl,nd,nm,hl,T,tm,tl,h⟩
 refine v_seq ?_
 dsimp! only [b_hidden_ways]
 refine ⟨p,rfl,nd,nm,hl,?_⟩
 dsimp! only [true_and]
 refine v_seq ?_
 dsimp! only [true_and]
 refine v_seq ?_
 dsimp! only [rowsL]
 refine for_map (fun i τ=>∃ (a b c:Option R),τ=[some (.val (.lst (p.map rowD))),some (.val (.lst (tr.map rowD))),some (.val (dictD (p.map prM))),some (.own (dictD ((hidW p (tr.take i)).map fun w=>(w,.bl true)))),a,b,c]) ⟨none,none,none,rfl⟩ ?_ ?_
 ·rintro i r τ hr ⟨a,b,c,rfl⟩ nx hnx
  have mr:=List.mem_of_getElem? hr
  have hi:=(List.getElem?_eq_some_iff.mp hr).1
  have wy:=(tm r mr).ok
  have hh:=fun h0:r.1≠[]=>hid_above (p:=p) T hr h0
  have hL:(hidW p (tr.take i)).length≤200:=by
   unfold hidW
   rw [List.length_map]
   have:=List.length_filter_le (fun r:Row=>hidBy p r.1) (tr.take i)
   rw [List.length_take] at this
   omega
  have et:tr.take (i+1)=tr.take i++[r]:=by rw [List.take_succ,hr]; rfl
  have ab:∀ Y:R→Prop,Y (.val (wayD r.1.dropLast))→g_above [wayD r.1] Y:=fun Y y=>⟨r.1,rfl,y⟩
  have hd:∀ (o:Option Str) (Y:R→Prop),Y (.val (.bl (hidesO o)))→g_hides [(o.map D.str).getD .non] Y:=fun o Y y=>⟨o,rfl,y⟩
  have stay:hidBy p r.1=false→nx [some (.val (.lst (p.map rowD))),some (.val (.lst (tr.map rowD))),some (.val (dictD (p.map prM))),some (.own (dictD ((hidW p (tr.take i)).map fun w=>(w,.bl true)))),some (.val (wayD r.1)),some (.val (.str r.2.1)),some (.val (.str r.2.2))]:=fun q=>hnx _ ⟨_,_,_,by
   have:hidW p (tr.take (i+1))=hidW p (tr.take i):=by
    unfold hidW
    rw [et,List.filter_append]
    simp [q]
   rw [this]⟩
  have put:hidBy p r.1=true→nx [some (.val (.lst (p.map rowD))),some (.val (.lst (tr.map rowD))),some (.val (dictD (p.map prM))),some (.own (dictD ((hidW p (tr.take i)++[r.1]).map fun w=>(w,.bl true)))),some (.val (wayD r.1)),some (.val (.str r.2.1)),some (.val (.str r.2.2))]:=fun q=>hnx _ ⟨_,_,_,by
   have:hidW p (tr.take (i+1))=hidW p (tr.take i)++[r.1]:=by
    unfold hidW
    rw [et,List.filter_append]
    simp [q]
   rw [this]⟩
  have nin:r.1∉hidW p (tr.take i):=fun m=>by
   unfold hidW at m
   obtain ⟨q,mq,eq⟩:=List.mem_map.mp m
   exact take_new (rsorted_nd T.so) hr (List.mem_map.mpr ⟨q,(List.mem_filter.mp mq).1,eq⟩)
  dsimp! only [rowD,wayD]
  refine ⟨cmpW _ [],depW _,?_⟩
  have e0:eqD (.tup (r.1.map D.str)) (.tup [])=decide (r.1=[]):=eqW r.1 []
  rw [e0]
  by_cases h0:r.1=[]
  ·rw [decide_eq_true h0]
   exact iteF (stay (by rw [h0]; rfl))
  rw [decide_eq_false h0]
  refine iteT (ab _ ?_)
  dsimp! only [dictD,wayD]
  refine ⟨wy.drop.ne,?_⟩
  have lk1:(lkD (((hidW p (tr.take i)).map fun w=>(w,D.bl true)).map (·.1)) (((hidW p (tr.take i)).map fun w=>(w,D.bl true)).map (·.2)) r.1.dropLast).isSome=decide (r.1.dropLast∈hidW p (tr.take i)):=by
   rw [lkD_pairs,lkP_one]
   by_cases m:r.1.dropLast∈hidW p (tr.take i)
   ·rw [if_pos m,decide_eq_true m]; rfl
   ·rw [if_neg m,decide_eq_false m]; rfl
  have ins:insP ((hidW p (tr.take i)).map fun w=>(w,D.bl true)) r.1 (.bl true)=(hidW p (tr.take i)++[r.1]).map fun w=>(w,D.bl true):=by
   unfold insP
   rw [if_neg (by rw [List.map_map]; exact fun m=>nin (by simpa using m)),List.map_append]
   rfl
  have big:1000 < sizeLine:=by decide
  have yes:hidBy p r.1=true→("" : Str)∉r.1∧(hidW p (tr.take i)).length < sizeLine∧nx [some (.val (.lst (p.map rowD))),some (.val (.lst (tr.map rowD))),some (.val (.dT ((p.map prM).map (·.1)) ((p.map prM).map (·.2)))),some (.own (putD (((hidW p (tr.take i)).map fun w=>(w,D.bl true)).map (·.1)) (((hidW p (tr.take i)).map fun w=>(w,D.bl true)).map (·.2)) r.1 (.bl true))),some (.val (.tup (r.1.map D.str))),some (.val (.str r.2.1)),some (.val (.str r.2.2))]:=fun q=>⟨wy.ne,by omega,by
   rw [putD_pairs,ins]
   exact put q⟩
  by_cases m:r.1.dropLast∈hidW p (tr.take i)
  ·rw [lk1,decide_eq_true m]
   exact iteT (yes (by rw [← hh h0,decide_eq_true m]; rfl))
  ·rw [lk1,decide_eq_false m]
   have hh2:=hh h0
   rw [decide_eq_false m,Bool.false_or] at hh2
   refine iteF (ab _ ?_)
   dsimp! only [wayD]
   refine ⟨wy.drop.ne,?_⟩
   rw [lkD_pairs,lkP_mk]
   refine hd _ _ ?_
   dsimp! only [true_and]
   rw [hh2]
   cases q:hidBy p r.1 with
   | true=>exact iteT (yes q)
   | false=>exact iteF (stay q)
 ·rintro τ ⟨a,b,c,rfl⟩
  simp! only [vSeq,true_and]
  rw [List.take_length]
  exact h
noncomputable def b_left_alone:TVS:=(vSeq (vSet 2 (vCallN g_marks_of (vCons (vVar 0) vNil)))
 (vSeq (vSet 3 (vCallN g_hidden_ways (vCons (vVar 0) (vCons (vVar 1) vNil))))
 (vRet (vComp (vItems (vVar 1)) (vgName 4) (vAndT (vBl (vDIn (!·) (vOp vIxR (vVar 4) (vC (.int 0))) (vVar 2))) (vBl (vDIn (!·) (vOp vIxR (vVar 4) (vC (.int 0))) (vVar 3)))) (vVar 4) 1))))
noncomputable abbrev N_left_alone:List Str:=["pane","entries","marks","hidden"]
theorem w_left_alone:∀ ds Q,g_left_alone ds Q→b_left_alone (En Q) (startD N_left_alone ds):=by
 rintro ds Q ⟨p,tr,rfl,nd,nm,hl,T,tm,tl,h⟩
 refine v_seq ?_
 dsimp! only [b_left_alone]
 refine ⟨p,rfl,nd,nm,hl,?_⟩
 dsimp! only [true_and]
 refine v_seq ?_
 dsimp! only [true_and]
 refine ⟨p,tr,rfl,nd,nm,hl,T,tm,tl,?_⟩
 dsimp! only [rowsL]
 refine comp_filter (fun r=>rowD r) (fun r=>!inR p r.1 && !hidBy p r.1) tr (Nat.le_trans (show _≤1000 by omega) line1000) (fun r hr Y N y1 y2=>?_) ?_
 ·have wy:=(tm r hr).ok
  have hm:=hid_mem (p:=p) (List.mem_map.mpr ⟨r,hr,rfl⟩:r.1∈tr.map (·.1))
  dsimp! only [rowD,dictD,wayD]
  have l1:(lkD ((p.map prM).map (·.1)) ((p.map prM).map (·.2)) r.1).isSome=inR p r.1:=by
   rw [lkD_pairs,lkP_mk,Option.isSome_map,markR_in]
  have l2:(lkD (((hidW p tr).map fun w=>(w,D.bl true)).map (·.1)) (((hidW p tr).map fun w=>(w,D.bl true)).map (·.2)) r.1).isSome=hidBy p r.1:=by
   rw [lkD_pairs,lkP_one,← hm]
   by_cases m:r.1∈hidW p tr
   ·rw [if_pos m,decide_eq_true m]; rfl
   ·rw [if_neg m,decide_eq_false m]; rfl
  rw [l1,l2]
  refine ⟨wy.ne,?_⟩
  cases q1:inR p r.1 with
  | true=>exact iteF (y2 (by rw [q1]; rfl))
  | false =>
   refine iteT ⟨wy.ne,?_⟩
   cases q2:hidBy p r.1 with
   | true=>exact iteF (y2 (by rw [q1,q2]; rfl))
   | false=>exact iteT (y1 (by rw [q1,q2]; rfl))
 ·simp! only [vSeq,true_and]
  exact h
noncomputable def b_pressed_mark:TVS:=(vSeq (vIfS (vAndT (vBl (vVar 1)) (vBl (vOp vEq (vVar 0) (vC (.str ("gone" : Str))))))
  (vRet (vC .non))
  vNext)
 (vSeq (vIfS (vAndT (vBl (vVar 1)) (vBl (vOp vEq (vVar 0) (vC (.str ("shut" : Str))))))
  (vRet (vC (.str ("folder" : Str))))
  vNext)
 (vSeq (vIfS (vAndT (vNotT (vBl (vVar 1))) (vAndT (vBl (vVar 2)) (vBl (vOp vEq (vVar 0) (vC (.str ("folder" : Str)))))))
  (vRet (vC (.str ("shut" : Str))))
  vNext)
 (vRet (vVar 0)))))
noncomputable abbrev N_pressed_mark:List Str:=["mark","bare","closing"]
theorem w_pressed_mark:∀ ds Q,g_pressed_mark ds Q→b_pressed_mark (En Q) (startD N_pressed_mark ds):=by
 rintro ds Q ⟨m,b,c,rfl,h⟩
 have k1:(b && decide (m=mGone))=true→Q (.val .non):=fun q=>by
  unfold pmark at h
  rw [if_pos q] at h
  exact h
 have k2:(b && decide (m=mGone))=false→(b && decide (m=mShut))=true→Q (.val (.str mFolder)):=fun q1 q=>by
  unfold pmark at h
  rw [if_neg (by rw [q1]; exact Bool.false_ne_true),if_pos q] at h
  exact h
 have k3:(b && decide (m=mGone))=false→(b && decide (m=mShut))=false→(!b && c && decide (m=mFolder))=true→Q (.val (.str mShut)):=fun q1 q2 q=>by
  unfold pmark at h
  rw [if_neg (by rw [q1]; exact Bool.false_ne_true),if_neg (by rw [q2]; exact Bool.false_ne_true),if_pos q] at h
  exact h
 have k4:(b && decide (m=mGone))=false→(b && decide (m=mShut))=false→(!b && c && decide (m=mFolder))=false→Q (.val (.str m)):=fun q1 q2 q=>by
  unfold pmark at h
  rw [if_neg (by rw [q1]; exact Bool.false_ne_true),if_neg (by rw [q2]; exact Bool.false_ne_true),if_neg (by rw [q]; exact Bool.false_ne_true)] at h
  exact h
 refine v_cut (fun τ=>(b && decide (m=mGone))=false∧τ=[some (.val (.str m)),some (.val (.bl b)),some (.val (.bl c))]) ?_ fun nx hnx=>?now
 case now =>
  dsimp! only [true_and]
  cases b with
  | false=>exact iteF (hnx _ ⟨rfl,rfl⟩)
  | true =>
   refine iteT ?_
   by_cases q:m=mGone
   ·rw [decide_eq_true q]
    exact iteT (k1 (by rw [decide_eq_true q]; rfl))
   ·rw [decide_eq_false q]
    exact iteF (hnx _ ⟨by rw [decide_eq_false q]; rfl,rfl⟩)
 rintro τ ⟨q1,rfl⟩
 refine v_cut (fun τ=>(b && decide (m=mShut))=false∧τ=[some (.val (.str m)),some (.val (.bl b)),some (.val (.bl c))]) ?_ fun nx hnx=>?now
 case now =>
  dsimp! only [true_and]
  cases b with
  | false=>exact iteF (hnx _ ⟨rfl,rfl⟩)
  | true =>
   refine iteT ?_
   by_cases q:m=mShut
   ·rw [decide_eq_true q]
    exact iteT (k2 q1 (by rw [decide_eq_true q]; rfl))
   ·rw [decide_eq_false q]
    exact iteF (hnx _ ⟨by rw [decide_eq_false q]; rfl,rfl⟩)
 rintro τ ⟨q2,rfl⟩
 refine v_cut (fun τ=>(!b && c && decide (m=mFolder))=false∧τ=[some (.val (.str m)),some (.val (.bl b)),some (.val (.bl c))]) ?_ fun nx hnx=>?now
 case now =>
  dsimp! only [true_and]
  cases b with
  | true=>exact iteF (hnx _ ⟨rfl,rfl⟩)
  | false =>
   refine iteT ?_
   cases c with
   | false=>exact iteF (hnx _ ⟨rfl,rfl⟩)
   | true =>
    refine iteT ?_
    by_cases q:m=mFolder
    ·rw [decide_eq_true q]
     exact iteT (k3 q1 q2 (by rw [decide_eq_true q]; rfl))
    ·rw [decide_eq_false q]
     exact iteF (hnx _ ⟨by rw [decide_eq_false q]; rfl,rfl⟩)
 rintro τ ⟨q3,rfl⟩
 dsimp! only [true_and]
 exact k4 q1 q2 q3
noncomputable def b_changed_entries:TVS:=(vSeq (vSet 2 (vCallN g_marks_of (vCons (vVar 1) vNil)))
 (vSeq (vSet 3 (vCallN g_hidden_ways (vCons (vVar 1) (vCons (vVar 0) vNil))))
 (vSeq (vSet 4 (vCallN g_hidden_ways (vCons (vVar 0) (vCons (vVar 0) vNil))))
 (vSeq (vSetO 5 (vLst vNil))
 (vSeq (vFor (vItems (vVar 0)) (vgTup 3 (vgCons (vgName 6) (vgCons (vgName 7) (vgCons (vgName 8) vgNil))))
  (vSeq (vSet 9 (vAndE (vCallN g_hides (vCons (vDGet1 (vVar 2) (vVar 6)) vNil)) (vDIn (!·) (vVar 6) (vVar 4))))
 (vAppend 5 (vTup (vCons (vVar 6) (vCons (vCallN g_pressed_mark (vCons (vVar 7) (vCons (vDIn id (vVar 6) (vVar 3)) (vCons (vVar 9) vNil)))) (vCons (vVar 8) vNil)))))))
 (vFrz 5 (vRet (vComp (vItems (vVar 5)) (vgName 10) (vBl (vOp (vIsN (!·)) (vOp vIxR (vVar 10) (vC (.int 1))) (vC .non))) (vVar 10) 1))))))))
noncomputable abbrev N_changed_entries:List Str:=["upper","lower","marks","bare","shut","changed","way","mark","text","closing"]
noncomputable def chD (u l:List Row) (r:Row):D:=.tup [wayD r.1,optD (pmark r.2.1 (hidBy l r.1) (hidesO (markR l r.1) && !hidBy u r.1)),.str r.2.2]
theorem ch_list (f:Row→Option Str):∀ us:List Row,((us.filter fun r=>(f r).isSome).map fun r=>D.tup [wayD r.1,optD (f r),.str r.2.2])=(us.filterMap fun r=>(f r).map fun m=>((r.1,m,r.2.2):Row)).map rowD
 | []=>rfl
 | r :: us=>by
  cases e:f r with
  | none=>rw [List.filter_cons_of_neg (by rw [e]; exact Bool.false_ne_true),List.filterMap_cons_none (by rw [e]; rfl),ch_list f us]
  | some m =>
   rw [List.filter_cons_of_pos (by rw [e]; rfl),List.filterMap_cons_some (by rw [e]; rfl),List.map_cons,List.map_cons,ch_list f us,e]
   rfl
theorem w_changed_entries:∀ ds Q,g_changed_entries ds Q→b_changed_entries (En Q) (startD N_changed_entries ds):=by
 rintro ds Q ⟨u,l,rfl,U,L,h⟩
 have big:1000 < sizeLine:=by decide
 have ul:=U.len
 have ll:=L.len
 have mo:∀ Y:R→Prop,Y (.own (dictD (l.map prM)))→g_marks_of [rowsL l] Y:=fun Y y=>⟨l,rfl,rsorted_nd L.c.so,L.nm,by omega,y⟩
 have hw1:∀ Y:R→Prop,Y (.own (dictD ((hidW l u).map fun w=>(w,.bl true))))→g_hidden_ways [rowsL l,rowsL u] Y:=fun Y y=>⟨l,u,rfl,rsorted_nd L.c.so,L.nm,by omega,U.c.clo,U.nm,by omega,y⟩
 have hw2:∀ Y:R→Prop,Y (.own (dictD ((hidW u u).map fun w=>(w,.bl true))))→g_hidden_ways [rowsL u,rowsL u] Y:=fun Y y=>⟨u,u,rfl,rsorted_nd U.c.so,U.nm,by omega,U.c.clo,U.nm,by omega,y⟩
 refine v_cut (fun τ=>τ=[some (.val (rowsL u)),some (.val (rowsL l)),some (.val (dictD (l.map prM))),none,none,none,none,none,none,none]) ?_ fun nx hnx=>?now
 case now =>
  dsimp! only [true_and]
  refine mo _ ?_
  dsimp! only [true_and]
  exact hnx _ rfl
 rintro τ rfl
 refine v_cut (fun τ=>τ=[some (.val (rowsL u)),some (.val (rowsL l)),some (.val (dictD (l.map prM))),some (.val (dictD ((hidW l u).map fun w=>(w,.bl true)))),none,none,none,none,none,none]) ?_ fun nx hnx=>?now
 case now =>
  dsimp! only [true_and]
  refine hw1 _ ?_
  dsimp! only [true_and]
  exact hnx _ rfl
 rintro τ rfl
 refine v_cut (fun τ=>τ=[some (.val (rowsL u)),some (.val (rowsL l)),some (.val (dictD (l.map prM))),some (.val (dictD ((hidW l u).map fun w=>(w,.bl true)))),some (.val (dictD ((hidW u u).map fun w=>(w,.bl true)))),none,none,none,none,none]) ?_ fun nx hnx=>?now
 case now =>
  dsimp! only [true_and]
  refine hw2 _ ?_
  dsimp! only [true_and]
  exact hnx _ rfl
 rintro τ rfl
 refine v_cut (fun τ=>τ=[some (.val (rowsL u)),some (.val (rowsL l)),some (.val (dictD (l.map prM))),some (.val (dictD ((hidW l u).map fun w=>(w,.bl true)))),some (.val (dictD ((hidW u u).map fun w=>(w,.bl true)))),some (.own (.lst [])),none,none,none,none]) ?_ fun nx hnx=>?now
 case now =>
  dsimp! only [true_and]
  exact hnx _ rfl
 rintro τ rfl
 refine v_cut (fun τ=>∃ a b c d,τ=[some (.val (rowsL u)),some (.val (rowsL l)),some (.val (dictD (l.map prM))),some (.val (dictD ((hidW l u).map fun w=>(w,.bl true)))),some (.val (dictD ((hidW u u).map fun w=>(w,.bl true)))),some (.own (.lst (u.map (chD u l)))),a,b,c,d]) ?_ fun nx hnx=>?now
 case now =>
  dsimp! only [rowsL]
  refine for_map (fun i τ=>∃ a b c d,τ=[some (.val (rowsL u)),some (.val (rowsL l)),some (.val (dictD (l.map prM))),some (.val (dictD ((hidW l u).map fun w=>(w,.bl true)))),some (.val (dictD ((hidW u u).map fun w=>(w,.bl true)))),some (.own (.lst ((u.take i).map (chD u l)))),a,b,c,d]) ⟨none,none,none,none,rfl⟩ ?_ ?_
  ·rintro i r τ hr ⟨a,b,c,d,rfl⟩ nx2 hnx2
   have mr:=List.mem_of_getElem? hr
   have hi:=(List.getElem?_eq_some_iff.mp hr).1
   have wy:=(U.nm r mr).ok
   have et:u.take (i+1)=u.take i++[r]:=by rw [List.take_succ,hr]; rfl
   have m1:decide (r.1∈hidW l u)=hidBy l r.1:=hid_mem (List.mem_map.mpr ⟨r,mr,rfl⟩)
   have m2:decide (r.1∈hidW u u)=hidBy u r.1:=hid_mem (List.mem_map.mpr ⟨r,mr,rfl⟩)
   have l1:(lkD (((hidW l u).map fun w=>(w,D.bl true)).map (·.1)) (((hidW l u).map fun w=>(w,D.bl true)).map (·.2)) r.1).isSome=hidBy l r.1:=by
    rw [lkD_pairs,lkP_one,← m1]
    by_cases m:r.1∈hidW l u
    ·rw [if_pos m,decide_eq_true m]; rfl
    ·rw [if_neg m,decide_eq_false m]; rfl
   have l2:(lkD (((hidW u u).map fun w=>(w,D.bl true)).map (·.1)) (((hidW u u).map fun w=>(w,D.bl true)).map (·.2)) r.1).isSome=hidBy u r.1:=by
    rw [lkD_pairs,lkP_one,← m2]
    by_cases m:r.1∈hidW u u
    ·rw [if_pos m,decide_eq_true m]; rfl
    ·rw [if_neg m,decide_eq_false m]; rfl
   have hd:∀ (o:Option Str) (Y:R→Prop),Y (.val (.bl (hidesO o)))→g_hides [(o.map D.str).getD .non] Y:=fun o Y y=>⟨o,rfl,y⟩
   have pm:∀ (m:Str) (b c:Bool) (Y:R→Prop),Y (.val (optD (pmark m b c)))→g_pressed_mark [.str m,.bl b,.bl c] Y:=fun m b c Y y=>⟨m,b,c,rfl,y⟩
   dsimp! only [rowD]
   refine v_cut (fun τ=>τ=[some (.val (rowsL u)),some (.val (rowsL l)),some (.val (dictD (l.map prM))),some (.val (dictD ((hidW l u).map fun w=>(w,.bl true)))),some (.val (dictD ((hidW u u).map fun w=>(w,.bl true)))),some (.own (.lst ((u.take i).map (chD u l)))),some (.val (wayD r.1)),some (.val (.str r.2.1)),some (.val (.str r.2.2)),some (.val (.bl (hidesO (markR l r.1) && !hidBy u r.1)))]) ?_ fun nx3 hnx3=>?now
   case now =>
    dsimp! only [dictD,wayD]
    rw [lkD_pairs,lkP_mk,l2]
    refine ⟨wy.ne,hd _ _ ?_⟩
    dsimp! only [true_and]
    cases q:hidesO (markR l r.1) with
    | false =>
     rw [q] at hnx3
     exact iteF (hnx3 _ rfl)
    | true =>
     rw [q] at hnx3
     exact iteT ⟨wy.ne,hnx3 _ rfl⟩
   rintro τ rfl
   dsimp! only [dictD,wayD]
   rw [l1]
   refine ⟨wy.ne,pm _ _ _ _ ?_⟩
   dsimp! only [true_and]
   refine ⟨by decide,?_,hnx2 _ ⟨some (.val (wayD r.1)),some (.val (.str r.2.1)),some (.val (.str r.2.2)),some (.val (.bl (hidesO (markR l r.1) && !hidBy u r.1))),?_⟩⟩
   ·rw [List.length_take]
    omega
   ·rw [et,List.map_append]
    rfl
  ·rintro τ ⟨a,b,c,d,rfl⟩
   rw [List.take_length]
   exact hnx _ ⟨a,b,c,d,rfl⟩
 rintro τ ⟨a,b,c,d,rfl⟩
 dsimp! only [true_and]
 refine comp_filter (fun r=>chD u l r) (fun r=>(pmark r.2.1 (hidBy l r.1) (hidesO (markR l r.1) && !hidBy u r.1)).isSome) u (Nat.le_trans (show _≤1000 by omega) line1000) (fun r hr Y N y1 y2=>?_) ?_
 ·dsimp! only [chD,optD]
  cases q:pmark r.2.1 (hidBy l r.1) (hidesO (markR l r.1) && !hidBy u r.1) with
  | none =>
   dsimp! only [Option.map_none,Option.getD_none]
   exact y2 (by rw [q]; rfl)
  | some m =>
   have y:=y1 (by rw [q]; rfl)
   unfold chD optD at y
   rw [q] at y
   dsimp! only [Option.map_some,Option.getD_some]
   exact y
 ·dsimp! only [true_and]
  have e:=ch_list (fun r=>pmark r.2.1 (hidBy l r.1) (hidesO (markR l r.1) && !hidBy u r.1)) u
  have e2:((u.filter fun r=>(pmark r.2.1 (hidBy l r.1) (hidesO (markR l r.1) && !hidBy u r.1)).isSome).map fun r=>chD u l r)=(chR u l).map rowD:=e
  rw [e2]
  exact h
noncomputable def b_press:TVS:=(vRet (vCallN g_in_order (vCons (vOp vAdd (vCallN g_left_alone (vCons (vVar 0) (vCons (vVar 1) vNil))) (vCallN g_changed_entries (vCons (vVar 0) (vCons (vVar 1) vNil)))) vNil)))
noncomputable abbrev N_press:List Str:=["upper","lower"]
theorem w_press:∀ ds Q,g_press ds Q→b_press (En Q) (startD N_press ds):=by
 rintro ds Q ⟨u,l,rfl,U,L,h⟩
 have ul:=U.len
 have ll:=L.len
 have nd:=press_nd (rsorted_nd U.c.so) (rsorted_nd L.c.so)
 have pl:=press_len u l
 have la:∀ Y:R→Prop,Y (.own (rowsL (aloneR u l)))→g_left_alone [rowsL u,rowsL l] Y:=fun Y y=>⟨u,l,rfl,rsorted_nd U.c.so,U.nm,by omega,L.c.clo,L.nm,by omega,y⟩
 have ce:∀ Y:R→Prop,Y (.own (rowsL (chR u l)))→g_changed_entries [rowsL u,rowsL l] Y:=fun Y y=>⟨u,l,rfl,U,L,y⟩
 have io:∀ Y:R→Prop,Y (.own (rowsL (pressR u l)))→g_in_order [rowsL (pressL u l)] Y:=fun Y y=>⟨_,rfl,nd,fun ts p1 p2=>by
  have:pressR u l=ts:=sortR_eq p1 p2
  rw [← this]
  exact y⟩
 dsimp! only [b_press]
 refine la _ ?_
 dsimp! only [true_and]
 refine ce _ ?_
 dsimp! only [rowsL]
 have el:(aloneR u l).length+(chR u l).length=(pressL u l).length:=by unfold pressL; rw [List.length_append]
 refine ⟨by rw [el]; exact Nat.le_trans (show _≤1000 by omega) line1000,?_⟩
 rw [← List.map_append]
 refine io _ ?_
 dsimp! only [true_and]
 exact h
noncomputable def b_laid:TVS:=(vSeq (vSetO 2 vDNewT)
 (vSeq (vFor (vItems (vVar 0)) (vgName 3)
  (vDPut 2 (vOp vIxR (vVar 3) (vC (.int 0))) (vOp vIxR (vVar 3) (vC (.int 1)))))
 (vSeq (vSetO 4 vDNewT)
 (vSeq (vFor (vItems (vVar 1)) (vgName 3)
  (vSeq (vSet 5 (vDIn (!·) (vOp vIxR (vVar 3) (vC (.int 0))) (vVar 2)))
 (vSeq (vFor (vRng1 (vF1 vLen (vOp vIxR (vVar 3) (vC (.int 0))))) (vgName 6)
  (vIfS (vAndT (vBl (vDIn id (vSlice (vOp vIxR (vVar 3) (vC (.int 0))) vNoPart (vPart (vVar 6))) (vVar 2))) (vBl (vOp vNeD (vDGet (vVar 2) (vSlice (vOp vIxR (vVar 3) (vC (.int 0))) vNoPart (vPart (vVar 6)))) (vC (.str ("folder" : Str))))))
  (vSet 5 (vC (.bl false)))
  vNext))
 (vIfS (vBl (vVar 5))
  (vDPut 4 (vOp vIxR (vVar 3) (vC (.int 0))) (vTup (vCons (vOp vIxR (vVar 3) (vC (.int 1))) (vCons (vOp vIxR (vVar 3) (vC (.int 2))) vNil))))
  vNext))))
 (vSeq (vFor (vItems (vVar 0)) (vgName 3)
  (vIfS (vOrT (vBl (vOp vEq (vOp vIxR (vVar 3) (vC (.int 1))) (vC (.str ("file" : Str))))) (vBl (vOp vEq (vOp vIxR (vVar 3) (vC (.int 1))) (vC (.str ("link" : Str))))))
  (vDPut 4 (vOp vIxR (vVar 3) (vC (.int 0))) (vTup (vCons (vOp vIxR (vVar 3) (vC (.int 1))) (vCons (vOp vIxR (vVar 3) (vC (.int 2))) vNil))))
  (vIfS (vAndT (vBl (vOp vNeD (vOp vIxR (vVar 3) (vC (.int 1))) (vC (.str ("gone" : Str))))) (vBl (vOp vNeD (vOp vIxR (vVar 3) (vC (.int 0))) (vTup vNil))))
  (vDPut 4 (vOp vIxR (vVar 3) (vC (.int 0))) (vTup (vCons (vC (.str ("folder" : Str))) (vCons (vC (.str ("" : Str))) vNil))))
  vNext)))
 (vRet (vComp (vItems (vF1 vSorted (vF1 vListD (vVar 4)))) (vgName 7) (fun _ Q=>Q true) (vOp vAdd (vTup (vCons (vVar 7) vNil)) (vDGet (vVar 4) (vVar 7))) 1)))))))
noncomputable abbrev N_laid:List Str:=["_law_pane","_law_tree","_law_marks","_law_row","_law_shown","_law_kept","_law_k"]
theorem w_laid:∀ ds Q,g_laid ds Q→b_laid (En Q) (startD N_laid ds):=by
 rintro ds Q ⟨p,tr,rfl,P,pn,pl,T,tn,hl,h⟩
 have big:1000 < sizeLine:=by decide
 have ndp:=rsorted_nd P.so
 have ndt:=rsorted_nd T.so
 have nd:=laid_nd ndp ndt
 have ll:(aloneR p tr++putR p).length≤tr.length+bulk p:=laid_len p tr
 refine v_cut (fun τ=>τ=[some (.val (rowsL p)),some (.val (rowsL tr)),some (.own (dictD [])),none,none,none,none]) ?_ fun nx hnx=>?now
 case now =>
  dsimp! only [true_and]
  exact hnx _ rfl
 rintro τ rfl
 refine v_cut (fun τ=>∃ a,τ=[some (.val (rowsL p)),some (.val (rowsL tr)),some (.own (dictD (p.map prM))),a,none,none,none]) ?_ fun nx hnx=>?now
 case now =>
  dsimp! only [rowsL]
  refine for_map (fun i τ=>∃ a,τ=[some (.val (rowsL p)),some (.val (rowsL tr)),some (.own (dictD ((p.take i).map prM))),a,none,none,none]) ⟨none,rfl⟩ ?_ ?_
  ·rintro i r τ hr ⟨a,rfl⟩ nx2 hnx2
   have mr:=List.mem_of_getElem? hr
   have hi:=(List.getElem?_eq_some_iff.mp hr).1
   simp! only [vSeq,rowD,dictD,wayD]
   refine ⟨(pn r mr).ok.ne,?_,?_⟩
   ·rw [List.length_take]
    omega
   ·rw [putD_pairs]
    have ni:¬ r.1∈((p.take i).map prM).map (·.1):=by
     rw [ways_mk]
     exact take_new ndp hr
    have e:insP ((p.take i).map prM) r.1 (.str r.2.1)=(p.take (i+1)).map prM:=by
     unfold insP
     rw [if_neg ni,List.take_succ,hr,List.map_append]
     rfl
    rw [e]
    exact hnx2 _ ⟨some (.val (rowD r)),rfl⟩
  ·rintro τ ⟨a,rfl⟩
   rw [List.take_length]
   exact hnx _ ⟨a,rfl⟩
 rintro τ ⟨a,rfl⟩
 refine v_cut (fun τ=>τ=[some (.val (rowsL p)),some (.val (rowsL tr)),some (.own (dictD (p.map prM))),a,some (.own (dictD [])),none,none]) ?_ fun nx hnx=>?now
 case now =>
  dsimp! only [true_and]
  exact hnx _ rfl
 rintro τ rfl
 refine v_cut (fun τ=>∃ a b c,τ=[some (.val (rowsL p)),some (.val (rowsL tr)),some (.own (dictD (p.map prM))),a,some (.own (dictD ((aloneR p tr).map prR))),b,c]) ?_ fun nx hnx=>?now
 case now =>
  dsimp! only [rowsL]
  refine for_map (fun i τ=>∃ a b c,τ=[some (.val (rowsL p)),some (.val (rowsL tr)),some (.own (dictD (p.map prM))),a,some (.own (dictD ((aloneR p (tr.take i)).map prR))),b,c]) ⟨a,none,none,rfl⟩ ?_ ?_
  ·rintro i r τ hr ⟨a,b,c,rfl⟩ nx2 hnx2
   have mr:=List.mem_of_getElem? hr
   have hi:=(List.getElem?_eq_some_iff.mp hr).1
   have wy:=(tn r mr).ok
   have wl:=wy.1
   have et:tr.take (i+1)=tr.take i++[r]:=by rw [List.take_succ,hr]; rfl
   have al:(aloneR p (tr.take i)).length≤700:=by
    have:=List.length_filter_le (fun r:Row=>!inR p r.1 && !hidBy p r.1) (tr.take i)
    rw [List.length_take] at this
    have e:aloneR p (tr.take i)=(tr.take i).filter fun r:Row=>!inR p r.1 && !hidBy p r.1:=rfl
    rw [e]
    omega
   refine v_cut (fun τ=>τ=[some (.val (rowsL p)),some (.val (rowsL tr)),some (.own (dictD (p.map prM))),some (.val (rowD r)),some (.own (dictD ((aloneR p (tr.take i)).map prR))),some (.val (.bl (!inR p r.1))),c]) ?_ fun nx3 hnx3=>?now
   case now =>
    dsimp! only [rowD,dictD,wayD]
    have l1:(lkD ((p.map prM).map (·.1)) ((p.map prM).map (·.2)) r.1).isSome=inR p r.1:=by
     rw [lkD_pairs,lkP_mk,Option.isSome_map,markR_in]
    rw [l1]
    exact ⟨wy.ne,hnx3 _ rfl⟩
   rintro τ rfl
   refine v_cut (fun τ=>∃ c,τ=[some (.val (rowsL p)),some (.val (rowsL tr)),some (.own (dictD (p.map prM))),some (.val (rowD r)),some (.own (dictD ((aloneR p (tr.take i)).map prR))),some (.val (.bl (!inR p r.1 && !hidBy p r.1))),c]) ?_ fun nx3 hnx3=>?now
   case now =>
    dsimp! only [rowD,wayD]
    refine ⟨by omega,by omega,for_rng (fun k τ=>∃ c,τ=[some (.val (rowsL p)),some (.val (rowsL tr)),some (.own (dictD (p.map prM))),some (.val (rowD r)),some (.own (dictD ((aloneR p (tr.take i)).map prR))),some (.val (.bl (!inR p r.1 && !((List.range k).any fun j=>hidesO (markR p (r.1.take j)))))),c]) ⟨c,?_⟩ ?_ ?_⟩
    ·rw [List.range_zero,List.any_nil,Bool.not_false,Bool.and_true]
     rfl
    ·rintro k τ hk ⟨c,rfl⟩ nx4 hnx4
     have es:((List.range (k+1)).any fun j=>hidesO (markR p (r.1.take j)))=(((List.range k).any fun j=>hidesO (markR p (r.1.take j))) || hidesO (markR p (r.1.take k))):=by
      rw [List.range_succ,List.any_append,List.any_cons,List.any_nil,Bool.or_false]
     have tk:("" : Str)∉r.1.take k:=fun m=>wy.ne (List.mem_of_mem_take m)
     have no:hidesO (markR p (r.1.take k))=false→∀ c,nx4 [some (.val (rowsL p)),some (.val (rowsL tr)),some (.own (dictD (p.map prM))),some (.val (rowD r)),some (.own (dictD ((aloneR p (tr.take i)).map prR))),some (.val (.bl (!inR p r.1 && !((List.range k).any fun j=>hidesO (markR p (r.1.take j)))))),c]:=fun q c=>hnx4 _ ⟨c,by rw [es,q,Bool.or_false]⟩
     have yes:hidesO (markR p (r.1.take k))=true→∀ c,nx4 [some (.val (rowsL p)),some (.val (rowsL tr)),some (.own (dictD (p.map prM))),some (.val (rowD r)),some (.own (dictD ((aloneR p (tr.take i)).map prR))),some (.val (.bl false)),c]:=fun q c=>hnx4 _ ⟨c,by rw [es,q,Bool.or_true,Bool.not_true,Bool.and_false]⟩
     dsimp! only [rowD,dictD,wayD]
     simp only [cutL_take]
     refine ⟨tk,?_⟩
     rw [lkD_pairs,lkP_mk]
     cases e:markR p (r.1.take k) with
     | none =>
      refine iteF ?_
      exact no (by rw [e]; rfl) _
     | some m =>
      refine iteT ⟨tk,.str m,rfl,?_⟩
      dsimp! only [true_and]
      by_cases q:m=mFolder
      ·rw [decide_eq_true q]
       exact iteF (no (by rw [e,q]; simp [hidesO]) _)
      ·rw [decide_eq_false q]
       exact iteT (yes (by rw [e]; simp [hidesO,q]) _)
    ·rintro τ ⟨c,rfl⟩
     exact hnx3 _ ⟨c,rfl⟩
   rintro τ ⟨c,rfl⟩
   dsimp! only [rowD,wayD]
   cases q:(!inR p r.1 && !hidBy p r.1) with
   | false =>
    refine iteF (hnx2 _ ⟨some (.val (rowD r)),some (.val (.bl false)),c,?_⟩)
    have:aloneR p (tr.take (i+1))=aloneR p (tr.take i):=by
     unfold aloneR
     rw [et,List.filter_append,List.filter_cons_of_neg (by rw [q]; exact Bool.false_ne_true),List.filter_nil,List.append_nil]
    rw [this]
    rfl
   | true =>
    refine iteT ?_
    dsimp! only [dictD,wayD]
    refine ⟨by decide,wy.ne,by omega,?_⟩
    rw [putD_pairs]
    have this:aloneR p (tr.take (i+1))=aloneR p (tr.take i)++[r]:=by
     unfold aloneR
     rw [et,List.filter_append,List.filter_cons_of_pos (by rw [q]),List.filter_nil]
    have ins:insP ((aloneR p (tr.take i)).map prR) r.1 (.tup [.str r.2.1,.str r.2.2])=(aloneR p (tr.take (i+1))).map prR:=by
     unfold insP
     rw [ways_pr,if_neg,this,List.map_append]
     ·rfl
     ·intro m
      obtain ⟨o,mo,eo⟩:=List.mem_map.mp m
      exact take_new ndt hr (List.mem_map.mpr ⟨o,(List.mem_filter.mp mo).1,eo⟩)
    rw [ins]
    exact hnx2 _ ⟨some (.val (rowD r)),some (.val (.bl true)),c,rfl⟩
  ·rintro τ ⟨a,b,c,rfl⟩
   rw [List.take_length]
   exact hnx _ ⟨a,b,c,rfl⟩
 clear a
 rintro τ ⟨a,b,c,rfl⟩
 refine v_cut (fun τ=>∃ a,τ=[some (.val (rowsL p)),some (.val (rowsL tr)),some (.own (dictD (p.map prM))),a,some (.own (dictD ((aloneR p tr++putR p).map prR))),b,c]) ?_ fun nx hnx=>?now
 case now =>
  dsimp! only [rowsL]
  refine for_map (fun i τ=>∃ a,τ=[some (.val (rowsL p)),some (.val (rowsL tr)),some (.own (dictD (p.map prM))),a,some (.own (dictD ((aloneR p tr++lawPut (p.take i)).map prR))),b,c]) ⟨a,?_⟩ ?_ ?_
  ·show _=[_,_,_,_,some (R.own (dictD ((aloneR p tr++[]).map prR))),_,_]
   rw [List.append_nil]
   rfl
  ·rintro i r τ hr ⟨a,rfl⟩ nx2 hnx2
   have mr:=List.mem_of_getElem? hr
   have hi:=(List.getElem?_eq_some_iff.mp hr).1
   have wy:=(pn r mr).ok
   have et:p.take (i+1)=p.take i++[r]:=by rw [List.take_succ,hr]; rfl
   have al:(aloneR p tr++lawPut (p.take i)).length≤950:=by
    have h1:=List.length_filter_le (fun r:Row=>!inR p r.1 && !hidBy p r.1) tr
    have h2:(lawPut (p.take i)).length≤(p.take i).length:=by
     unfold lawPut
     rw [List.length_map]
     exact List.length_filter_le _ _
    rw [List.length_take] at h2
    have e:aloneR p tr=tr.filter fun r:Row=>!inR p r.1 && !hidBy p r.1:=rfl
    rw [List.length_append,e]
    omega
   have nin:r.1∉(aloneR p tr++lawPut (p.take i)).map (·.1):=fun m=>by
    rw [List.map_append] at m
    rcases List.mem_append.mp m with m | m
    ·obtain ⟨o,mo,eo⟩:=List.mem_map.mp m
     have:=(List.mem_filter.mp mo).2
     have i1:inR p o.1=true:=decide_eq_true (List.mem_map.mpr ⟨r,mr,eo.symm⟩)
     rw [i1] at this
     cases this
    ·obtain ⟨o,mo,eo⟩:=List.mem_map.mp m
     unfold lawPut at mo
     obtain ⟨o2,mo2,rfl⟩:=List.mem_map.mp mo
     have e2:o2.1=r.1:=by
      rw [← eo]
      split <;> rfl
     exact take_new ndp hr (List.mem_map.mpr ⟨o2,(List.mem_filter.mp mo2).1,e2⟩)
   have step:lawPut (p.take (i+1))=lawPut (p.take i)++lawPut [r]:=by
    unfold lawPut
    rw [et,List.filter_append,List.map_append]
   have ins:∀ x:Str × Str,insP ((aloneR p tr++lawPut (p.take i)).map prR) r.1 (thD x)=(aloneR p tr++(lawPut (p.take i)++[(r.1,x)])).map prR:=fun x=>by
    unfold insP
    rw [ways_pr,if_neg nin,← List.append_assoc,List.map_append (l₂:=[(r.1,x)])]
    rfl
   have put:∀ x:Str × Str,lawPut [r]=[(r.1,x)]→("" : Str)∉r.1∧(aloneR p tr++lawPut (p.take i)).length < sizeLine∧nx2 [some (.val (rowsL p)),some (.val (rowsL tr)),some (.own (dictD (p.map prM))),some (.val (rowD r)),some (.own (dictD (insP ((aloneR p tr++lawPut (p.take i)).map prR) r.1 (thD x)))),b,c]:=fun x e=>⟨wy.ne,by omega,by
    rw [ins]
    exact hnx2 _ ⟨some (.val (rowD r)),by rw [step,e]⟩⟩
   have skip:lawPut [r]=[]→nx2 [some (.val (rowsL p)),some (.val (rowsL tr)),some (.own (dictD (p.map prM))),some (.val (rowD r)),some (.own (dictD ((aloneR p tr++lawPut (p.take i)).map prR))),b,c]:=fun e=>hnx2 _ ⟨some (.val (rowD r)),by rw [step,e,List.append_nil]⟩
   have e0:eqD (.tup (r.1.map D.str)) (.tup [])=decide (r.1=[]):=eqW r.1 []
   dsimp! only [rowD,wayD,dictD]
   rw [putD_pairs,putD_pairs]
   by_cases m1:r.2.1=mFile
   ·rw [decide_eq_true m1]
    exact iteT ⟨by decide,put r.2 (by simp [lawPut,m1])⟩
   rw [decide_eq_false m1]
   refine iteF ?_
   by_cases m2:r.2.1=mLink
   ·rw [decide_eq_true m2]
    exact iteT ⟨by decide,put r.2 (by simp [lawPut,m2])⟩
   rw [decide_eq_false m2]
   refine iteF ?_
   by_cases m3:r.2.1=mGone
   ·rw [decide_eq_true m3]
    exact iteF (skip (by simp only [lawPut,List.filter_cons,List.filter_nil,decide_eq_false m1,decide_eq_false m2,decide_eq_true m3]; rfl))
   rw [decide_eq_false m3]
   refine iteT ⟨cmpW _ [],depW _,?_⟩
   rw [e0]
   by_cases h0:r.1=[]
   ·rw [decide_eq_true h0]
    exact iteF (skip (by simp only [lawPut,List.filter_cons,List.filter_nil,decide_eq_false m1,decide_eq_false m2,decide_eq_false m3,decide_eq_true h0]; rfl))
   rw [decide_eq_false h0]
   refine iteT ⟨by decide,put (mFolder,tEmpty) ?_⟩
   simp only [lawPut,List.filter_cons,List.filter_nil,decide_eq_false m1,decide_eq_false m2,decide_eq_false m3,decide_eq_false h0]
   simp [m1,m2]
  ·rintro τ ⟨a,rfl⟩
   rw [List.take_length,lawPut_eq P]
   exact hnx _ ⟨a,rfl⟩
 clear a
 rintro τ ⟨a,rfl⟩
 generalize hL:aloneR p tr++putR p=L at *
 have wk:∀ w∈L.map (·.1),("" : Str)∉w:=fun w mw=>by
  obtain ⟨r,mr,rfl⟩:=List.mem_map.mp mw
  rw [← hL] at mr
  rcases List.mem_append.mp mr with q | q
  ·exact (tn r (List.mem_filter.mp q).1).ok.ne
  ·unfold putR at q
   obtain ⟨o,mo,rfl⟩:=List.mem_map.mp q
   rw [shown_1]
   exact (pn o (List.mem_filter.mp mo).1).ok.ne
 dsimp! only [dictD]
 have ek:(((L.map prR).map (·.1)).map fun w=>D.tup (w.map D.str))=(L.map (·.1)).map wayD:=by
  rw [List.map_map,List.map_map,List.map_map]
  rfl
 refine ⟨?_,fun ds hp hs=>?_⟩
 ·rw [ek]
  exact sortD_ways nd
 ·rw [ek] at hp
  obtain ⟨vs,rfl,hv,hso⟩:=ways_back hp hs
  have hvl:vs.length=L.length:=by rw [hv.length_eq,List.length_map]
  refine comp_map (fun w=>rowD (w,lkR L w)) vs (Nat.le_trans (show _≤1000 by omega) line1000) (fun w mw Y N hY=>?_) ?_
  ·have mw':=hv.mem_iff.mp mw
   dsimp! only [wayD]
   exact ⟨by decide,wk w mw',thD (lkR L w),by rw [lkD_pairs]; exact lkP_lkR nd mw',by show 3≤sizeLine; decide,hY⟩
  ·dsimp! only [true_and]
   have e:vs.map (fun w=>rowD (w,lkR L w))=(vs.map fun w=>(w,lkR L w)).map rowD:=by rw [List.map_map]; rfl
   rw [e]
   obtain ⟨p1,p2⟩:=rows_of_ways nd hv hso
   have el:laidR p tr=vs.map fun w=>(w,lkR L w):=by
    unfold laidR
    rw [hL]
    exact sortR_eq p1 p2
   have p3:(laidR p tr).Perm (aloneR p tr++putR p):=by rw [el,hL]; exact p1
   have p4:RSorted (laidR p tr):=by rw [el]; exact p2
   rw [← el]
   refine h (laid_tree P T p3 p4) (fun r hr=>?_) (by rw [p3.length_eq,hL]; exact ll)
   rcases List.mem_append.mp (p3.mem_iff.mp hr) with q | q
   ·exact tn r (List.mem_filter.mp q).1
   ·unfold putR at q
    obtain ⟨o,mo,rfl⟩:=List.mem_map.mp q
    rw [shown_1]
    exact pn o (List.mem_filter.mp mo).1
noncomputable def b_stands:TVS:=(vSeq (vSet 2 (vOp vIxR (vVar 0) (vC (.int 0))))
 (vSeq (vIfS (vBl (vOp vEq (vVar 2) (vTup vNil)))
  (vRet (vOp vEq (vOp vIxR (vVar 0) (vC (.int 1))) (vC (.str ("shut" : Str)))))
  vNext)
 (vSeq (vFor (vRng1 (vF1 vLen (vVar 2))) (vgName 3)
  (vSeq (vSet 4 (vC (.str ("folder" : Str))))
 (vSeq (vIfS (vBl (vDIn id (vSlice (vVar 2) vNoPart (vPart (vVar 3))) (vVar 1)))
  (vSet 4 (vDGet (vVar 1) (vSlice (vVar 2) vNoPart (vPart (vVar 3)))))
  (vIfS (vBl (vOp vGt (vVar 3) (vC (.int 0))))
  (vRet (vC (.bl false)))
  vNext))
 (vSeq (vIfS (vAndT (vBl (vOp vNeD (vVar 4) (vC (.str ("folder" : Str))))) (vBl (vOp vNeD (vVar 4) (vC (.str ("shut" : Str))))))
  (vRet (vC (.bl false)))
  vNext)
 (vIfS (vAndT (vBl (vOp vEq (vVar 4) (vC (.str ("shut" : Str))))) (vBl (vOp (vIn id) (vOp vIxR (vVar 0) (vC (.int 1))) (vTup (vCons (vC (.str ("gone" : Str))) (vCons (vC (.str ("shut" : Str))) vNil))))))
  (vRet (vC (.bl false)))
  vNext)))))
 (vRet (vOp (vIn id) (vOp vIxR (vVar 0) (vC (.int 1))) (vTup (vCons (vC (.str ("file" : Str))) (vCons (vC (.str ("link" : Str))) (vCons (vC (.str ("folder" : Str))) (vCons (vC (.str ("gone" : Str))) (vCons (vC (.str ("shut" : Str))) vNil)))))))))))
noncomputable abbrev N_stands:List Str:=["_law_row","_law_marks","_law_way","_law_k","_law_here"]
theorem w_stands:∀ ds Q,g_stands ds Q→b_stands (En Q) (startD N_stands ds):=by
 rintro ds Q ⟨ps,r,rfl,S,h⟩
 have wy:=S.wy
 have wl:=wy.1
 refine v_cut (fun τ=>τ=[some (.val (rowD r)),some (.val (dictD (ps.map prM))),some (.val (wayD r.1)),none,none]) ?_ fun nx hnx=>?now
 case now =>
  dsimp! only [rowD]
  exact hnx _ rfl
 rintro τ rfl
 refine v_cut (fun τ=>τ=[some (.val (rowD r)),some (.val (dictD (ps.map prM))),some (.val (wayD r.1)),none,none]) ?_ fun nx hnx=>?now
 case now =>
  have e0:=eqW r.1 []
  rw [List.map_nil] at e0
  dsimp! only [rowD,wayD]
  refine ⟨cmpW _ [],depW _,?_⟩
  simp only [e0]
  by_cases q:r.1=[]
  ·rw [decide_eq_true q,decide_eq_true (show r.2.1=Str.ofString "shut" from S.rt q)]
   exact iteT h
  ·rw [decide_eq_false q]
   exact iteF (hnx _ rfl)
 rintro τ rfl
 refine v_cut (fun τ=>∃ a b,τ=[some (.val (rowD r)),some (.val (dictD (ps.map prM))),some (.val (wayD r.1)),a,b]) ?_ fun nx hnx=>?now
 case now =>
  dsimp! only [wayD]
  refine ⟨by lia,by lia,for_rng (fun _ τ=>∃ a b,τ=[some (.val (rowD r)),some (.val (dictD (ps.map prM))),some (.val (wayD r.1)),a,b]) ⟨none,none,rfl⟩ ?_ ?_⟩
  ·rintro k τ hk ⟨a,b,rfl⟩ nx2 hnx2
   have hk':k < r.1.length:=by lia
   obtain ⟨s1,s2⟩:=S.pre k hk'
   have tk:("" : Str)∉r.1.take k:=(wy.take k).ne
   refine v_cut (fun τ=>τ=[some (.val (rowD r)),some (.val (dictD (ps.map prM))),some (.val (wayD r.1)),some (.val (.int k)),some (.val (.str mFolder))]) ?_ fun nx3 hnx3=>?now
   case now =>
    dsimp! only [true_and]
    exact hnx3 _ rfl
   rintro τ rfl
   refine v_cut (fun τ=>∃ m:Str,(FS m∧(m=mShut→r.2.1≠mGone∧r.2.1≠mShut))∧τ=[some (.val (rowD r)),some (.val (dictD (ps.map prM))),some (.val (wayD r.1)),some (.val (.int k)),some (.val (.str m))]) ?_ fun nx3 hnx3=>?now
   case now =>
    have lk:lkD ((ps.map prM).map (·.1)) ((ps.map prM).map (·.2)) (r.1.take k)=(markR ps (r.1.take k)).map D.str:=by rw [lkD_pairs,lkP_mk]
    dsimp! only [dictD,wayD]
    simp only [cutL_take]
    refine ⟨tk,?_⟩
    rw [lk]
    cases e:markR ps (r.1.take k) with
    | none =>
     have z:=s1 e
     subst z
     refine iteF ?_
     dsimp! only [true_and]
     exact hnx3 _ ⟨mFolder,⟨.inl rfl,fun z=>absurd z (by decide +kernel)⟩,rfl⟩
    | some m =>
     exact iteT ⟨tk,.str m,rfl,hnx3 _ ⟨m,s2 m e,rfl⟩⟩
   rintro τ ⟨m,⟨fm,sm⟩,rfl⟩
   refine v_cut (fun τ=>τ=[some (.val (rowD r)),some (.val (dictD (ps.map prM))),some (.val (wayD r.1)),some (.val (.int k)),some (.val (.str m))]) ?_ fun nx3 hnx3=>?now
   case now =>
    dsimp! only [true_and]
    rcases fm with e | e
    ·rw [decide_eq_true (show m=Str.ofString "folder" from e)]
     exact iteF (hnx3 _ rfl)
    ·rw [decide_eq_true (show m=Str.ofString "shut" from e)]
     split
     ·exact hnx3 _ rfl
     ·exact hnx3 _ rfl
   rintro τ rfl
   dsimp! only [rowD]
   by_cases e:m=mShut
   ·rw [decide_eq_true (show m=Str.ofString "shut" from e)]
    obtain ⟨n1,n2⟩:=sm e
    refine iteT ⟨by decide,?_⟩
    rw [decide_eq_false (show ¬ r.2.1∈[Str.ofString "gone",Str.ofString "shut"] by simpa using ⟨n1,n2⟩)]
    exact hnx2 _ ⟨_,_,rfl⟩
   ·rw [decide_eq_false (show ¬ m=Str.ofString "shut" from e)]
    exact iteF (hnx2 _ ⟨_,_,rfl⟩)
  ·rintro τ ⟨a,b,rfl⟩
   exact hnx _ ⟨a,b,rfl⟩
 rintro τ ⟨a,b,rfl⟩
 dsimp! only [rowD]
 rw [decide_eq_true (show r.2.1∈[Str.ofString "file",Str.ofString "link",Str.ofString "folder",Str.ofString "gone",Str.ofString "shut"] by simpa using S.mt)]
 exact ⟨by decide,h⟩
noncomputable def b_is_pane:TVS:=(vSeq (vIfS (vNotT (vBl (vIsin .list (vVar 0))))
  (vRet (vC (.bl false)))
  vNext)
 (vSeq (vSetO 1 vDNewT)
 (vSeq (vFor (vRng1 (vF1 vLen (vVar 0))) (vgName 2)
  (vSeq (vSet 3 (vOp vIxR (vVar 0) (vVar 2)))
 (vSeq (vIfS (vOrT (vNotT (vBl (vIsin .tuple (vVar 3)))) (vOrT (vBl (vOp vNeD (vF1 vLen (vVar 3)) (vC (.int 3)))) (vNotT (vBl (vIsin .tuple (vOp vIxR (vVar 3) (vC (.int 0))))))))
  (vRet (vC (.bl false)))
  vNext)
 (vSeq (vIfS (vOrT (vNotT (vBl (vIsin .str (vOp vIxR (vVar 3) (vC (.int 1)))))) (vNotT (vBl (vIsin .str (vOp vIxR (vVar 3) (vC (.int 2)))))))
  (vRet (vC (.bl false)))
  vNext)
 (vSeq (vIfS (vOrT (vAndT (vBl (vOp vGt (vVar 2) (vC (.int 0)))) (vNotT (vBl (vOp vLtD (vOp vIxR (vOp vIxR (vVar 0) (vOp vSub (vVar 2) (vC (.int 1)))) (vC (.int 0))) (vOp vIxR (vVar 3) (vC (.int 0))))))) (vNotT (vBl (vLendE 1 (vCallN g_stands (vCons (vVar 3) (vCons (vVar 1) vNil)))))))
  (vRet (vC (.bl false)))
  vNext)
 (vDPut 1 (vOp vIxR (vVar 3) (vC (.int 0))) (vOp vIxR (vVar 3) (vC (.int 1)))))))))
 (vRet (vC (.bl true))))))
noncomputable abbrev N_is_pane:List Str:=["_law_found","_law_marks","_law_k","_law_row"]
theorem w_is_pane:∀ ds Q,g_is_pane ds Q→b_is_pane (En Q) (startD N_is_pane ds):=by
 rintro ds Q ⟨p,rfl,P,h⟩
 have pl:=P.len
 have nd:=rsorted_nd P.so
 have s1000:=line10000
 refine v_cut (fun τ=>τ=[some (.val (rowsL p)),none,none,none]) ?_ fun nx hnx=>?now
 case now =>
  dsimp! only [rowsL]
  exact hnx _ rfl
 rintro τ rfl
 refine v_cut (fun τ=>τ=[some (.val (rowsL p)),some (.own (dictD (([]:List Row).map prM))),none,none]) ?_ fun nx hnx=>?now
 case now =>
  dsimp! only [true_and]
  exact hnx _ rfl
 rintro τ rfl
 refine v_cut (fun τ=>∃ a b c,τ=[some (.val (rowsL p)),a,b,c]) ?_ fun nx hnx=>?now
 case now =>
  dsimp! only [rowsL]
  refine ⟨by lia,by lia,for_rng (fun i τ=>∃ a b,τ=[some (.val (rowsL p)),some (.own (dictD ((p.take i).map prM))),a,b]) ⟨none,none,rfl⟩ ?_ ?_⟩
  ·rintro i τ hi ⟨a,b,rfl⟩ nx2 hnx2
   have hi':i < p.length:=by lia
   have ey:p[i]?=some p[i]:=List.getElem?_eq_getElem hi'
   have st:=P.stand hi'
   have mr:p[i]∈p:=List.getElem_mem hi'
   have lt1:0 < i→∀ x,p[i - 1]?=some x→ltW x.1 p[i].1=true:=fun h0 x hx=>by
    obtain ⟨a1,a2⟩:=List.getElem?_eq_some_iff.mp hx
    have:=List.pairwise_iff_getElem.mp P.so (i - 1) i a1 hi' (by lia)
    rw [a2] at this
    exact this
   generalize p[i]=y at *
   have ay:atI (p.map rowD) (i:Int)=some (rowD y):=by
    obtain ⟨v,hv,hv2⟩:=at_nat (xs:=p) (k:=(i:Int)) (by lia) (by lia)
    rw [Int.toNat_natCast,ey] at hv2
    rw [atI_map,hv,← Option.some.inj hv2]
    rfl
   refine v_cut (fun τ=>τ=[some (.val (rowsL p)),some (.own (dictD ((p.take i).map prM))),some (.val (.int i)),some (.val (rowD y))]) ?_ fun nx3 hnx3=>?now
   case now =>
    dsimp! only [rowsL]
    exact ⟨_,ay,hnx3 _ rfl⟩
   rintro τ rfl
   refine v_cut (fun τ=>τ=[some (.val (rowsL p)),some (.own (dictD ((p.take i).map prM))),some (.val (.int i)),some (.val (rowD y))]) ?_ fun nx3 hnx3=>?now
   case now =>
    have e3:decide (((3:Nat):Int)=3)=true:=by decide
    dsimp! only [rowD,wayD]
    rw [e3]
    exact hnx3 _ rfl
   rintro τ rfl
   refine v_cut (fun τ=>τ=[some (.val (rowsL p)),some (.own (dictD ((p.take i).map prM))),some (.val (.int i)),some (.val (rowD y))]) ?_ fun nx3 hnx3=>?now
   case now =>
    dsimp! only [rowD]
    exact hnx3 _ rfl
   rintro τ rfl
   refine v_cut (fun τ=>τ=[some (.val (rowsL p)),some (.own (dictD ((p.take i).map prM))),some (.val (.int i)),some (.val (rowD y))]) ?_ fun nx3 hnx3=>?now
   case now =>
    have sd:∀ Y:R→Prop,Y (.val (.bl true))→g_stands [rowD y,dictD ((p.take i).map prM)] Y:=fun Y z=>⟨_,y,rfl,st,z⟩
    refine v_if (fun c=>c=false) (fun Y yy=>?test) (fun z=>by cases z) fun _=>hnx3 _ rfl
    case test =>
     dsimp! only [rowsL]
     by_cases q:(0:Int) < i
     ·rw [decide_eq_true q]
      obtain ⟨x,hx,hx2⟩:=at_nat (xs:=p) (k:=(i:Int) - 1) (by lia) (by lia)
      have ax:atI (p.map rowD) ((i:Int) - 1)=some (rowD x):=by rw [atI_map,hx]; rfl
      have lt:ltW x.1 y.1=true:=lt1 (by lia) x (by rw [← hx2]; congr 1; lia)
      have od:ordD (wayD x.1) (wayD y.1)=true:=by
       show ordD (.tup _) (.tup _)=true
       unfold ordD
       exact ord_strs x.1 y.1
      refine iteT ⟨_,ax,?_⟩
      dsimp! only [rowD]
      simp only [ltD_way,lt]
      refine ⟨od,depW _,iteF (sd _ ?_)⟩
      dsimp! only [true_and]
      exact yy _ rfl
     ·rw [decide_eq_false q]
      refine iteF (sd _ ?_)
      dsimp! only [true_and]
      exact yy _ rfl
   rintro τ rfl
   have tn:y.1∉(p.take i).map (·.1):=take_new nd ey
   dsimp! only [rowD,dictD,wayD]
   refine ⟨st.wy.ne,by rw [List.length_take]; lia,?_⟩
   rw [putD_pairs]
   have e:insP ((p.take i).map prM) y.1 (.str y.2.1)=(p.take (i+1)).map prM:=by
    unfold insP
    rw [ways_mk,if_neg tn,List.take_succ,ey,List.map_append]
    rfl
   rw [e]
   exact hnx2 _ ⟨_,_,rfl⟩
  ·rintro τ ⟨a,b,rfl⟩
   exact hnx _ ⟨_,a,b,rfl⟩
 rintro τ ⟨a,b,c,rfl⟩
 dsimp! only [true_and]
 exact h
theorem PaneF.pn {n:Nat} {p:List Row} (h:PaneF n p) (hn:n≤200):PnG p:=⟨h.ok.c,fun r hr=>(h.nm r hr).ok,Nat.le_trans h.len hn⟩
theorem PaneF.more {n k:Nat} {p:List Row} (h:PaneF n p) (hn:n≤k):PaneF k p:=⟨h.so,h.fs,h.mt,h.rt,h.nu,h.nm,Nat.le_trans h.len hn⟩
theorem bulk_le (p:List Row):bulk p≤p.length:=by
 unfold bulk
 exact List.length_filter_le _ _
noncomputable def b_law:TVS:=(vSeq (vSetO 1 (vLst vNil))
 (vIo 1 (vSeq (vSet 2 (vCallN g_cell_at (vCons (vVar 0) (vCons (vC (.int 0)) vNil))))
 (vSeq (vSet 3 (vC (.int 12)))
 (vSeq (vIfS (vBl (vOp vEq (vOp vMod (vOp vDiv (vVar 2) (vC (.int 6))) (vC (.int 8))) (vC (.int 3))))
  (vSet 3 (vC (.int 40)))
  vNext)
 (vSeq (vSetCI 4 g_pane_of 1 (vCons (vCallN g_big (vCons (vVar 0) (vCons (vC (.int 1)) vNil))) (vCons (vVar 3) vNil)))
 (vSeq (vSetCI 5 g_pane_of 1 (vCons (vCallN g_big (vCons (vVar 0) (vCons (vC (.int 2)) vNil))) (vCons (vVar 3) vNil)))
 (vSeq (vSetCI 6 g_tree_of 1 (vCons (vCallN g_big (vCons (vVar 0) (vCons (vC (.int 3)) vNil))) (vCons (vVar 3) vNil)))
 (vSeq (vIfS (vBl (vOp vEq (vOp vMod (vVar 2) (vC (.int 2))) (vC (.int 1))))
  (vSet 4 (vCallN g_over (vCons (vVar 4) (vCons (vVar 5) (vCons (vCallN g_big (vCons (vVar 0) (vCons (vC (.int 4)) vNil))) vNil)))))
  vNext)
 (vSeq (vIfS (vBl (vOp vGt (vOp vMod (vOp vDiv (vVar 2) (vC (.int 2))) (vC (.int 3))) (vC (.int 0))))
  (vSeq (vAsgI g_name_of 1 (vCons (vCallN g_big (vCons (vVar 0) (vCons (vC (.int 5)) vNil))) vNil) (vgTup 2 (vgCons (vgName 7) (vgCons (vgName 8) vgNil))))
 (vSet 6 (vCallN g_tree_under (vCons (vComp (vItems (vOp vAdd (vVar 4) (vVar 5))) (vgName 11) (fun _ Q=>Q true) (vOp vIxR (vVar 11) (vC (.int 0))) 1) (vCons (vVar 8) (vCons (vVar 7) vNil))))))
  vNext)
 (vSeq (vSet 9 (vCallN g_press (vCons (vF1 vList (vVar 4)) (vCons (vF1 vList (vVar 5)) vNil))))
 (vSeq (vIfS (vNotT (vBl (vCallN g_is_pane (vCons (vVar 9) vNil))))
  (vRet (vC (.bl false)))
  vNext)
 (vSeq (vFor (vItems (vLst (vCons (vVar 6) (vCons (vLst vNil) vNil)))) (vgName 10)
  (vIfS (vBl (vOp vNeD (vCallN g_laid (vCons (vVar 9) (vCons (vVar 10) vNil))) (vCallN g_laid (vCons (vVar 4) (vCons (vCallN g_laid (vCons (vVar 5) (vCons (vVar 10) vNil))) vNil)))))
  (vRet (vC (.bl false)))
  vNext))
 (vRet (vC (.bl true))))))))))))))))
noncomputable abbrev N_law:List Str:=["_law_script","_law_pool","_law_kind","_law_most","_law_upper","_law_lower","_law_tree","_law_name","_law_big_here","_law_found","_law_under"]
theorem w_law:∀ ds Q,g_law ds Q→b_law (En Q) (startD N_law ds):=by
 rintro ds Q ⟨ns,rfl,h⟩
 have s1000:=line10000
 refine v_cut (fun τ=>τ=[some (.val (.scr ns)),some (.own (.lst (([]:List Str).map D.str))),none,none,none,none,none,none,none,none,none]) ?_ fun nx hnx=>?now
 case now =>
  dsimp! only [true_and]
  exact hnx _ rfl
 rintro τ rfl
 show ∀ c:Addr,_
 intro c
 refine v_cut (fun τ=>∃ kd:Int,τ=[some (.val (.scr ns)),some (.own (.io c (([]:List Str).map D.str))),some (.val (.int kd)),none,none,none,none,none,none,none,none]) ?_ fun nx hnx=>?now
 case now =>
  dsimp! only [g_cell_at]
  exact hnx _ ⟨_,rfl⟩
 rintro τ ⟨kd,rfl⟩
 refine v_cut (fun τ=>τ=[some (.val (.scr ns)),some (.own (.io c (([]:List Str).map D.str))),some (.val (.int kd)),some (.val (.int 12)),none,none,none,none,none,none,none]) ?_ fun nx hnx=>?now
 case now =>
  dsimp! only [true_and]
  exact hnx _ rfl
 rintro τ rfl
 refine v_cut (fun τ=>∃ m:Int,(0≤m∧m≤40)∧τ=[some (.val (.scr ns)),some (.own (.io c (([]:List Str).map D.str))),some (.val (.int kd)),some (.val (.int m)),none,none,none,none,none,none,none]) ?_ fun nx hnx=>?now
 case now =>
  dsimp! only [true_and]
  split
  ·exact hnx _ ⟨40,by decide,rfl⟩
  ·exact hnx _ ⟨12,by decide,rfl⟩
 rintro τ ⟨m,⟨m0,m1⟩,rfl⟩
 have bg:∀ (k:Int) (Y:R→Prop),0≤k→(∀ i,Y (.val (.int i)))→g_big [.scr ns,.int k] Y:=fun k Y k0 y=>⟨ns,k,rfl,k0,y⟩
 have po:∀ (b:Int) (n:Nat) (zs:List Str) (Y:R→List D→Prop),n≤7000→Pool n zs→(∀ (p:List Row) (zs':List Str),PaneF 75 p→Pool (n+360) zs'→Y (.own (rowsL p)) (zs'.map D.str))→g_pane_of [.int b,.int m] (zs.map D.str) Y:=fun b n zs Y hn hp y=>⟨b,m,n,zs,rfl,rfl,m0,by lia,hn,hp,fun p zs' g f t q=>y p zs' ((PaneF.of g f t).more (by lia)) q⟩
 refine v_cut (fun τ=>∃ (u:List Row) (zs:List Str),(PaneF 75 u∧Pool 360 zs)∧τ=[some (.val (.scr ns)),some (.own (.io c (zs.map D.str))),some (.val (.int kd)),some (.val (.int m)),some (.val (rowsL u)),none,none,none,none,none,none]) ?_ fun nx hnx=>?now
 case now =>
  dsimp! only [true_and]
  refine bg _ _ (by decide) fun i=>?_
  dsimp! only [true_and]
  refine po i 0 [] _ (by decide) ⟨Nat.le_refl _,fun z hz=>by cases hz⟩ fun p zs' hp hz=>?_
  dsimp! only [true_and]
  exact hnx _ ⟨p,zs',⟨hp,hz.more (by lia)⟩,rfl⟩
 rintro τ ⟨u,zs,⟨U,hz⟩,rfl⟩
 refine v_cut (fun τ=>∃ (l:List Row) (zs:List Str),(PaneF 75 l∧Pool 720 zs)∧τ=[some (.val (.scr ns)),some (.own (.io c (zs.map D.str))),some (.val (.int kd)),some (.val (.int m)),some (.val (rowsL u)),some (.val (rowsL l)),none,none,none,none,none]) ?_ fun nx hnx=>?now
 case now =>
  dsimp! only [true_and]
  refine bg _ _ (by decide) fun i=>?_
  dsimp! only [true_and]
  refine po i 360 zs _ (by decide) hz fun p zs' hp hz=>?_
  dsimp! only [true_and]
  exact hnx _ ⟨p,zs',⟨hp,hz.more (by lia)⟩,rfl⟩
 clear hz zs
 rintro τ ⟨l,zs,⟨L,hz⟩,rfl⟩
 refine v_cut (fun τ=>∃ (t:List Row) (zs:List Str),(TreeF 451 t∧Pool 1080 zs)∧τ=[some (.val (.scr ns)),some (.own (.io c (zs.map D.str))),some (.val (.int kd)),some (.val (.int m)),some (.val (rowsL u)),some (.val (rowsL l)),some (.val (rowsL t)),none,none,none,none]) ?_ fun nx hnx=>?now
 case now =>
  have to:∀ (b:Int) (Y:R→List D→Prop),(∀ (p:List Row) (zs':List Str),TreeF 61 p→Pool (720+360) zs'→Y (.own (rowsL p)) (zs'.map D.str))→g_tree_of [.int b,.int m] (zs.map D.str) Y:=fun b Y y=>⟨b,m,720,zs,rfl,rfl,m0,by lia,by decide,hz,y⟩
  dsimp! only [true_and]
  refine bg _ _ (by decide) fun i=>?_
  dsimp! only [true_and]
  refine to i _ fun p zs' hp hz=>?_
  dsimp! only [true_and]
  exact hnx _ ⟨p,zs',⟨⟨hp.so,hp.cl,hp.nm,hp.l15,hp.mkd,Nat.le_trans hp.len (by decide)⟩,hz.more (by lia)⟩,rfl⟩
 clear hz zs
 rintro τ ⟨t,zs,⟨T,hz⟩,rfl⟩
 refine v_cut (fun τ=>∃ u:List Row,PaneF 150 u∧τ=[some (.val (.scr ns)),some (.own (.io c (zs.map D.str))),some (.val (.int kd)),some (.val (.int m)),some (.val (rowsL u)),some (.val (rowsL l)),some (.val (rowsL t)),none,none,none,none]) ?_ fun nx hnx=>?now
 case now =>
  have ov:∀ (b:Int) (Y:R→Prop),(∀ p,PaneF 150 p→Y (.own (rowsL p)))→g_over [rowsL u,rowsL l,.int b] Y:=fun b Y y=>⟨u,l,b,rfl,U,L,y⟩
  dsimp! only [true_and]
  split
  ·refine bg _ _ (by decide) fun i=>?_
   dsimp! only [true_and]
   refine ov _ _ fun p p1=>?_
   dsimp! only [true_and]
   exact hnx _ ⟨p,p1,rfl⟩
  ·exact hnx _ ⟨u,U.more (by decide),rfl⟩
 clear U u
 rintro τ ⟨u,U,rfl⟩
 have ul:=U.len
 have ll:=L.len
 refine v_cut (fun τ=>∃ (t:List Row) (x7 x8:Option R) (zs:List Str),TreeF 451 t∧τ=[some (.val (.scr ns)),some (.own (.io c (zs.map D.str))),some (.val (.int kd)),some (.val (.int m)),some (.val (rowsL u)),some (.val (rowsL l)),some (.val (rowsL t)),x7,x8,none,none]) ?_ fun nx hnx=>?now
 case now =>
  refine v_if (fun _=>True) (fun Y y=>?test) (fun _=>?yes) fun _=>hnx _ ⟨t,none,none,zs,T,rfl⟩
  case test =>
   dsimp! only [true_and]
   exact y _ trivial
  case yes =>
   refine v_cut (fun τ=>∃ (z:Str) (b:Int) (zs:List Str),NmZ z∧τ=[some (.val (.scr ns)),some (.own (.io c (zs.map D.str))),some (.val (.int kd)),some (.val (.int m)),some (.val (rowsL u)),some (.val (rowsL l)),some (.val (rowsL t)),some (.val (.str z)),some (.val (.int b)),none,none]) ?_ fun nx2 hnx2=>?now
   case now =>
    have no:∀ (b:Int) (Y:R→List D→Prop),(∀ (z:Str) (b':Int) (zs':List Str),NmZ z→Pool (1080+1) zs'→Y (.val (.tup [.str z,.int b'])) (zs'.map D.str))→g_name_of [.int b] (zs.map D.str) Y:=fun b Y y=>⟨b,1080,zs,rfl,rfl,by decide,hz,y⟩
    dsimp! only [true_and]
    refine bg _ _ (by decide) fun i=>?_
    dsimp! only [true_and]
    refine no i _ fun z b' zs' nz hz=>?_
    dsimp! only [true_and]
    exact hnx2 _ ⟨z,b',zs',nz,rfl⟩
   clear hz zs
   rintro τ ⟨z,b,zs,nz,rfl⟩
   have tu:∀ Y:R→Prop,(∀ p,TreeF 451 p→Y (.own (rowsL p)))→g_tree_under [.lst ((u++l).map fun r=>wayD r.1),.int b,.str z] Y:=fun Y y=>⟨(u++l).map (·.1),b,z,by rw [List.map_map]; rfl,(fun w hw=>by
    obtain ⟨r,mr,e⟩:=List.mem_map.mp hw
    rw [← e]
    rcases List.mem_append.mp mr with mr | mr
    ·exact U.nm r mr
    ·exact L.nm r mr),by rw [List.length_map,List.length_append]; lia,nz,y⟩
   dsimp! only [rowsL]
   refine ⟨by lia,?_⟩
   rw [← List.map_append]
   refine comp_map (fun r=>wayD r.1) (u++l) (by rw [List.length_append]; lia) (fun r hr Y N y1=>?_) ?_
   ·dsimp! only [rowD]
    exact y1
   ·dsimp! only [true_and]
    refine tu _ fun q hq=>?_
    dsimp! only [rowsL]
    exact hnx _ ⟨q,_,_,zs,hq,rfl⟩
 clear T t hz zs
 rintro τ ⟨t,x7,x8,zs,T,rfl⟩
 refine v_cut (fun τ=>τ=[some (.val (.scr ns)),some (.own (.io c (zs.map D.str))),some (.val (.int kd)),some (.val (.int m)),some (.val (rowsL u)),some (.val (rowsL l)),some (.val (rowsL t)),x7,x8,some (.val (rowsL (pressR u l))),none]) ?_ fun nx hnx=>?now
 case now =>
  have pr:∀ Y:R→Prop,Y (.own (rowsL (pressR u l)))→g_press [rowsL u,rowsL l] Y:=fun Y y=>⟨u,l,rfl,U.pn (by decide),L.pn (by decide),y⟩
  unfold rowsL at pr
  dsimp! only [rowsL]
  refine pr _ ?_
  dsimp! only [true_and]
  exact hnx _ rfl
 rintro τ rfl
 have F:=press_pane U L
 refine v_cut (fun τ=>τ=[some (.val (.scr ns)),some (.own (.io c (zs.map D.str))),some (.val (.int kd)),some (.val (.int m)),some (.val (rowsL u)),some (.val (rowsL l)),some (.val (rowsL t)),x7,x8,some (.val (rowsL (pressR u l))),none]) ?_ fun nx hnx=>?now
 case now =>
  have ip:∀ Y:R→Prop,Y (.val (.bl true))→g_is_pane [rowsL (pressR u l)] Y:=fun Y y=>⟨_,rfl,F.more (by decide),y⟩
  dsimp! only [true_and]
  refine ip _ ?_
  dsimp! only [true_and]
  exact hnx _ rfl
 rintro τ rfl
 have fl:=F.len
 have bu:=bulk_le u
 have bl:=bulk_le l
 have bf:=bulk_le (pressR u l)
 have nm:∀ {n:Nat} {p:List Row},PaneF n p→NmOk p:=fun h r hr=>(h.nm r hr).ok
 have ld:∀ (p q:List Row) (Y:R→Prop),PaneOk p→NmOk p→p.length≤250→TreeOk q→NmOk q→q.length+bulk p≤700→(TreeOk (laidR p q)→NmOk (laidR p q)→(laidR p q).length≤q.length+bulk p→Y (.own (rowsL (laidR p q))))→g_laid [rowsL p,rowsL q] Y:=fun p q Y a b c d e f y=>⟨p,q,rfl,a,b,c,d,e,f,y⟩
 have T0:TreeF 451 []:=⟨.nil,(fun r hr=>by cases hr),(fun r hr=>by cases hr),(fun r hr=>by cases hr),(fun r hr=>by cases hr),Nat.zero_le _⟩
 refine v_cut (fun τ=>∃ x10,τ=[some (.val (.scr ns)),some (.own (.io c (zs.map D.str))),some (.val (.int kd)),some (.val (.int m)),some (.val (rowsL u)),some (.val (rowsL l)),some (.val (rowsL t)),x7,x8,some (.val (rowsL (pressR u l))),x10]) ?_ fun nx hnx=>?now
 case now =>
  dsimp! only [true_and]
  refine ⟨by decide,?_⟩
  have e2:[rowsL t,D.lst []]=[t,[]].map rowsL:=rfl
  rw [e2]
  refine for_map (fun _ τ=>∃ x10,τ=[some (.val (.scr ns)),some (.own (.io c (zs.map D.str))),some (.val (.int kd)),some (.val (.int m)),some (.val (rowsL u)),some (.val (rowsL l)),some (.val (rowsL t)),x7,x8,some (.val (rowsL (pressR u l))),x10]) ⟨none,rfl⟩ ?_ ?_
  ·rintro i s τ hs ⟨x10,rfl⟩ nx2 hnx2
   have Ts:TreeF 451 s:=by
    have:=List.mem_of_getElem? hs
    simp only [List.mem_cons,List.not_mem_nil,or_false] at this
    rcases this with e | e
    ·rw [e]; exact T
    ·rw [e]; exact T0
   have sl:=Ts.len
   refine v_if (fun c=>c=false) (fun Y y=>?test) (fun z=>by cases z) fun _=>hnx2 _ ⟨_,rfl⟩
   case test =>
    dsimp! only [true_and]
    refine ld _ s _ F.ok (nm F) (by lia) Ts.tree Ts.nm (by lia) fun _ _ _=>?_
    dsimp! only [true_and]
    refine ld l s _ L.ok (nm L) (by lia) Ts.tree Ts.nm (by lia) fun t1 t2 t3=>?_
    dsimp! only [true_and]
    refine ld u _ _ U.ok (nm U) (by lia) t1 t2 (by lia) fun _ _ _=>?_
    dsimp! only [true_and]
    rw [laid_press U L Ts.tree]
    refine ⟨cmpRL _ _,Nat.le_trans (depRL _) (by decide),y _ ?_⟩
    rw [eqD_refl]
    rfl
  ·rintro τ ⟨x10,rfl⟩
   exact hnx _ ⟨x10,rfl⟩
 rintro τ ⟨x10,rfl⟩
 dsimp! only [true_and]
 exact h
theorem law_sp {K:PySem.W.Frag} {H:Hp} {a:Addr} (ns:List Int) (_:ns.length≤63) (hS:SqL K H a (ns.map V.int)) {E:XK}:spOf K g_law [.ref a] H (fun v _=>v=.bl true) E:=spOf_law ⟨ns,rfl,rfl⟩ hS
noncomputable def top (i:Nat):Stmt:=PySem.Challenge.pw_glasslayers_k18_pressed_as_two.main.body.getD i (.Pass ⟨0,0,0,0⟩)
noncomputable abbrev s_above:Stmt:=top 1
noncomputable abbrev s_in_order:Stmt:=top 3
noncomputable abbrev s_marks_of:Stmt:=top 5
noncomputable abbrev s_hides:Stmt:=top 6
noncomputable abbrev s_hidden_ways:Stmt:=top 7
noncomputable abbrev s_left_alone:Stmt:=top 8
noncomputable abbrev s_pressed_mark:Stmt:=top 10
noncomputable abbrev s_changed_entries:Stmt:=top 11
noncomputable abbrev s_press:Stmt:=top 12
noncomputable abbrev s_cell_at:Stmt:=top 14
noncomputable abbrev s_big:Stmt:=top 15
noncomputable abbrev s_name_of:Stmt:=top 16
noncomputable abbrev s_signs_of:Stmt:=top 17
noncomputable abbrev s_words_of:Stmt:=top 18
noncomputable abbrev s_text_of:Stmt:=top 19
noncomputable abbrev s_tree_of:Stmt:=top 20
noncomputable abbrev s_under_shut:Stmt:=top 21
noncomputable abbrev s_pane_of:Stmt:=top 22
noncomputable abbrev s_tree_under:Stmt:=top 23
noncomputable abbrev s_laid:Stmt:=top 24
noncomputable abbrev s_tidied:Stmt:=top 25
noncomputable abbrev s_stands:Stmt:=top 26
noncomputable abbrev s_is_pane:Stmt:=top 27
noncomputable abbrev s_over:Stmt:=top 28
noncomputable abbrev s_law:Stmt:=top 29
structure Blt (K:PySem.W.Frag) (mg:Str→Option Value):Prop where
 isinstance:mg "isinstance" = none
 len:mg "len" = none
 list:mg "list" = none
 range:mg "range" = none
 sorted:mg "sorted" = none
 str:mg "str" = none
 tuple:mg "tuple" = none
section
variable {P:Program} {w:World} {K:PySem.W.Frag} {mg:Str→Option Value} {base:Heap} {f:Addr} {fd:FuncData}
theorem sc_cell_at:FnScope ["_law_script","_law_k"] ["_law_script","_law_k"] (defScope s_cell_at):=⟨rfl,rfl,rfl,by decide +kernel,rfl,by decide +kernel,by decide +kernel⟩
theorem ok_cell_at (F:Fun K "_law_cell_at" "_law_cell_at" s_cell_at f fd) (B:Blt K mg):FnOk P w K mg base CX0 1 f fd ["_law_script","_law_k"] (spOf K g_cell_at) :=
 F.okV sc_cell_at len_cell_at fun cdv A outer s H E hr=>⟨b_cell_at,(vss_cons (vs_if (vt_cmp vo_lt (vv 1) (ve_fb vf_len rfl B.len PyProof.Rows.Boot.«len» (vv 0)))
   (vss_one (vs_ret (ve_ix vx_seq (vv 0) (vv 1))))
   vss_nil)
  (vss_one (vs_ret ve_int))),w_cell_at⟩
theorem sc_name_of:FnScope ["_law_big_here","_law_pool","_law_signs","_law_kind","_law_name","_law_size","_law_k"] ["_law_big_here","_law_pool"] (defScope s_name_of):=⟨rfl,rfl,rfl,by decide +kernel,rfl,by decide +kernel,by decide +kernel⟩
theorem ok_name_of (F:Fun K "_law_name_of" "_law_name_of" s_name_of f fd) (B:Blt K mg):FnOk P w K mg base CX0 1 f fd ["_law_big_here","_law_pool"] (spOfI K g_name_of 1) :=
 F.okI (k:=1) sc_name_of len_name_of fun cdv A outer s H E hr=>⟨b_name_of,(vss_cons (vs_set (i:=2) sc_name_of.nd rfl (Or.inl rfl) ve_str)
  (vss_cons (vs_set (i:=3) sc_name_of.nd rfl (Or.inl rfl) (ve_op vo_mod (vv 0) ve_int))
  (vss_cons (vs_set (i:=0) sc_name_of.nd rfl (Or.inl rfl) (ve_op vo_div (vv 0) ve_int))
  (vss_cons (vs_if (vw_t (vw_and (vt_cmp vo_gt (vv 3) ve_int) (vw_and1 (vt_cmp (vo_neD hr.units) (vvI 1) (ve_lst va_nil)))))
   (vss_one (vs_retI (ve_tup (vac (ve_ix vx_seq (vvI 1) (ve_op vo_mod (vv 0) (ve_fb vf_len rfl B.len PyProof.Rows.Boot.«len» (vvI 1)))) (vac (ve_op vo_div (vv 0) (ve_fb vf_len rfl B.len PyProof.Rows.Boot.«len» (vvI 1))) va_nil)))))
   vss_nil)
  (vss_cons (vs_set (i:=4) sc_name_of.nd rfl (Or.inl rfl) ve_str)
  (vss_cons (vs_if (vw_t (vw_and (vt_cmp (vo_eq hr.units) (vv 3) ve_int) (vw_and1 (vt_cmp (vo_neD hr.units) (vvI 1) (ve_lst va_nil)))))
   (vss_cons (vs_set (i:=4) sc_name_of.nd rfl (Or.inl rfl) (ve_slice (ve_ix vx_seq (vvI 1) (ve_op vo_mod (vv 0) (ve_fb vf_len rfl B.len PyProof.Rows.Boot.«len» (vvI 1)))) vp_none (vp_some ve_int)))
  (vss_one (vs_set (i:=0) sc_name_of.nd rfl (Or.inl rfl) (ve_op vo_div (vv 0) (ve_fb vf_len rfl B.len PyProof.Rows.Boot.«len» (vvI 1))))))
   vss_nil)
  (vss_cons (vs_set (i:=5) sc_name_of.nd rfl (Or.inl rfl) (ve_op vo_add ve_int (ve_op vo_mod (vv 0) (ve_op vo_sub ve_int (ve_fb vf_len rfl B.len PyProof.Rows.Boot.«len» (vv 4))))))
  (vss_cons (vs_set (i:=0) sc_name_of.nd rfl (Or.inl rfl) (ve_op vo_div (vv 0) (ve_op vo_sub ve_int (ve_fb vf_len rfl B.len PyProof.Rows.Boot.«len» (vv 4)))))
  (vss_cons (vs_for PassesOwn.never rfl (vi_rng1 rfl B.range (vv 5)) (vg_name (i:=6) sc_name_of.nd rfl (Or.inl rfl))
   (vss_cons (vs_set (i:=4) sc_name_of.nd rfl (Or.inl rfl) (ve_op vo_add (vv 4) (ve_ix vx_seq (vv 2) (ve_op vo_mod (vv 0) ve_int))))
  (vss_one (vs_set (i:=0) sc_name_of.nd rfl (Or.inl rfl) (ve_op vo_div (vv 0) ve_int)))))
  (vss_cons (vs_appendI 1 (vv 4))
  (vss_one (vs_retI (ve_tup (vac (vv 4) (vac (vv 0) va_nil))))))))))))))),w_name_of⟩
theorem sc_under_shut:FnScope ["_law_things","_law_way","_law_k"] ["_law_things","_law_way"] (defScope s_under_shut):=⟨rfl,rfl,rfl,by decide +kernel,rfl,by decide +kernel,by decide +kernel⟩
theorem ok_under_shut (F:Fun K "_law_under_shut" "_law_under_shut" s_under_shut f fd) (B:Blt K mg):FnOk P w K mg base CX0 1 f fd ["_law_things","_law_way"] (spOf K g_under_shut) :=
 F.okV sc_under_shut len_under_shut fun cdv A outer s H E hr=>⟨b_under_shut,(vss_cons (vs_for PassesOwn.never rfl (vi_rng1 rfl B.range (ve_fb vf_len rfl B.len PyProof.Rows.Boot.«len» (vv 1))) (vg_name (i:=2) sc_under_shut.nd rfl (Or.inl rfl))
   (vss_one (vs_if (vw_t (vw_and (vt_din hr.dict (ve_slice (vv 1) vp_none (vp_some (vv 2))) (vv 0)) (vw_and1 (vt_cmp (vo_eq hr.units) (ve_ix vx_seq (ve_dget hr.dict (vv 0) (ve_slice (vv 1) vp_none (vp_some (vv 2)))) ve_int) ve_str))))
   (vss_one (vs_ret ve_bl))
   vss_nil)))
  (vss_one (vs_ret ve_bl))),w_under_shut⟩
theorem sc_signs_of:FnScope ["_law_big_here","_law_most","_law_some","_law_size","_law_text","_law_k"] ["_law_big_here","_law_most"] (defScope s_signs_of):=⟨rfl,rfl,rfl,by decide +kernel,rfl,by decide +kernel,by decide +kernel⟩
theorem ok_signs_of (F:Fun K "_law_signs_of" "_law_signs_of" s_signs_of f fd) (B:Blt K mg):FnOk P w K mg base CX0 1 f fd ["_law_big_here","_law_most"] (spOf K g_signs_of) :=
 F.okV sc_signs_of len_signs_of fun cdv A outer s H E hr=>⟨b_signs_of,(vss_cons (vs_set (i:=2) sc_signs_of.nd rfl (Or.inl rfl) ve_str)
  (vss_cons (vs_set (i:=2) sc_signs_of.nd rfl (Or.inl rfl) (ve_op vo_add (vv 2) ve_str))
  (vss_cons (vs_set (i:=3) sc_signs_of.nd rfl (Or.inl rfl) (ve_op vo_mod (vv 0) (ve_op vo_add (vv 1) ve_int)))
  (vss_cons (vs_set (i:=0) sc_signs_of.nd rfl (Or.inl rfl) (ve_op vo_div (vv 0) (ve_op vo_add (vv 1) ve_int)))
  (vss_cons (vs_set (i:=4) sc_signs_of.nd rfl (Or.inl rfl) ve_str)
  (vss_cons (vs_for PassesOwn.never rfl (vi_rng1 rfl B.range (vv 3)) (vg_name (i:=5) sc_signs_of.nd rfl (Or.inl rfl))
   (vss_cons (vs_set (i:=4) sc_signs_of.nd rfl (Or.inl rfl) (ve_op vo_add (vv 4) (ve_ix vx_seq (vv 2) (ve_op vo_mod (vv 0) ve_int))))
  (vss_one (vs_set (i:=0) sc_signs_of.nd rfl (Or.inl rfl) (ve_op vo_div (vv 0) ve_int)))))
  (vss_one (vs_ret (ve_tup (vac (vv 4) (vac (vv 0) va_nil))))))))))),w_signs_of⟩
theorem sc_words_of:FnScope ["_law_big_here","_law_many","_law_pool","_law_words","_law_k","_law_word","_law_kind"] ["_law_big_here","_law_many","_law_pool"] (defScope s_words_of):=⟨rfl,rfl,rfl,by decide +kernel,rfl,by decide +kernel,by decide +kernel⟩
theorem ok_words_of (F:Fun K "_law_words_of" "_law_words_of" s_words_of f fd) (B:Blt K mg) (Cname_of:Cal P w K mg base 1 "_law_name_of" ["_law_big_here","_law_pool"] (spOfI K g_name_of 1)):FnOk P w K mg base CX0 2 f fd ["_law_big_here","_law_many","_law_pool"] (spOfI K g_words_of 2) :=
 F.okI (k:=2) sc_words_of len_words_of fun cdv A outer s H E hr=>⟨b_words_of,(vss_cons (vs_setO (i:=3) sc_words_of.nd rfl (Or.inl rfl) (ve_lst va_nil))
  (vss_cons (vs_for PassesOwn.never rfl (vi_rng1 rfl B.range (vv 1)) (vg_name (i:=4) sc_words_of.nd rfl (Or.inl rfl))
   (vss_cons (vs_set (i:=5) sc_words_of.nd rfl (Or.inl rfl) (ve_ix vx_seq (ve_tup (vac ve_str (vac ve_str va_nil))) (ve_op vo_mod (vv 0) ve_int)))
  (vss_cons (vs_set (i:=6) sc_words_of.nd rfl (Or.inl rfl) (ve_op vo_mod (ve_op vo_div (vv 0) ve_int) ve_int))
  (vss_cons (vs_set (i:=0) sc_words_of.nd rfl (Or.inl rfl) (ve_op vo_div (vv 0) ve_int))
  (vss_cons (vs_if (vt_cmp (vo_eq hr.units) (vv 6) ve_int)
   (vss_one (vs_asgI Cname_of (hr.mono (by decide)) rfl (vai_c (vv 0) (vai_here 2 va_nil)) (vg_tup rfl (vgs_cons (vg_name (i:=5) sc_words_of.nd rfl (Or.inl rfl)) (vgs_cons (vg_name (i:=0) sc_words_of.nd rfl (Or.inl rfl)) vgs_nil)))))
   vss_nil)
  (vss_one (vs_append 3 (vv 5))))))))
  (vss_frz 3 (vss_one (vs_retI (ve_tup (vac (vv 3) (vac (vv 0) va_nil)))))))),w_words_of⟩
theorem sc_text_of:FnScope ["_law_mark","_law_big_here","_law_pool","_law_rooted","_law_words"] ["_law_mark","_law_big_here","_law_pool"] (defScope s_text_of):=⟨rfl,rfl,rfl,by decide +kernel,rfl,by decide +kernel,by decide +kernel⟩
theorem ok_text_of (F:Fun K "_law_text_of" "_law_text_of" s_text_of f fd) (B:Blt K mg) (Csigns_of:Cal P w K mg base 1 "_law_signs_of" ["_law_big_here","_law_most"] (spOf K g_signs_of)) (Cwords_of:Cal P w K mg base 2 "_law_words_of" ["_law_big_here","_law_many","_law_pool"] (spOfI K g_words_of 2)):FnOk P w K mg base CX0 3 f fd ["_law_mark","_law_big_here","_law_pool"] (spOfI K g_text_of 2) :=
 F.okI (k:=2) sc_text_of len_text_of fun cdv A outer s H E hr=>⟨b_text_of,(vss_cons (vs_if (vt_cmp (vo_eq hr.units) (vv 0) ve_str)
   (vss_one (vs_retI (ve_cal Csigns_of (hr.mono (by decide)) rfl (vac (vv 1) (vac ve_int va_nil)))))
   vss_nil)
  (vss_cons (vs_if (vt_cmp (vo_neD hr.units) (vv 0) ve_str)
   (vss_one (vs_retI (ve_tup (vac ve_str (vac (vv 1) va_nil)))))
   vss_nil)
  (vss_cons (vs_set (i:=3) sc_text_of.nd rfl (Or.inl rfl) (ve_op vo_mod (vv 1) ve_int))
  (vss_cons (vs_asgI Cwords_of (hr.mono (by decide)) rfl (vai_c (ve_op vo_div (vv 1) ve_int) (vai_c (ve_op vo_sub (ve_op vo_add (ve_op vo_mod (ve_op vo_div (vv 1) ve_int) ve_int) ve_int) (vv 3)) (vai_here 2 va_nil))) (vg_tup rfl (vgs_cons (vg_name (i:=4) sc_text_of.nd rfl (Or.inl rfl)) (vgs_cons (vg_name (i:=1) sc_text_of.nd rfl (Or.inl rfl)) vgs_nil))))
  (vss_one (vs_retI (ve_tup (vac (ve_op vo_add (ve_op vo_mulS ve_str (vv 3)) (ve_join ve_str (vv 4))) (vac (vv 1) va_nil))))))))),w_text_of⟩
theorem sc_pane_of:FnScope ["_law_big_here","_law_most","_law_pool","_law_things","_law_folders","_law_many","_law_k","_law_over_here","_law_mark","_law_name","_law_way","_law_text"] ["_law_big_here","_law_most","_law_pool"] (defScope s_pane_of):=⟨rfl,rfl,rfl,by decide +kernel,rfl,by decide +kernel,by decide +kernel⟩
theorem cs_pane_of0:CompScope (defScope s_pane_of) ["_law_big_here","_law_most","_law_pool","_law_things","_law_folders","_law_many","_law_k","_law_over_here","_law_mark","_law_name","_law_way","_law_text"] ["_law_big_here","_law_most","_law_pool","_law_things","_law_folders","_law_many","_law_k","_law_over_here","_law_mark","_law_name","_law_way'","_law_text","_law_way"] ["_law_way"] ({ kind:=PySem.ScopeKind.function,names:=[ (PySem.Str.ofString ".0",PySem.NameKind.local),(PySem.Str.ofString "_law_way",PySem.NameKind.local),(PySem.Str.ofString "_law_things",PySem.NameKind.free)],isGenerator:=false,isCoroutine:=false,more:=[]:PySem.Scope }):=⟨rfl,by decide +kernel,by decide +kernel,by decide +kernel,by decide +kernel,rfl,by decide +kernel⟩
theorem ok_pane_of (F:Fun K "_law_pane_of" "_law_pane_of" s_pane_of f fd) (B:Blt K mg) (Cname_of:Cal P w K mg base 1 "_law_name_of" ["_law_big_here","_law_pool"] (spOfI K g_name_of 1)) (Cunder_shut:Cal P w K mg base 1 "_law_under_shut" ["_law_things","_law_way"] (spOf K g_under_shut)) (Ctext_of:Cal P w K mg base 3 "_law_text_of" ["_law_mark","_law_big_here","_law_pool"] (spOfI K g_text_of 2)):FnOk P w K mg base CX0 4 f fd ["_law_big_here","_law_most","_law_pool"] (spOfI K g_pane_of 2) :=
 F.okI (k:=2) sc_pane_of len_pane_of fun cdv A outer s H E hr=>⟨b_pane_of,(vss_cons (vs_setO (i:=3) sc_pane_of.nd rfl (Or.inr rfl) ve_dnewT)
  (vss_cons (vs_setO (i:=4) sc_pane_of.nd rfl (Or.inl rfl) (ve_lst (vac (ve_tup va_nil) va_nil)))
  (vss_cons (vs_if (vt_cmp (vo_eq hr.units) (ve_op vo_mod (vv 0) ve_int) ve_int)
   (vss_one (vs_dput 3 hr.dict (ve_tup va_nil) (ve_tup (vac ve_str (vac ve_str va_nil)))))
   vss_nil)
  (vss_cons (vs_set (i:=5) sc_pane_of.nd rfl (Or.inl rfl) (ve_op vo_mod (ve_op vo_div (vv 0) ve_int) (ve_op vo_add (vv 1) ve_int)))
  (vss_cons (vs_set (i:=0) sc_pane_of.nd rfl (Or.inl rfl) (ve_op vo_div (ve_op vo_div (vv 0) ve_int) (ve_op vo_add (vv 1) ve_int)))
  (vss_cons (vs_for PassesOwn.never rfl (vi_rng1 rfl B.range (vv 5)) (vg_name (i:=6) sc_pane_of.nd rfl (Or.inl rfl))
   (vss_cons (vs_set (i:=7) sc_pane_of.nd rfl (Or.inl rfl) (ve_ix vx_seq (vv 4) (ve_op vo_mod (vv 0) (ve_fb vf_len rfl B.len PyProof.Rows.Boot.«len» (vv 4)))))
  (vss_cons (vs_set (i:=0) sc_pane_of.nd rfl (Or.inl rfl) (ve_op vo_div (vv 0) (ve_fb vf_len rfl B.len PyProof.Rows.Boot.«len» (vv 4))))
  (vss_cons (vs_set (i:=8) sc_pane_of.nd rfl (Or.inl rfl) (ve_ix vx_seq (ve_tup (vac ve_str (vac ve_str (vac ve_str (vac ve_str (vac ve_str va_nil)))))) (ve_op vo_mod (vv 0) ve_int)))
  (vss_cons (vs_asgI Cname_of (hr.mono (by decide)) rfl (vai_c (ve_op vo_div (vv 0) ve_int) (vai_here 2 va_nil)) (vg_tup rfl (vgs_cons (vg_name (i:=9) sc_pane_of.nd rfl (Or.inl rfl)) (vgs_cons (vg_name (i:=0) sc_pane_of.nd rfl (Or.inl rfl)) vgs_nil))))
  (vss_cons (vs_set (i:=10) sc_pane_of.nd rfl (Or.inl rfl) (ve_op vo_add (vv 7) (ve_tup (vac (vv 9) va_nil))))
  (vss_cons (vs_if (vw_t (vw_and (vt_cmp vo_in (vv 8) (ve_tup (vac ve_str (vac ve_str va_nil)))) (vw_and1 (vt_val (ve_calB (i:=3) Cunder_shut (hr.mono (by decide)) rfl (vac (vv 10) va_nil))))))
   (vss_one (vs_set (i:=8) sc_pane_of.nd rfl (Or.inl rfl) ve_str))
   vss_nil)
  (vss_cons (vs_asgI Ctext_of (hr.mono (by decide)) rfl (vai_c (vv 8) (vai_c (vv 0) (vai_here 2 va_nil))) (vg_tup rfl (vgs_cons (vg_name (i:=11) sc_pane_of.nd rfl (Or.inl rfl)) (vgs_cons (vg_name (i:=0) sc_pane_of.nd rfl (Or.inl rfl)) vgs_nil))))
  (vss_one (vs_if (vw_t (vw_and (vt_dnotin hr.dict (vv 10) (vv 3)) (vw_and1 (vt_cmp vo_lt (ve_fb vf_len rfl B.len PyProof.Rows.Boot.«len» (vv 10)) ve_int))))
   (vss_cons (vs_dput 3 hr.dict (vv 10) (ve_tup (vac (vv 8) (vac (vv 11) va_nil))))
  (vss_one (vs_if (vt_cmp vo_in (vv 8) (ve_tup (vac ve_str (vac ve_str va_nil))))
   (vss_one (vs_append 4 (vv 10)))
   vss_nil)))
   vss_nil))))))))))
  (vss_one (vs_retI (vc_e (vc_comp (M:=["_law_way"]) (vi_any (ve_fb (vf_sorted hr.units) rfl B.sorted PyProof.Rows.Boot.«sorted» (ve_ft (vf_listD hr.hd) rfl B.list PyProof.Rows.Boot.«list» (vv 3)))) rfl cs_pane_of0 (fun cl C s2 H2 fp pn=>(vg_name (i:=12) (cs_pane_of0).nd rfl (Or.inl rfl))) (fun cl C s2 H2 fp pn=>vfs_nil) (fun cl C s2 H2 fp pn=>(ve_op vo_add (ve_tup (vac (vv 12) va_nil)) (ve_dget hr.dict (vv 3) (vv 12)))))))))))))),w_pane_of⟩
theorem sc_big:FnScope ["_law_script","_law_at","_law_by","_law_prime","_law_cell","_law_big_here","_law_k","_law_one"] ["_law_script","_law_at"] (defScope s_big):=⟨rfl,rfl,rfl,by decide +kernel,rfl,by decide +kernel,by decide +kernel⟩
theorem ok_big (F:Fun K "_law_big" "_law_big" s_big f fd) (B:Blt K mg) (Ccell_at:Cal P w K mg base 1 "_law_cell_at" ["_law_script","_law_k"] (spOf K g_cell_at)):FnOk P w K mg base CX0 2 f fd ["_law_script","_law_at"] (spOf K g_big) :=
 F.okV sc_big len_big fun cdv A outer s H E hr=>⟨b_big,(vss_cons (vs_set (i:=2) sc_big.nd rfl (Or.inl rfl) (ve_tup (vac ve_int (vac ve_int (vac ve_int (vac ve_int (vac ve_int (vac ve_int (vac ve_int (vac ve_int va_nil))))))))))
  (vss_cons (vs_set (i:=3) sc_big.nd rfl (Or.inl rfl) (ve_tup (vac ve_int (vac ve_int (vac ve_int (vac ve_int (vac ve_int (vac ve_int (vac ve_int (vac ve_int va_nil))))))))))
  (vss_cons (vs_set (i:=4) sc_big.nd rfl (Or.inl rfl) (ve_cal Ccell_at (hr.mono (by decide)) rfl (vac (vv 0) (vac (vv 1) va_nil))))
  (vss_cons (vs_if (vt_cmp (vo_eq hr.units) (ve_op vo_mod (vv 4) ve_int) ve_int)
   (vss_one (vs_ret (ve_op vo_div (vv 4) ve_int)))
   vss_nil)
  (vss_cons (vs_set (i:=5) sc_big.nd rfl (Or.inl rfl) ve_int)
  (vss_cons (vs_for PassesOwn.never rfl (vi_rng1 rfl B.range ve_int) (vg_name (i:=6) sc_big.nd rfl (Or.inl rfl))
   (vss_cons (vs_set (i:=7) sc_big.nd rfl (Or.inl rfl) (ve_op vo_add (ve_op vo_add (ve_op vo_mod (ve_cal Ccell_at (hr.mono (by decide)) rfl (vac (vv 0) (vac (ve_op vo_add (vv 1) (ve_op vo_mod (vv 6) ve_int)) va_nil))) (ve_op vo_pow ve_int ve_int)) ve_int) (ve_op vo_mul (vv 6) (vv 6))))
  (vss_one (vs_set (i:=5) sc_big.nd rfl (Or.inl rfl) (ve_op vo_add (ve_op vo_mul (vv 5) ve_int) (ve_op vo_mod (ve_op vo_mod (ve_op vo_mul (vv 7) (ve_ix vx_seq (vv 2) (ve_op vo_mod (vv 6) ve_int))) (ve_ix vx_seq (vv 3) (ve_op vo_mod (vv 6) ve_int))) ve_int))))))
  (vss_one (vs_ret (vv 5))))))))),w_big⟩
theorem sc_tree_of:FnScope ["_law_big_here","_law_most","_law_pool","_law_things","_law_folders","_law_many","_law_k","_law_over_here","_law_mark","_law_name","_law_text","_law_way"] ["_law_big_here","_law_most","_law_pool"] (defScope s_tree_of):=⟨rfl,rfl,rfl,by decide +kernel,rfl,by decide +kernel,by decide +kernel⟩
theorem cs_tree_of0:CompScope (defScope s_tree_of) ["_law_big_here","_law_most","_law_pool","_law_things","_law_folders","_law_many","_law_k","_law_over_here","_law_mark","_law_name","_law_text","_law_way"] ["_law_big_here","_law_most","_law_pool","_law_things","_law_folders","_law_many","_law_k","_law_over_here","_law_mark","_law_name","_law_text","_law_way'","_law_way"] ["_law_way"] ({ kind:=PySem.ScopeKind.function,names:=[ (PySem.Str.ofString ".0",PySem.NameKind.local),(PySem.Str.ofString "_law_way",PySem.NameKind.local),(PySem.Str.ofString "_law_things",PySem.NameKind.free)],isGenerator:=false,isCoroutine:=false,more:=[]:PySem.Scope }):=⟨rfl,by decide +kernel,by decide +kernel,by decide +kernel,by decide +kernel,rfl,by decide +kernel⟩
theorem ok_tree_of (F:Fun K "_law_tree_of" "_law_tree_of" s_tree_of f fd) (B:Blt K mg) (Cname_of:Cal P w K mg base 1 "_law_name_of" ["_law_big_here","_law_pool"] (spOfI K g_name_of 1)) (Ctext_of:Cal P w K mg base 3 "_law_text_of" ["_law_mark","_law_big_here","_law_pool"] (spOfI K g_text_of 2)):FnOk P w K mg base CX0 4 f fd ["_law_big_here","_law_most","_law_pool"] (spOfI K g_tree_of 2) :=
 F.okI (k:=2) sc_tree_of len_tree_of fun cdv A outer s H E hr=>⟨b_tree_of,(vss_cons (vs_setO (i:=3) sc_tree_of.nd rfl (Or.inr rfl) ve_dnewT)
  (vss_cons (vs_setO (i:=4) sc_tree_of.nd rfl (Or.inl rfl) (ve_lst (vac (ve_tup va_nil) va_nil)))
  (vss_cons (vs_set (i:=5) sc_tree_of.nd rfl (Or.inl rfl) (ve_op vo_mod (vv 0) (ve_op vo_add (vv 1) ve_int)))
  (vss_cons (vs_set (i:=0) sc_tree_of.nd rfl (Or.inl rfl) (ve_op vo_div (vv 0) (ve_op vo_add (vv 1) ve_int)))
  (vss_cons (vs_for PassesOwn.never rfl (vi_rng1 rfl B.range (vv 5)) (vg_name (i:=6) sc_tree_of.nd rfl (Or.inl rfl))
   (vss_cons (vs_set (i:=7) sc_tree_of.nd rfl (Or.inl rfl) (ve_ix vx_seq (vv 4) (ve_op vo_mod (vv 0) (ve_fb vf_len rfl B.len PyProof.Rows.Boot.«len» (vv 4)))))
  (vss_cons (vs_set (i:=0) sc_tree_of.nd rfl (Or.inl rfl) (ve_op vo_div (vv 0) (ve_fb vf_len rfl B.len PyProof.Rows.Boot.«len» (vv 4))))
  (vss_cons (vs_set (i:=8) sc_tree_of.nd rfl (Or.inl rfl) (ve_ix vx_seq (ve_tup (vac ve_str (vac ve_str (vac ve_str va_nil)))) (ve_op vo_mod (vv 0) ve_int)))
  (vss_cons (vs_asgI Cname_of (hr.mono (by decide)) rfl (vai_c (ve_op vo_div (vv 0) ve_int) (vai_here 2 va_nil)) (vg_tup rfl (vgs_cons (vg_name (i:=9) sc_tree_of.nd rfl (Or.inl rfl)) (vgs_cons (vg_name (i:=0) sc_tree_of.nd rfl (Or.inl rfl)) vgs_nil))))
  (vss_cons (vs_asgI Ctext_of (hr.mono (by decide)) rfl (vai_c (vv 8) (vai_c (vv 0) (vai_here 2 va_nil))) (vg_tup rfl (vgs_cons (vg_name (i:=10) sc_tree_of.nd rfl (Or.inl rfl)) (vgs_cons (vg_name (i:=0) sc_tree_of.nd rfl (Or.inl rfl)) vgs_nil))))
  (vss_cons (vs_set (i:=11) sc_tree_of.nd rfl (Or.inl rfl) (ve_op vo_add (vv 7) (ve_tup (vac (vv 9) va_nil))))
  (vss_one (vs_if (vw_t (vw_and (vt_dnotin hr.dict (vv 11) (vv 3)) (vw_and1 (vt_cmp vo_lt (ve_fb vf_len rfl B.len PyProof.Rows.Boot.«len» (vv 11)) ve_int))))
   (vss_cons (vs_dput 3 hr.dict (vv 11) (ve_tup (vac (vv 8) (vac (vv 10) va_nil))))
  (vss_one (vs_if (vt_cmp (vo_eq hr.units) (vv 8) ve_str)
   (vss_one (vs_append 4 (vv 11)))
   vss_nil)))
   vss_nil)))))))))
  (vss_one (vs_retI (vc_e (vc_comp (M:=["_law_way"]) (vi_any (ve_fb (vf_sorted hr.units) rfl B.sorted PyProof.Rows.Boot.«sorted» (ve_ft (vf_listD hr.hd) rfl B.list PyProof.Rows.Boot.«list» (vv 3)))) rfl cs_tree_of0 (fun cl C s2 H2 fp pn=>(vg_name (i:=12) (cs_tree_of0).nd rfl (Or.inl rfl))) (fun cl C s2 H2 fp pn=>vfs_nil) (fun cl C s2 H2 fp pn=>(ve_op vo_add (ve_tup (vac (vv 12) va_nil)) (ve_dget hr.dict (vv 3) (vv 12))))))))))))),w_tree_of⟩
theorem sc_tidied:FnScope ["_law_things","_law_kept","_law_way","_law_mark","_law_over_here","_law_shut"] ["_law_things"] (defScope s_tidied):=⟨rfl,rfl,rfl,by decide +kernel,rfl,by decide +kernel,by decide +kernel⟩
theorem cs_tidied0:CompScope (defScope s_tidied) ["_law_things","_law_kept","_law_way","_law_mark","_law_over_here","_law_shut"] ["_law_things","_law_kept","_law_way'","_law_mark","_law_over_here","_law_shut","_law_way"] ["_law_way"] ({ kind:=PySem.ScopeKind.function,names:=[ (PySem.Str.ofString ".0",PySem.NameKind.local),(PySem.Str.ofString "_law_way",PySem.NameKind.local),(PySem.Str.ofString "_law_kept",PySem.NameKind.free)],isGenerator:=false,isCoroutine:=false,more:=[]:PySem.Scope }):=⟨rfl,by decide +kernel,by decide +kernel,by decide +kernel,by decide +kernel,rfl,by decide +kernel⟩
theorem ok_tidied (F:Fun K "_law_tidied" "_law_tidied" s_tidied f fd) (B:Blt K mg) (Cunder_shut:Cal P w K mg base 1 "_law_under_shut" ["_law_things","_law_way"] (spOf K g_under_shut)):FnOk P w K mg base CX0 2 f fd ["_law_things"] (spOf K g_tidied) :=
 F.okV sc_tidied len_tidied fun cdv A outer s H E hr=>⟨b_tidied,(vss_cons (vs_setO (i:=1) sc_tidied.nd rfl (Or.inr rfl) ve_dnewT)
  (vss_cons (vs_for PassesOwn.never rfl (vi_any (ve_fb (vf_sorted hr.units) rfl B.sorted PyProof.Rows.Boot.«sorted» (ve_ft (vf_listD hr.hd) rfl B.list PyProof.Rows.Boot.«list» (vv 0)))) (vg_name (i:=2) sc_tidied.nd rfl (Or.inl rfl))
   (vss_cons (vs_set (i:=3) sc_tidied.nd rfl (Or.inl rfl) (ve_ix vx_seq (ve_dget hr.dict (vv 0) (vv 2)) ve_int))
  (vss_cons (vs_set (i:=4) sc_tidied.nd rfl (Or.inl rfl) (ve_slice (vv 2) vp_none (vp_some (ve_neg ve_int))))
  (vss_cons (vs_set (i:=5) sc_tidied.nd rfl (Or.inl rfl) (ve_calB (i:=1) Cunder_shut (hr.mono (by decide)) rfl (vac (vv 2) va_nil)))
  (vss_cons (vs_if (vw_t (vw_and (vt_val (vv 5)) (vw_and1 (vt_cmp (vo_eq hr.units) (vv 3) ve_str))))
   (vss_one (vs_set (i:=3) sc_tidied.nd rfl (Or.inl rfl) ve_str))
   vss_nil)
  (vss_one (vs_if (vw_t (vw_or (vt_cmp vo_lt (ve_fb vf_len rfl B.len PyProof.Rows.Boot.«len» (vv 2)) ve_int) (vw_or1 (vw_t (vw_and (vt_din hr.dict (vv 4) (vv 1)) (vw_and1 (vt_cmp vo_in (ve_ix vx_seq (ve_dget hr.dict (vv 1) (vv 4)) ve_int) (ve_tup (vac ve_str (vac ve_str va_nil))))))))))
   (vss_one (vs_if (vw_t (vw_or (vt_cmp (vo_neD hr.units) (vv 3) ve_str) (vw_or1 (vt_not (vt_val (vv 5))))))
   (vss_one (vs_dput 1 hr.dict (vv 2) (ve_tup (vac (vv 3) (vac (ve_ix vx_seq (ve_dget hr.dict (vv 0) (vv 2)) ve_int) va_nil)))))
   vss_nil))
   vss_nil)))))))
  (vss_one (vs_ret (vc_e (vc_comp (M:=["_law_way"]) (vi_any (ve_fb (vf_sorted hr.units) rfl B.sorted PyProof.Rows.Boot.«sorted» (ve_ft (vf_listD hr.hd) rfl B.list PyProof.Rows.Boot.«list» (vv 1)))) rfl cs_tidied0 (fun cl C s2 H2 fp pn=>(vg_name (i:=6) (cs_tidied0).nd rfl (Or.inl rfl))) (fun cl C s2 H2 fp pn=>vfs_nil) (fun cl C s2 H2 fp pn=>(ve_op vo_add (ve_tup (vac (vv 6) va_nil)) (ve_dget hr.dict (vv 1) (vv 6)))))))))),w_tidied⟩
theorem sc_over:FnScope ["_law_upper","_law_lower","_law_big_here","_law_things","_law_row","_law_mark"] ["_law_upper","_law_lower","_law_big_here"] (defScope s_over):=⟨rfl,rfl,rfl,by decide +kernel,rfl,by decide +kernel,by decide +kernel⟩
theorem ok_over (F:Fun K "_law_over" "_law_over" s_over f fd) (B:Blt K mg) (Ctidied:Cal P w K mg base 2 "_law_tidied" ["_law_things"] (spOf K g_tidied)):FnOk P w K mg base CX0 3 f fd ["_law_upper","_law_lower","_law_big_here"] (spOf K g_over) :=
 F.okV sc_over len_over fun cdv A outer s H E hr=>⟨b_over,(vss_cons (vs_setO (i:=3) sc_over.nd rfl (Or.inl rfl) ve_dnewT)
  (vss_cons (vs_for PassesOwn.never rfl (vi_any (vv 1)) (vg_name (i:=4) sc_over.nd rfl (Or.inl rfl))
   (vss_cons (vs_set (i:=5) sc_over.nd rfl (Or.inl rfl) (ve_ix vx_seq (ve_tup (vac ve_str (vac ve_str (vac ve_str (vac ve_str (vac ve_str va_nil)))))) (ve_op vo_mod (vv 2) ve_int)))
  (vss_cons (vs_set (i:=2) sc_over.nd rfl (Or.inl rfl) (ve_op vo_div (vv 2) ve_int))
  (vss_one (vs_if (vw_t (vw_and (vt_cmp (vo_neD hr.units) (vv 5) ve_str) (vw_and1 (vt_cmp (vo_neD hr.units) (ve_ix vx_seq (vv 4) ve_int) (ve_tup va_nil)))))
   (vss_one (vs_dput 3 hr.dict (ve_ix vx_seq (vv 4) ve_int) (ve_tup (vac (vv 5) (vac ve_str va_nil)))))
   vss_nil)))))
  (vss_cons (vs_for PassesOwn.never rfl (vi_any (vv 0)) (vg_name (i:=4) sc_over.nd rfl (Or.inl rfl))
   (vss_one (vs_dput 3 hr.dict (ve_ix vx_seq (vv 4) ve_int) (ve_tup (vac (ve_ix vx_seq (vv 4) ve_int) (vac (ve_ix vx_seq (vv 4) ve_int) va_nil))))))
  (vss_frz 3 (vss_one (vs_ret (ve_cal Ctidied (hr.mono (by decide)) rfl (vac (vv 3) va_nil)))))))),w_over⟩
theorem sc_tree_under:FnScope ["_law_ways","_law_big_here","_law_name","_law_things","_law_way","_law_over_here","_law_held"] ["_law_ways","_law_big_here","_law_name"] (defScope s_tree_under):=⟨rfl,rfl,rfl,by decide +kernel,rfl,by decide +kernel,by decide +kernel⟩
theorem cs_tree_under0:CompScope (defScope s_tree_under) ["_law_ways","_law_big_here","_law_name","_law_things","_law_way","_law_over_here","_law_held"] ["_law_ways","_law_big_here","_law_name","_law_things","_law_way'","_law_over_here","_law_held","_law_way"] ["_law_way"] ({ kind:=PySem.ScopeKind.function,names:=[ (PySem.Str.ofString ".0",PySem.NameKind.local),(PySem.Str.ofString "_law_way",PySem.NameKind.local),(PySem.Str.ofString "_law_things",PySem.NameKind.free)],isGenerator:=false,isCoroutine:=false,more:=[]:PySem.Scope }):=⟨rfl,by decide +kernel,by decide +kernel,by decide +kernel,by decide +kernel,rfl,by decide +kernel⟩
theorem ok_tree_under (F:Fun K "_law_tree_under" "_law_tree_under" s_tree_under f fd) (B:Blt K mg):FnOk P w K mg base CX0 1 f fd ["_law_ways","_law_big_here","_law_name"] (spOf K g_tree_under) :=
 F.okV sc_tree_under len_tree_under fun cdv A outer s H E hr=>⟨b_tree_under,(vss_cons (vs_setO (i:=3) sc_tree_under.nd rfl (Or.inr rfl) ve_dnewT)
  (vss_cons (vs_for PassesOwn.never rfl (vi_any (ve_fb (vf_sortedW hr.units) rfl B.sorted PyProof.Rows.Boot.«sorted» (vv 0))) (vg_name (i:=4) sc_tree_under.nd rfl (Or.inl rfl))
   (vss_cons (vs_set (i:=5) sc_tree_under.nd rfl (Or.inl rfl) (ve_slice (vv 4) vp_none (vp_some (ve_neg ve_int))))
  (vss_cons (vs_set (i:=6) sc_tree_under.nd rfl (Or.inl rfl) (ve_or (ve_cmp (vo_eq hr.units) (vv 5) (ve_tup va_nil)) (ve_one (ve_and (ve_din hr.dict (vv 5) (vv 3)) (ve_one (ve_cmp (vo_eq hr.units) (ve_ix vx_seq (ve_dget hr.dict (vv 3) (vv 5)) ve_int) ve_str))))))
  (vss_one (vs_if (vw_t (vw_and (vt_cmp (vo_neD hr.units) (vv 4) (ve_tup va_nil)) (vw_and1 (vt_val (vv 6)))))
   (vss_cons (vs_dput 3 hr.dict (vv 4) (ve_tup (vac ve_str (vac ve_str va_nil))))
  (vss_cons (vs_if (vt_cmp (vo_eq hr.units) (ve_op vo_mod (vv 1) ve_int) ve_int)
   (vss_one (vs_dput 3 hr.dict (vv 4) (ve_tup (vac ve_str (vac ve_str va_nil)))))
   vss_nil)
  (vss_one (vs_set (i:=1) sc_tree_under.nd rfl (Or.inl rfl) (ve_op vo_div (vv 1) ve_int)))))
   vss_nil)))))
  (vss_cons (vs_for PassesOwn.never rfl (vi_any (ve_ft (vf_listD hr.hd) rfl B.list PyProof.Rows.Boot.«list» (vv 3))) (vg_name (i:=4) sc_tree_under.nd rfl (Or.inl rfl))
   (vss_one (vs_if (vw_t (vw_and (vt_cmp (vo_eq hr.units) (ve_ix vx_seq (ve_dget hr.dict (vv 3) (vv 4)) ve_int) ve_str) (vw_and1 (vt_dnotin hr.dict (ve_op vo_add (vv 4) (ve_tup (vac (vv 2) va_nil))) (vv 3)))))
   (vss_one (vs_dput 3 hr.dict (ve_op vo_add (vv 4) (ve_tup (vac (vv 2) va_nil))) (ve_tup (vac ve_str (vac ve_str va_nil)))))
   vss_nil)))
  (vss_cons (vs_if (vt_dnotin hr.dict (ve_tup (vac (vv 2) va_nil)) (vv 3))
   (vss_one (vs_dput 3 hr.dict (ve_tup (vac (vv 2) va_nil)) (ve_tup (vac ve_str (vac ve_str va_nil)))))
   vss_nil)
  (vss_one (vs_ret (vc_e (vc_comp (M:=["_law_way"]) (vi_any (ve_fb (vf_sorted hr.units) rfl B.sorted PyProof.Rows.Boot.«sorted» (ve_ft (vf_listD hr.hd) rfl B.list PyProof.Rows.Boot.«list» (vv 3)))) rfl cs_tree_under0 (fun cl C s2 H2 fp pn=>(vg_name (i:=7) (cs_tree_under0).nd rfl (Or.inl rfl))) (fun cl C s2 H2 fp pn=>vfs_nil) (fun cl C s2 H2 fp pn=>(ve_op vo_add (ve_tup (vac (vv 7) va_nil)) (ve_dget hr.dict (vv 3) (vv 7)))))))))))),w_tree_under⟩
theorem sc_in_order:FnScope ["entries"] ["entries"] (defScope s_in_order):=⟨rfl,rfl,rfl,by decide +kernel,rfl,by decide +kernel,by decide +kernel⟩
theorem ok_in_order (F:Fun K "in_order" "in_order" s_in_order f fd) (B:Blt K mg):FnOk P w K mg base CX0 1 f fd ["entries"] (spOf K g_in_order) :=
 F.okV sc_in_order len_in_order fun cdv A outer s H E hr=>⟨b_in_order,(vss_one (vs_ret (ve_fb (vf_sorted hr.units) rfl B.sorted PyProof.Rows.Boot.«sorted» (vv 0)))),w_in_order⟩
theorem sc_marks_of:FnScope ["pane","marks","way","mark","text"] ["pane"] (defScope s_marks_of):=⟨rfl,rfl,rfl,by decide +kernel,rfl,by decide +kernel,by decide +kernel⟩
theorem ok_marks_of (F:Fun K "marks_of" "marks_of" s_marks_of f fd) (B:Blt K mg):FnOk P w K mg base CX0 1 f fd ["pane"] (spOf K g_marks_of) :=
 F.okV sc_marks_of len_marks_of fun cdv A outer s H E hr=>⟨b_marks_of,(vss_cons (vs_setO (i:=1) sc_marks_of.nd rfl (Or.inl rfl) ve_dnewT)
  (vss_cons (vs_for PassesOwn.never rfl (vi_any (vv 0)) (vg_tup rfl (vgs_cons (vg_name (i:=2) sc_marks_of.nd rfl (Or.inl rfl)) (vgs_cons (vg_name (i:=3) sc_marks_of.nd rfl (Or.inl rfl)) (vgs_cons (vg_name (i:=4) sc_marks_of.nd rfl (Or.inl rfl)) vgs_nil))))
   (vss_one (vs_dput 1 hr.dict (vv 2) (vv 3))))
  (vss_one (vs_retO 1)))),w_marks_of⟩
theorem sc_above:FnScope ["way"] ["way"] (defScope s_above):=⟨rfl,rfl,rfl,by decide +kernel,rfl,by decide +kernel,by decide +kernel⟩
theorem ok_above (F:Fun K "above" "above" s_above f fd) (B:Blt K mg):FnOk P w K mg base CX0 1 f fd ["way"] (spOf K g_above) :=
 F.okV sc_above len_above fun cdv A outer s H E hr=>⟨b_above,(vss_one (vs_ret (ve_slice (vv 0) vp_none (vp_some (ve_neg ve_int))))),w_above⟩
theorem sc_hides:FnScope ["mark"] ["mark"] (defScope s_hides):=⟨rfl,rfl,rfl,by decide +kernel,rfl,by decide +kernel,by decide +kernel⟩
theorem ok_hides (F:Fun K "hides" "hides" s_hides f fd) (B:Blt K mg):FnOk P w K mg base CX0 1 f fd ["mark"] (spOf K g_hides) :=
 F.okV sc_hides len_hides fun cdv A outer s H E hr=>⟨b_hides,(vss_one (vs_ret (ve_and (ve_cmp vo_isnot (vv 0) ve_non) (ve_one (ve_cmp (vo_neD hr.units) (vv 0) ve_str))))),w_hides⟩
theorem sc_hidden_ways:FnScope ["pane","entries","marks","hidden","way","mark","text"] ["pane","entries"] (defScope s_hidden_ways):=⟨rfl,rfl,rfl,by decide +kernel,rfl,by decide +kernel,by decide +kernel⟩
theorem ok_hidden_ways (F:Fun K "hidden_ways" "hidden_ways" s_hidden_ways f fd) (B:Blt K mg) (Cmarks_of:Cal P w K mg base 1 "marks_of" ["pane"] (spOf K g_marks_of)) (Cabove:Cal P w K mg base 1 "above" ["way"] (spOf K g_above)) (Chides:Cal P w K mg base 1 "hides" ["mark"] (spOf K g_hides)):FnOk P w K mg base CX0 2 f fd ["pane","entries"] (spOf K g_hidden_ways) :=
 F.okV sc_hidden_ways len_hidden_ways fun cdv A outer s H E hr=>⟨b_hidden_ways,(vss_cons (vs_set (i:=2) sc_hidden_ways.nd rfl (Or.inl rfl) (ve_cal Cmarks_of (hr.mono (by decide)) rfl (vac (vv 0) va_nil)))
  (vss_cons (vs_setO (i:=3) sc_hidden_ways.nd rfl (Or.inl rfl) ve_dnewT)
  (vss_cons (vs_for PassesOwn.never rfl (vi_any (vv 1)) (vg_tup rfl (vgs_cons (vg_name (i:=4) sc_hidden_ways.nd rfl (Or.inl rfl)) (vgs_cons (vg_name (i:=5) sc_hidden_ways.nd rfl (Or.inl rfl)) (vgs_cons (vg_name (i:=6) sc_hidden_ways.nd rfl (Or.inl rfl)) vgs_nil))))
   (vss_one (vs_if (vw_t (vw_and (vt_cmp (vo_neD hr.units) (vv 4) (ve_tup va_nil)) (vw_and1 (vw_t (vw_or (vt_din hr.dict (ve_cal Cabove (hr.mono (by decide)) rfl (vac (vv 4) va_nil)) (vv 3)) (vw_or1 (vt_val (ve_cal Chides (hr.mono (by decide)) rfl (vac (ve_dget1 hr.dict (vv 2) (ve_cal Cabove (hr.mono (by decide)) rfl (vac (vv 4) va_nil))) va_nil)))))))))
   (vss_one (vs_dput 3 hr.dict (vv 4) ve_bl))
   vss_nil)))
  (vss_one (vs_retO 3))))),w_hidden_ways⟩
theorem sc_left_alone:FnScope ["pane","entries","marks","hidden"] ["pane","entries"] (defScope s_left_alone):=⟨rfl,rfl,rfl,by decide +kernel,rfl,by decide +kernel,by decide +kernel⟩
theorem cs_left_alone0:CompScope (defScope s_left_alone) ["pane","entries","marks","hidden"] ["pane","entries","marks","hidden","entry"] ["entry"] ({ kind:=PySem.ScopeKind.function,names:=[ (PySem.Str.ofString ".0",PySem.NameKind.local),(PySem.Str.ofString "entry",PySem.NameKind.local),(PySem.Str.ofString "hidden",PySem.NameKind.free),(PySem.Str.ofString "marks",PySem.NameKind.free)],isGenerator:=false,isCoroutine:=false,more:=[]:PySem.Scope }):=⟨rfl,by decide +kernel,by decide +kernel,by decide +kernel,by decide +kernel,rfl,by decide +kernel⟩
theorem ok_left_alone (F:Fun K "left_alone" "left_alone" s_left_alone f fd) (B:Blt K mg) (Cmarks_of:Cal P w K mg base 1 "marks_of" ["pane"] (spOf K g_marks_of)) (Chidden_ways:Cal P w K mg base 2 "hidden_ways" ["pane","entries"] (spOf K g_hidden_ways)):FnOk P w K mg base CX0 3 f fd ["pane","entries"] (spOf K g_left_alone) :=
 F.okV sc_left_alone len_left_alone fun cdv A outer s H E hr=>⟨b_left_alone,(vss_cons (vs_set (i:=2) sc_left_alone.nd rfl (Or.inr rfl) (ve_cal Cmarks_of (hr.mono (by decide)) rfl (vac (vv 0) va_nil)))
  (vss_cons (vs_set (i:=3) sc_left_alone.nd rfl (Or.inr rfl) (ve_cal Chidden_ways (hr.mono (by decide)) rfl (vac (vv 0) (vac (vv 1) va_nil))))
  (vss_one (vs_ret (vc_e (vc_comp (M:=["entry"]) (vi_any (vv 1)) rfl cs_left_alone0 (fun cl C s2 H2 fp pn=>(vg_name (i:=4) (cs_left_alone0).nd rfl (Or.inl rfl))) (fun cl C s2 H2 fp pn=>(vfs_one (vw_t (vw_and (vt_dnotin hr.dict (ve_ix vx_seq (vv 4) ve_int) (vv 2)) (vw_and1 (vt_dnotin hr.dict (ve_ix vx_seq (vv 4) ve_int) (vv 3))))))) (fun cl C s2 H2 fp pn=>(vv 4)))))))),w_left_alone⟩
theorem sc_pressed_mark:FnScope ["mark","bare","closing"] ["mark","bare","closing"] (defScope s_pressed_mark):=⟨rfl,rfl,rfl,by decide +kernel,rfl,by decide +kernel,by decide +kernel⟩
theorem ok_pressed_mark (F:Fun K "pressed_mark" "pressed_mark" s_pressed_mark f fd) (B:Blt K mg):FnOk P w K mg base CX0 1 f fd ["mark","bare","closing"] (spOf K g_pressed_mark) :=
 F.okV sc_pressed_mark len_pressed_mark fun cdv A outer s H E hr=>⟨b_pressed_mark,(vss_cons (vs_if (vw_t (vw_and (vt_val (vv 1)) (vw_and1 (vt_cmp (vo_eq hr.units) (vv 0) ve_str))))
   (vss_one (vs_ret ve_non))
   vss_nil)
  (vss_cons (vs_if (vw_t (vw_and (vt_val (vv 1)) (vw_and1 (vt_cmp (vo_eq hr.units) (vv 0) ve_str))))
   (vss_one (vs_ret ve_str))
   vss_nil)
  (vss_cons (vs_if (vw_t (vw_and (vt_not (vt_val (vv 1))) (vw_and (vt_val (vv 2)) (vw_and1 (vt_cmp (vo_eq hr.units) (vv 0) ve_str)))))
   (vss_one (vs_ret ve_str))
   vss_nil)
  (vss_one (vs_ret (vv 0)))))),w_pressed_mark⟩
theorem sc_changed_entries:FnScope ["upper","lower","marks","bare","shut","changed","way","mark","text","closing"] ["upper","lower"] (defScope s_changed_entries):=⟨rfl,rfl,rfl,by decide +kernel,rfl,by decide +kernel,by decide +kernel⟩
theorem cs_changed_entries0:CompScope (defScope s_changed_entries) ["upper","lower","marks","bare","shut","changed","way","mark","text","closing"] ["upper","lower","marks","bare","shut","changed","way","mark","text","closing","entry"] ["entry"] ({ kind:=PySem.ScopeKind.function,names:=[(PySem.Str.ofString ".0",PySem.NameKind.local),(PySem.Str.ofString "entry",PySem.NameKind.local)],isGenerator:=false,isCoroutine:=false,more:=[]:PySem.Scope }):=⟨rfl,by decide +kernel,by decide +kernel,by decide +kernel,by decide +kernel,rfl,by decide +kernel⟩
theorem ok_changed_entries (F:Fun K "changed_entries" "changed_entries" s_changed_entries f fd) (B:Blt K mg) (Cmarks_of:Cal P w K mg base 1 "marks_of" ["pane"] (spOf K g_marks_of)) (Chidden_ways:Cal P w K mg base 2 "hidden_ways" ["pane","entries"] (spOf K g_hidden_ways)) (Chides:Cal P w K mg base 1 "hides" ["mark"] (spOf K g_hides)) (Cpressed_mark:Cal P w K mg base 1 "pressed_mark" ["mark","bare","closing"] (spOf K g_pressed_mark)):FnOk P w K mg base CX0 3 f fd ["upper","lower"] (spOf K g_changed_entries) :=
 F.okV sc_changed_entries len_changed_entries fun cdv A outer s H E hr=>⟨b_changed_entries,(vss_cons (vs_set (i:=2) sc_changed_entries.nd rfl (Or.inl rfl) (ve_cal Cmarks_of (hr.mono (by decide)) rfl (vac (vv 1) va_nil)))
  (vss_cons (vs_set (i:=3) sc_changed_entries.nd rfl (Or.inl rfl) (ve_cal Chidden_ways (hr.mono (by decide)) rfl (vac (vv 1) (vac (vv 0) va_nil))))
  (vss_cons (vs_set (i:=4) sc_changed_entries.nd rfl (Or.inl rfl) (ve_cal Chidden_ways (hr.mono (by decide)) rfl (vac (vv 0) (vac (vv 0) va_nil))))
  (vss_cons (vs_setO (i:=5) sc_changed_entries.nd rfl (Or.inl rfl) (ve_lst va_nil))
  (vss_cons (vs_for PassesOwn.never rfl (vi_any (vv 0)) (vg_tup rfl (vgs_cons (vg_name (i:=6) sc_changed_entries.nd rfl (Or.inl rfl)) (vgs_cons (vg_name (i:=7) sc_changed_entries.nd rfl (Or.inl rfl)) (vgs_cons (vg_name (i:=8) sc_changed_entries.nd rfl (Or.inl rfl)) vgs_nil))))
   (vss_cons (vs_set (i:=9) sc_changed_entries.nd rfl (Or.inl rfl) (ve_and (ve_cal Chides (hr.mono (by decide)) rfl (vac (ve_dget1 hr.dict (vv 2) (vv 6)) va_nil)) (ve_one (ve_dnotin hr.dict (vv 6) (vv 4)))))
  (vss_one (vs_append 5 (ve_tup (vac (vv 6) (vac (ve_cal Cpressed_mark (hr.mono (by decide)) rfl (vac (vv 7) (vac (ve_din hr.dict (vv 6) (vv 3)) (vac (vv 9) va_nil)))) (vac (vv 8) va_nil))))))))
  (vss_frz 5 (vss_one (vs_ret (vc_e (vc_comp (M:=["entry"]) (vi_any (vv 5)) rfl cs_changed_entries0 (fun cl C s2 H2 fp pn=>(vg_name (i:=10) (cs_changed_entries0).nd rfl (Or.inl rfl))) (fun cl C s2 H2 fp pn=>(vfs_one (vt_cmp vo_isnot (ve_ix vx_seq (vv 10) ve_int) ve_non))) (fun cl C s2 H2 fp pn=>(vv 10)))))))))))),w_changed_entries⟩
theorem sc_press:FnScope ["upper","lower"] ["upper","lower"] (defScope s_press):=⟨rfl,rfl,rfl,by decide +kernel,rfl,by decide +kernel,by decide +kernel⟩
theorem ok_press (F:Fun K "press" "press" s_press f fd) (B:Blt K mg) (Cin_order:Cal P w K mg base 1 "in_order" ["entries"] (spOf K g_in_order)) (Cleft_alone:Cal P w K mg base 3 "left_alone" ["pane","entries"] (spOf K g_left_alone)) (Cchanged_entries:Cal P w K mg base 3 "changed_entries" ["upper","lower"] (spOf K g_changed_entries)):FnOk P w K mg base CX0 4 f fd ["upper","lower"] (spOf K g_press) :=
 F.okV sc_press len_press fun cdv A outer s H E hr=>⟨b_press,(vss_one (vs_ret (ve_cal Cin_order (hr.mono (by decide)) rfl (vac (ve_op vo_add (ve_cal Cleft_alone (hr.mono (by decide)) rfl (vac (vv 0) (vac (vv 1) va_nil))) (ve_cal Cchanged_entries (hr.mono (by decide)) rfl (vac (vv 0) (vac (vv 1) va_nil)))) va_nil)))),w_press⟩
theorem sc_stands:FnScope ["_law_row","_law_marks","_law_way","_law_k","_law_here"] ["_law_row","_law_marks"] (defScope s_stands):=⟨rfl,rfl,rfl,by decide +kernel,rfl,by decide +kernel,by decide +kernel⟩
theorem ok_stands (F:Fun K "_law_stands" "_law_stands" s_stands f fd) (B:Blt K mg):FnOk P w K mg base CX0 1 f fd ["_law_row","_law_marks"] (spOf K g_stands) :=
 F.okV sc_stands len_stands fun cdv A outer s H E hr=>⟨b_stands,(vss_cons (vs_set (i:=2) sc_stands.nd rfl (Or.inl rfl) (ve_ix vx_seq (vv 0) ve_int))
  (vss_cons (vs_if (vt_cmp (vo_eq hr.units) (vv 2) (ve_tup va_nil))
   (vss_one (vs_ret (ve_cmp (vo_eq hr.units) (ve_ix vx_seq (vv 0) ve_int) ve_str)))
   vss_nil)
  (vss_cons (vs_for PassesOwn.never rfl (vi_rng1 rfl B.range (ve_fb vf_len rfl B.len PyProof.Rows.Boot.«len» (vv 2))) (vg_name (i:=3) sc_stands.nd rfl (Or.inl rfl))
   (vss_cons (vs_set (i:=4) sc_stands.nd rfl (Or.inl rfl) ve_str)
  (vss_cons (vs_if (vt_din hr.dict (ve_slice (vv 2) vp_none (vp_some (vv 3))) (vv 1))
   (vss_one (vs_set (i:=4) sc_stands.nd rfl (Or.inl rfl) (ve_dget hr.dict (vv 1) (ve_slice (vv 2) vp_none (vp_some (vv 3))))))
   (vss_one (vs_if (vt_cmp vo_gt (vv 3) ve_int)
   (vss_one (vs_ret ve_bl))
   vss_nil)))
  (vss_cons (vs_if (vw_t (vw_and (vt_cmp (vo_neD hr.units) (vv 4) ve_str) (vw_and1 (vt_cmp (vo_neD hr.units) (vv 4) ve_str))))
   (vss_one (vs_ret ve_bl))
   vss_nil)
  (vss_one (vs_if (vw_t (vw_and (vt_cmp (vo_eq hr.units) (vv 4) ve_str) (vw_and1 (vt_cmp vo_in (ve_ix vx_seq (vv 0) ve_int) (ve_tup (vac ve_str (vac ve_str va_nil)))))))
   (vss_one (vs_ret ve_bl))
   vss_nil))))))
  (vss_one (vs_ret (ve_cmp vo_in (ve_ix vx_seq (vv 0) ve_int) (ve_tup (vac ve_str (vac ve_str (vac ve_str (vac ve_str (vac ve_str va_nil)))))))))))),w_stands⟩
theorem sc_is_pane:FnScope ["_law_found","_law_marks","_law_k","_law_row"] ["_law_found"] (defScope s_is_pane):=⟨rfl,rfl,rfl,by decide +kernel,rfl,by decide +kernel,by decide +kernel⟩
theorem ok_is_pane (F:Fun K "_law_is_pane" "_law_is_pane" s_is_pane f fd) (B:Blt K mg) (Cstands:Cal P w K mg base 1 "_law_stands" ["_law_row","_law_marks"] (spOf K g_stands)):FnOk P w K mg base CX0 2 f fd ["_law_found"] (spOf K g_is_pane) :=
 F.okV sc_is_pane len_is_pane fun cdv A outer s H E hr=>⟨b_is_pane,(vss_cons (vs_if (vt_not (vt_val (ve_isin .list rfl B.isinstance rfl B.list PyProof.Rows.Boot.«list» (vv 0))))
   (vss_one (vs_ret ve_bl))
   vss_nil)
  (vss_cons (vs_setO (i:=1) sc_is_pane.nd rfl (Or.inl rfl) ve_dnewT)
  (vss_cons (vs_for PassesOwn.never rfl (vi_rng1 rfl B.range (ve_fb vf_len rfl B.len PyProof.Rows.Boot.«len» (vv 0))) (vg_name (i:=2) sc_is_pane.nd rfl (Or.inl rfl))
   (vss_cons (vs_set (i:=3) sc_is_pane.nd rfl (Or.inl rfl) (ve_ix vx_seq (vv 0) (vv 2)))
  (vss_cons (vs_if (vw_t (vw_or (vt_not (vt_val (ve_isin .tuple rfl B.isinstance rfl B.tuple PyProof.Rows.Boot.«tuple» (vv 3)))) (vw_or (vt_cmp (vo_neD hr.units) (ve_fb vf_len rfl B.len PyProof.Rows.Boot.«len» (vv 3)) ve_int) (vw_or1 (vt_not (vt_val (ve_isin .tuple rfl B.isinstance rfl B.tuple PyProof.Rows.Boot.«tuple» (ve_ix vx_seq (vv 3) ve_int))))))))
   (vss_one (vs_ret ve_bl))
   vss_nil)
  (vss_cons (vs_if (vw_t (vw_or (vt_not (vt_val (ve_isin .str rfl B.isinstance rfl B.str PyProof.Rows.Boot.«str» (ve_ix vx_seq (vv 3) ve_int)))) (vw_or1 (vt_not (vt_val (ve_isin .str rfl B.isinstance rfl B.str PyProof.Rows.Boot.«str» (ve_ix vx_seq (vv 3) ve_int)))))))
   (vss_one (vs_ret ve_bl))
   vss_nil)
  (vss_cons (vs_if (vw_t (vw_or (vw_t (vw_and (vt_cmp vo_gt (vv 2) ve_int) (vw_and1 (vt_not (vt_cmp (vo_ltD hr.units) (ve_ix vx_seq (ve_ix vx_seq (vv 0) (ve_op vo_sub (vv 2) ve_int)) ve_int) (ve_ix vx_seq (vv 3) ve_int)))))) (vw_or1 (vt_not (vt_val (ve_lend 1 (ve_cal Cstands (hr.mono (by decide)) rfl (vac (vv 3) (vac (vv 1) va_nil)))))))))
   (vss_one (vs_ret ve_bl))
   vss_nil)
  (vss_one (vs_dput 1 hr.dict (ve_ix vx_seq (vv 3) ve_int) (ve_ix vx_seq (vv 3) ve_int))))))))
  (vss_one (vs_ret ve_bl))))),w_is_pane⟩
theorem sc_laid:FnScope ["_law_pane","_law_tree","_law_marks","_law_row","_law_shown","_law_kept","_law_k"] ["_law_pane","_law_tree"] (defScope s_laid):=⟨rfl,rfl,rfl,by decide +kernel,rfl,by decide +kernel,by decide +kernel⟩
theorem cs_laid0:CompScope (defScope s_laid) ["_law_pane","_law_tree","_law_marks","_law_row","_law_shown","_law_kept","_law_k"] ["_law_pane","_law_tree","_law_marks","_law_row","_law_shown","_law_kept","_law_k","_law_way"] ["_law_way"] ({ kind:=PySem.ScopeKind.function,names:=[ (PySem.Str.ofString ".0",PySem.NameKind.local),(PySem.Str.ofString "_law_way",PySem.NameKind.local),(PySem.Str.ofString "_law_shown",PySem.NameKind.free)],isGenerator:=false,isCoroutine:=false,more:=[]:PySem.Scope }):=⟨rfl,by decide +kernel,by decide +kernel,by decide +kernel,by decide +kernel,rfl,by decide +kernel⟩
theorem ok_laid (F:Fun K "_law_laid" "_law_laid" s_laid f fd) (B:Blt K mg):FnOk P w K mg base CX0 1 f fd ["_law_pane","_law_tree"] (spOf K g_laid) :=
 F.okV sc_laid len_laid fun cdv A outer s H E hr=>⟨b_laid,(vss_cons (vs_setO (i:=2) sc_laid.nd rfl (Or.inl rfl) ve_dnewT)
  (vss_cons (vs_for PassesOwn.never rfl (vi_any (vv 0)) (vg_name (i:=3) sc_laid.nd rfl (Or.inl rfl))
   (vss_one (vs_dput 2 hr.dict (ve_ix vx_seq (vv 3) ve_int) (ve_ix vx_seq (vv 3) ve_int))))
  (vss_cons (vs_setO (i:=4) sc_laid.nd rfl (Or.inr rfl) ve_dnewT)
  (vss_cons (vs_for PassesOwn.never rfl (vi_any (vv 1)) (vg_name (i:=3) sc_laid.nd rfl (Or.inl rfl))
   (vss_cons (vs_set (i:=5) sc_laid.nd rfl (Or.inl rfl) (ve_dnotin hr.dict (ve_ix vx_seq (vv 3) ve_int) (vv 2)))
  (vss_cons (vs_for PassesOwn.never rfl (vi_rng1 rfl B.range (ve_fb vf_len rfl B.len PyProof.Rows.Boot.«len» (ve_ix vx_seq (vv 3) ve_int))) (vg_name (i:=6) sc_laid.nd rfl (Or.inl rfl))
   (vss_one (vs_if (vw_t (vw_and (vt_din hr.dict (ve_slice (ve_ix vx_seq (vv 3) ve_int) vp_none (vp_some (vv 6))) (vv 2)) (vw_and1 (vt_cmp (vo_neD hr.units) (ve_dget hr.dict (vv 2) (ve_slice (ve_ix vx_seq (vv 3) ve_int) vp_none (vp_some (vv 6)))) ve_str))))
   (vss_one (vs_set (i:=5) sc_laid.nd rfl (Or.inl rfl) ve_bl))
   vss_nil)))
  (vss_one (vs_if (vt_val (vv 5))
   (vss_one (vs_dput 4 hr.dict (ve_ix vx_seq (vv 3) ve_int) (ve_tup (vac (ve_ix vx_seq (vv 3) ve_int) (vac (ve_ix vx_seq (vv 3) ve_int) va_nil)))))
   vss_nil)))))
  (vss_cons (vs_for PassesOwn.never rfl (vi_any (vv 0)) (vg_name (i:=3) sc_laid.nd rfl (Or.inl rfl))
   (vss_one (vs_if (vw_t (vw_or (vt_cmp (vo_eq hr.units) (ve_ix vx_seq (vv 3) ve_int) ve_str) (vw_or1 (vt_cmp (vo_eq hr.units) (ve_ix vx_seq (vv 3) ve_int) ve_str))))
   (vss_one (vs_dput 4 hr.dict (ve_ix vx_seq (vv 3) ve_int) (ve_tup (vac (ve_ix vx_seq (vv 3) ve_int) (vac (ve_ix vx_seq (vv 3) ve_int) va_nil)))))
   (vss_one (vs_if (vw_t (vw_and (vt_cmp (vo_neD hr.units) (ve_ix vx_seq (vv 3) ve_int) ve_str) (vw_and1 (vt_cmp (vo_neD hr.units) (ve_ix vx_seq (vv 3) ve_int) (ve_tup va_nil)))))
   (vss_one (vs_dput 4 hr.dict (ve_ix vx_seq (vv 3) ve_int) (ve_tup (vac ve_str (vac ve_str va_nil)))))
   vss_nil)))))
  (vss_one (vs_ret (vc_e (vc_comp (M:=["_law_way"]) (vi_any (ve_fb (vf_sorted hr.units) rfl B.sorted PyProof.Rows.Boot.«sorted» (ve_ft (vf_listD hr.hd) rfl B.list PyProof.Rows.Boot.«list» (vv 4)))) rfl cs_laid0 (fun cl C s2 H2 fp pn=>(vg_name (i:=7) (cs_laid0).nd rfl (Or.inl rfl))) (fun cl C s2 H2 fp pn=>vfs_nil) (fun cl C s2 H2 fp pn=>(ve_op vo_add (ve_tup (vac (vv 7) va_nil)) (ve_dget hr.dict (vv 4) (vv 7))))))))))))),w_laid⟩
theorem sc_law:FnScope ["_law_script","_law_pool","_law_kind","_law_most","_law_upper","_law_lower","_law_tree","_law_name","_law_big_here","_law_found","_law_under"] ["_law_script"] (defScope s_law):=⟨rfl,rfl,rfl,by decide +kernel,rfl,by decide +kernel,by decide +kernel⟩
theorem cs_law0:CompScope (defScope s_law) ["_law_script","_law_pool","_law_kind","_law_most","_law_upper","_law_lower","_law_tree","_law_name","_law_big_here","_law_found","_law_under"] ["_law_script","_law_pool","_law_kind","_law_most","_law_upper","_law_lower","_law_tree","_law_name","_law_big_here","_law_found","_law_under","_law_row"] ["_law_row"] ({ kind:=PySem.ScopeKind.function,names:=[(PySem.Str.ofString ".0",PySem.NameKind.local),(PySem.Str.ofString "_law_row",PySem.NameKind.local)],isGenerator:=false,isCoroutine:=false,more:=[]:PySem.Scope }):=⟨rfl,by decide +kernel,by decide +kernel,by decide +kernel,by decide +kernel,rfl,by decide +kernel⟩
theorem ok_law (F:Fun K "law" "law" s_law f fd) (B:Blt K mg) (Ccell_at:Cal P w K mg base 1 "_law_cell_at" ["_law_script","_law_k"] (spOf K g_cell_at)) (Cpane_of:Cal P w K mg base 4 "_law_pane_of" ["_law_big_here","_law_most","_law_pool"] (spOfI K g_pane_of 2)) (Cbig:Cal P w K mg base 2 "_law_big" ["_law_script","_law_at"] (spOf K g_big)) (Ctree_of:Cal P w K mg base 4 "_law_tree_of" ["_law_big_here","_law_most","_law_pool"] (spOfI K g_tree_of 2)) (Cover:Cal P w K mg base 3 "_law_over" ["_law_upper","_law_lower","_law_big_here"] (spOf K g_over)) (Cname_of:Cal P w K mg base 1 "_law_name_of" ["_law_big_here","_law_pool"] (spOfI K g_name_of 1)) (Ctree_under:Cal P w K mg base 1 "_law_tree_under" ["_law_ways","_law_big_here","_law_name"] (spOf K g_tree_under)) (Cpress:Cal P w K mg base 4 "press" ["upper","lower"] (spOf K g_press)) (Cis_pane:Cal P w K mg base 2 "_law_is_pane" ["_law_found"] (spOf K g_is_pane)) (Claid:Cal P w K mg base 1 "_law_laid" ["_law_pane","_law_tree"] (spOf K g_laid)):FnOk P w K mg base CX0 5 f fd ["_law_script"] (spOf K g_law) :=
 F.okV sc_law len_law fun cdv A outer s H E hr=>⟨b_law,(vss_cons (vs_setO (i:=1) sc_law.nd rfl (Or.inl rfl) (ve_lst va_nil))
  (vss_io 1 (vss_cons (vs_set (i:=2) sc_law.nd rfl (Or.inl rfl) (ve_cal Ccell_at (hr.mono (by decide)) rfl (vac (vv 0) (vac ve_int va_nil))))
  (vss_cons (vs_set (i:=3) sc_law.nd rfl (Or.inl rfl) ve_int)
  (vss_cons (vs_if (vt_cmp (vo_eq hr.units) (ve_op vo_mod (ve_op vo_div (vv 2) ve_int) ve_int) ve_int)
   (vss_one (vs_set (i:=3) sc_law.nd rfl (Or.inl rfl) ve_int))
   vss_nil)
  (vss_cons (vs_setCI (i:=4) sc_law.nd rfl (Or.inl rfl) Cpane_of (hr.mono (by decide)) rfl (vai_c (ve_cal Cbig (hr.mono (by decide)) rfl (vac (vv 0) (vac ve_int va_nil))) (vai_c (vv 3) (vai_here 1 va_nil))))
  (vss_cons (vs_setCI (i:=5) sc_law.nd rfl (Or.inl rfl) Cpane_of (hr.mono (by decide)) rfl (vai_c (ve_cal Cbig (hr.mono (by decide)) rfl (vac (vv 0) (vac ve_int va_nil))) (vai_c (vv 3) (vai_here 1 va_nil))))
  (vss_cons (vs_setCI (i:=6) sc_law.nd rfl (Or.inl rfl) Ctree_of (hr.mono (by decide)) rfl (vai_c (ve_cal Cbig (hr.mono (by decide)) rfl (vac (vv 0) (vac ve_int va_nil))) (vai_c (vv 3) (vai_here 1 va_nil))))
  (vss_cons (vs_if (vt_cmp (vo_eq hr.units) (ve_op vo_mod (vv 2) ve_int) ve_int)
   (vss_one (vs_set (i:=4) sc_law.nd rfl (Or.inl rfl) (ve_cal Cover (hr.mono (by decide)) rfl (vac (vv 4) (vac (vv 5) (vac (ve_cal Cbig (hr.mono (by decide)) rfl (vac (vv 0) (vac ve_int va_nil))) va_nil))))))
   vss_nil)
  (vss_cons (vs_if (vt_cmp vo_gt (ve_op vo_mod (ve_op vo_div (vv 2) ve_int) ve_int) ve_int)
   (vss_cons (vs_asgI Cname_of (hr.mono (by decide)) rfl (vai_c (ve_cal Cbig (hr.mono (by decide)) rfl (vac (vv 0) (vac ve_int va_nil))) (vai_here 1 va_nil)) (vg_tup rfl (vgs_cons (vg_name (i:=7) sc_law.nd rfl (Or.inl rfl)) (vgs_cons (vg_name (i:=8) sc_law.nd rfl (Or.inl rfl)) vgs_nil))))
  (vss_one (vs_set (i:=6) sc_law.nd rfl (Or.inl rfl) (ve_cal Ctree_under (hr.mono (by decide)) rfl (vac (vc_e (vc_comp (M:=["_law_row"]) (vi_any (ve_op vo_add (vv 4) (vv 5))) rfl cs_law0 (fun cl C s2 H2 fp pn=>(vg_name (i:=11) (cs_law0).nd rfl (Or.inl rfl))) (fun cl C s2 H2 fp pn=>vfs_nil) (fun cl C s2 H2 fp pn=>(ve_ix vx_seq (vv 11) ve_int)))) (vac (vv 8) (vac (vv 7) va_nil)))))))
   vss_nil)
  (vss_cons (vs_set (i:=9) sc_law.nd rfl (Or.inl rfl) (ve_cal Cpress (hr.mono (by decide)) rfl (vac (ve_ft vf_list rfl B.list PyProof.Rows.Boot.«list» (vv 4)) (vac (ve_ft vf_list rfl B.list PyProof.Rows.Boot.«list» (vv 5)) va_nil))))
  (vss_cons (vs_if (vt_not (vt_val (ve_cal Cis_pane (hr.mono (by decide)) rfl (vac (vv 9) va_nil))))
   (vss_one (vs_ret ve_bl))
   vss_nil)
  (vss_cons (vs_for PassesOwn.never rfl (vi_any (ve_lst (vac (vv 6) (vac (ve_lst va_nil) va_nil)))) (vg_name (i:=10) sc_law.nd rfl (Or.inl rfl))
   (vss_one (vs_if (vt_cmp (vo_neD hr.units) (ve_cal Claid (hr.mono (by decide)) rfl (vac (vv 9) (vac (vv 10) va_nil))) (ve_cal Claid (hr.mono (by decide)) rfl (vac (vv 4) (vac (ve_cal Claid (hr.mono (by decide)) rfl (vac (vv 5) (vac (vv 10) va_nil))) va_nil))))
   (vss_one (vs_ret ve_bl))
   vss_nil)))
  (vss_one (vs_ret ve_bl))))))))))))))),w_law⟩
end
theorem all_mk {l:PySem.W.OpenLaw} {w:World} {K:PySem.W.Frag} {h:Heap} {mg:Str→Option Value} {fa:Addr} (X:K.In h) (G:h.Ns mainGlobals mg) (hfa:mg "law" = some (.ref fa))
  {f1:Addr} {od1 an1:Option Addr} {sl1:Array (Option Value)} {oc1 kV1 dc1 pm1 cd1 ct1:Value}
  {f2:Addr} {od2 an2:Option Addr} {sl2:Array (Option Value)} {oc2 kV2 dc2 pm2 cd2 ct2:Value}
  {f3:Addr} {od3 an3:Option Addr} {sl3:Array (Option Value)} {oc3 kV3 dc3 pm3 cd3 ct3:Value}
  {f4:Addr} {od4 an4:Option Addr} {sl4:Array (Option Value)} {oc4 kV4 dc4 pm4 cd4 ct4:Value}
  {f5:Addr} {od5 an5:Option Addr} {sl5:Array (Option Value)} {oc5 kV5 dc5 pm5 cd5 ct5:Value}
  {f6:Addr} {od6 an6:Option Addr} {sl6:Array (Option Value)} {oc6 kV6 dc6 pm6 cd6 ct6:Value}
  {f7:Addr} {od7 an7:Option Addr} {sl7:Array (Option Value)} {oc7 kV7 dc7 pm7 cd7 ct7:Value}
  {f8:Addr} {od8 an8:Option Addr} {sl8:Array (Option Value)} {oc8 kV8 dc8 pm8 cd8 ct8:Value}
  {f9:Addr} {od9 an9:Option Addr} {sl9:Array (Option Value)} {oc9 kV9 dc9 pm9 cd9 ct9:Value}
  {f10:Addr} {od10 an10:Option Addr} {sl10:Array (Option Value)} {oc10 kV10 dc10 pm10 cd10 ct10:Value}
  {f11:Addr} {od11 an11:Option Addr} {sl11:Array (Option Value)} {oc11 kV11 dc11 pm11 cd11 ct11:Value}
  {f12:Addr} {od12 an12:Option Addr} {sl12:Array (Option Value)} {oc12 kV12 dc12 pm12 cd12 ct12:Value}
  {f13:Addr} {od13 an13:Option Addr} {sl13:Array (Option Value)} {oc13 kV13 dc13 pm13 cd13 ct13:Value}
  {f14:Addr} {od14 an14:Option Addr} {sl14:Array (Option Value)} {oc14 kV14 dc14 pm14 cd14 ct14:Value}
  {f15:Addr} {od15 an15:Option Addr} {sl15:Array (Option Value)} {oc15 kV15 dc15 pm15 cd15 ct15:Value}
  {f16:Addr} {od16 an16:Option Addr} {sl16:Array (Option Value)} {oc16 kV16 dc16 pm16 cd16 ct16:Value}
  {f17:Addr} {od17 an17:Option Addr} {sl17:Array (Option Value)} {oc17 kV17 dc17 pm17 cd17 ct17:Value}
  {f18:Addr} {od18 an18:Option Addr} {sl18:Array (Option Value)} {oc18 kV18 dc18 pm18 cd18 ct18:Value}
  {f19:Addr} {od19 an19:Option Addr} {sl19:Array (Option Value)} {oc19 kV19 dc19 pm19 cd19 ct19:Value}
  {f20:Addr} {od20 an20:Option Addr} {sl20:Array (Option Value)} {oc20 kV20 dc20 pm20 cd20 ct20:Value}
  {f21:Addr} {od21 an21:Option Addr} {sl21:Array (Option Value)} {oc21 kV21 dc21 pm21 cd21 ct21:Value}
  {f22:Addr} {od22 an22:Option Addr} {sl22:Array (Option Value)} {oc22 kV22 dc22 pm22 cd22 ct22:Value}
  {f23:Addr} {od23 an23:Option Addr} {sl23:Array (Option Value)} {oc23 kV23 dc23 pm23 cd23 ct23:Value}
  {f24:Addr} {od24 an24:Option Addr} {sl24:Array (Option Value)} {oc24 kV24 dc24 pm24 cd24 ct24:Value}
  {f25:Addr} {od25 an25:Option Addr} {sl25:Array (Option Value)} {oc25 kV25 dc25 pm25 cd25 ct25:Value}
  (a1:PySem.W.nsIn K mainGlobals "above" = some (some (.ref f1))) (l1:K.lookup f1=some ⟨oc1,od1,.func (PySem.W.fnOf "above" "above" (defArgs s_above) (defBody s_above) (defScope s_above) .none kV1 dc1 pm1 an1 cd1 ct1),sl1⟩) (c1:PySem.W.codeIn K cd1 "above" = true) (k1:PySem.W.keepIn K (.ref f1)=true)
  (a2:PySem.W.nsIn K mainGlobals "in_order" = some (some (.ref f2))) (l2:K.lookup f2=some ⟨oc2,od2,.func (PySem.W.fnOf "in_order" "in_order" (defArgs s_in_order) (defBody s_in_order) (defScope s_in_order) .none kV2 dc2 pm2 an2 cd2 ct2),sl2⟩) (c2:PySem.W.codeIn K cd2 "in_order" = true) (k2:PySem.W.keepIn K (.ref f2)=true)
  (a3:PySem.W.nsIn K mainGlobals "marks_of" = some (some (.ref f3))) (l3:K.lookup f3=some ⟨oc3,od3,.func (PySem.W.fnOf "marks_of" "marks_of" (defArgs s_marks_of) (defBody s_marks_of) (defScope s_marks_of) .none kV3 dc3 pm3 an3 cd3 ct3),sl3⟩) (c3:PySem.W.codeIn K cd3 "marks_of" = true) (k3:PySem.W.keepIn K (.ref f3)=true)
  (a4:PySem.W.nsIn K mainGlobals "hides" = some (some (.ref f4))) (l4:K.lookup f4=some ⟨oc4,od4,.func (PySem.W.fnOf "hides" "hides" (defArgs s_hides) (defBody s_hides) (defScope s_hides) .none kV4 dc4 pm4 an4 cd4 ct4),sl4⟩) (c4:PySem.W.codeIn K cd4 "hides" = true) (k4:PySem.W.keepIn K (.ref f4)=true)
  (a5:PySem.W.nsIn K mainGlobals "hidden_ways" = some (some (.ref f5))) (l5:K.lookup f5=some ⟨oc5,od5,.func (PySem.W.fnOf "hidden_ways" "hidden_ways" (defArgs s_hidden_ways) (defBody s_hidden_ways) (defScope s_hidden_ways) .none kV5 dc5 pm5 an5 cd5 ct5),sl5⟩) (c5:PySem.W.codeIn K cd5 "hidden_ways" = true) (k5:PySem.W.keepIn K (.ref f5)=true)
  (a6:PySem.W.nsIn K mainGlobals "left_alone" = some (some (.ref f6))) (l6:K.lookup f6=some ⟨oc6,od6,.func (PySem.W.fnOf "left_alone" "left_alone" (defArgs s_left_alone) (defBody s_left_alone) (defScope s_left_alone) .none kV6 dc6 pm6 an6 cd6 ct6),sl6⟩) (c6:PySem.W.codeIn K cd6 "left_alone" = true) (k6:PySem.W.keepIn K (.ref f6)=true)
  (a7:PySem.W.nsIn K mainGlobals "pressed_mark" = some (some (.ref f7))) (l7:K.lookup f7=some ⟨oc7,od7,.func (PySem.W.fnOf "pressed_mark" "pressed_mark" (defArgs s_pressed_mark) (defBody s_pressed_mark) (defScope s_pressed_mark) .none kV7 dc7 pm7 an7 cd7 ct7),sl7⟩) (c7:PySem.W.codeIn K cd7 "pressed_mark" = true) (k7:PySem.W.keepIn K (.ref f7)=true)
  (a8:PySem.W.nsIn K mainGlobals "changed_entries" = some (some (.ref f8))) (l8:K.lookup f8=some ⟨oc8,od8,.func (PySem.W.fnOf "changed_entries" "changed_entries" (defArgs s_changed_entries) (defBody s_changed_entries) (defScope s_changed_entries) .none kV8 dc8 pm8 an8 cd8 ct8),sl8⟩) (c8:PySem.W.codeIn K cd8 "changed_entries" = true) (k8:PySem.W.keepIn K (.ref f8)=true)
  (a9:PySem.W.nsIn K mainGlobals "press" = some (some (.ref f9))) (l9:K.lookup f9=some ⟨oc9,od9,.func (PySem.W.fnOf "press" "press" (defArgs s_press) (defBody s_press) (defScope s_press) .none kV9 dc9 pm9 an9 cd9 ct9),sl9⟩) (c9:PySem.W.codeIn K cd9 "press" = true) (k9:PySem.W.keepIn K (.ref f9)=true)
  (a10:PySem.W.nsIn K mainGlobals "_law_cell_at" = some (some (.ref f10))) (l10:K.lookup f10=some ⟨oc10,od10,.func (PySem.W.fnOf "_law_cell_at" "_law_cell_at" (defArgs s_cell_at) (defBody s_cell_at) (defScope s_cell_at) .none kV10 dc10 pm10 an10 cd10 ct10),sl10⟩) (c10:PySem.W.codeIn K cd10 "_law_cell_at" = true) (k10:PySem.W.keepIn K (.ref f10)=true)
  (a11:PySem.W.nsIn K mainGlobals "_law_big" = some (some (.ref f11))) (l11:K.lookup f11=some ⟨oc11,od11,.func (PySem.W.fnOf "_law_big" "_law_big" (defArgs s_big) (defBody s_big) (defScope s_big) .none kV11 dc11 pm11 an11 cd11 ct11),sl11⟩) (c11:PySem.W.codeIn K cd11 "_law_big" = true) (k11:PySem.W.keepIn K (.ref f11)=true)
  (a12:PySem.W.nsIn K mainGlobals "_law_name_of" = some (some (.ref f12))) (l12:K.lookup f12=some ⟨oc12,od12,.func (PySem.W.fnOf "_law_name_of" "_law_name_of" (defArgs s_name_of) (defBody s_name_of) (defScope s_name_of) .none kV12 dc12 pm12 an12 cd12 ct12),sl12⟩) (c12:PySem.W.codeIn K cd12 "_law_name_of" = true) (k12:PySem.W.keepIn K (.ref f12)=true)
  (a13:PySem.W.nsIn K mainGlobals "_law_signs_of" = some (some (.ref f13))) (l13:K.lookup f13=some ⟨oc13,od13,.func (PySem.W.fnOf "_law_signs_of" "_law_signs_of" (defArgs s_signs_of) (defBody s_signs_of) (defScope s_signs_of) .none kV13 dc13 pm13 an13 cd13 ct13),sl13⟩) (c13:PySem.W.codeIn K cd13 "_law_signs_of" = true) (k13:PySem.W.keepIn K (.ref f13)=true)
  (a14:PySem.W.nsIn K mainGlobals "_law_words_of" = some (some (.ref f14))) (l14:K.lookup f14=some ⟨oc14,od14,.func (PySem.W.fnOf "_law_words_of" "_law_words_of" (defArgs s_words_of) (defBody s_words_of) (defScope s_words_of) .none kV14 dc14 pm14 an14 cd14 ct14),sl14⟩) (c14:PySem.W.codeIn K cd14 "_law_words_of" = true) (k14:PySem.W.keepIn K (.ref f14)=true)
  (a15:PySem.W.nsIn K mainGlobals "_law_text_of" = some (some (.ref f15))) (l15:K.lookup f15=some ⟨oc15,od15,.func (PySem.W.fnOf "_law_text_of" "_law_text_of" (defArgs s_text_of) (defBody s_text_of) (defScope s_text_of) .none kV15 dc15 pm15 an15 cd15 ct15),sl15⟩) (c15:PySem.W.codeIn K cd15 "_law_text_of" = true) (k15:PySem.W.keepIn K (.ref f15)=true)
  (a16:PySem.W.nsIn K mainGlobals "_law_tree_of" = some (some (.ref f16))) (l16:K.lookup f16=some ⟨oc16,od16,.func (PySem.W.fnOf "_law_tree_of" "_law_tree_of" (defArgs s_tree_of) (defBody s_tree_of) (defScope s_tree_of) .none kV16 dc16 pm16 an16 cd16 ct16),sl16⟩) (c16:PySem.W.codeIn K cd16 "_law_tree_of" = true) (k16:PySem.W.keepIn K (.ref f16)=true)
  (a17:PySem.W.nsIn K mainGlobals "_law_under_shut" = some (some (.ref f17))) (l17:K.lookup f17=some ⟨oc17,od17,.func (PySem.W.fnOf "_law_under_shut" "_law_under_shut" (defArgs s_under_shut) (defBody s_under_shut) (defScope s_under_shut) .none kV17 dc17 pm17 an17 cd17 ct17),sl17⟩) (c17:PySem.W.codeIn K cd17 "_law_under_shut" = true) (k17:PySem.W.keepIn K (.ref f17)=true)
  (a18:PySem.W.nsIn K mainGlobals "_law_pane_of" = some (some (.ref f18))) (l18:K.lookup f18=some ⟨oc18,od18,.func (PySem.W.fnOf "_law_pane_of" "_law_pane_of" (defArgs s_pane_of) (defBody s_pane_of) (defScope s_pane_of) .none kV18 dc18 pm18 an18 cd18 ct18),sl18⟩) (c18:PySem.W.codeIn K cd18 "_law_pane_of" = true) (k18:PySem.W.keepIn K (.ref f18)=true)
  (a19:PySem.W.nsIn K mainGlobals "_law_tree_under" = some (some (.ref f19))) (l19:K.lookup f19=some ⟨oc19,od19,.func (PySem.W.fnOf "_law_tree_under" "_law_tree_under" (defArgs s_tree_under) (defBody s_tree_under) (defScope s_tree_under) .none kV19 dc19 pm19 an19 cd19 ct19),sl19⟩) (c19:PySem.W.codeIn K cd19 "_law_tree_under" = true) (k19:PySem.W.keepIn K (.ref f19)=true)
  (a20:PySem.W.nsIn K mainGlobals "_law_laid" = some (some (.ref f20))) (l20:K.lookup f20=some ⟨oc20,od20,.func (PySem.W.fnOf "_law_laid" "_law_laid" (defArgs s_laid) (defBody s_laid) (defScope s_laid) .none kV20 dc20 pm20 an20 cd20 ct20),sl20⟩) (c20:PySem.W.codeIn K cd20 "_law_laid" = true) (k20:PySem.W.keepIn K (.ref f20)=true)
  (a21:PySem.W.nsIn K mainGlobals "_law_tidied" = some (some (.ref f21))) (l21:K.lookup f21=some ⟨oc21,od21,.func (PySem.W.fnOf "_law_tidied" "_law_tidied" (defArgs s_tidied) (defBody s_tidied) (defScope s_tidied) .none kV21 dc21 pm21 an21 cd21 ct21),sl21⟩) (c21:PySem.W.codeIn K cd21 "_law_tidied" = true) (k21:PySem.W.keepIn K (.ref f21)=true)
  (a22:PySem.W.nsIn K mainGlobals "_law_stands" = some (some (.ref f22))) (l22:K.lookup f22=some ⟨oc22,od22,.func (PySem.W.fnOf "_law_stands" "_law_stands" (defArgs s_stands) (defBody s_stands) (defScope s_stands) .none kV22 dc22 pm22 an22 cd22 ct22),sl22⟩) (c22:PySem.W.codeIn K cd22 "_law_stands" = true) (k22:PySem.W.keepIn K (.ref f22)=true)
  (a23:PySem.W.nsIn K mainGlobals "_law_is_pane" = some (some (.ref f23))) (l23:K.lookup f23=some ⟨oc23,od23,.func (PySem.W.fnOf "_law_is_pane" "_law_is_pane" (defArgs s_is_pane) (defBody s_is_pane) (defScope s_is_pane) .none kV23 dc23 pm23 an23 cd23 ct23),sl23⟩) (c23:PySem.W.codeIn K cd23 "_law_is_pane" = true) (k23:PySem.W.keepIn K (.ref f23)=true)
  (a24:PySem.W.nsIn K mainGlobals "_law_over" = some (some (.ref f24))) (l24:K.lookup f24=some ⟨oc24,od24,.func (PySem.W.fnOf "_law_over" "_law_over" (defArgs s_over) (defBody s_over) (defScope s_over) .none kV24 dc24 pm24 an24 cd24 ct24),sl24⟩) (c24:PySem.W.codeIn K cd24 "_law_over" = true) (k24:PySem.W.keepIn K (.ref f24)=true)
  (a25:PySem.W.nsIn K mainGlobals "law" = some (some (.ref f25))) (l25:K.lookup f25=some ⟨oc25,od25,.func (PySem.W.fnOf "law" "law" (defArgs s_law) (defBody s_law) (defScope s_law) .none kV25 dc25 pm25 an25 cd25 ct25),sl25⟩) (c25:PySem.W.codeIn K cd25 "law" = true) (k25:PySem.W.keepIn K (.ref f25)=true)
  (z_isinstance:PySem.W.nsIn K mainGlobals "isinstance" = some none)
  (z_len:PySem.W.nsIn K mainGlobals "len" = some none)
  (z_list:PySem.W.nsIn K mainGlobals "list" = some none)
  (z_range:PySem.W.nsIn K mainGlobals "range" = some none)
  (z_sorted:PySem.W.nsIn K mainGlobals "sorted" = some none)
  (z_str:PySem.W.nsIn K mainGlobals "str" = some none)
  (z_tuple:PySem.W.nsIn K mainGlobals "tuple" = some none) :
  ∃ fd:FuncData,(∀ (s:Shared) (v:Value),BindsTo s fd ⟨[v],[]⟩ [("_law_script",v)])∧∀ base:Heap,K.In base→base.Ns mainGlobals mg→FnOk l.prog w K mg base CX0 5 fa fd ["_law_script"] (spOf K g_law):=by
 have e:=hfa.symm.trans (PySem.W.mg_of X G a25)
 cases e
 have B:Blt K mg:=⟨PySem.W.mg_none_of X G z_isinstance,PySem.W.mg_none_of X G z_len,PySem.W.mg_none_of X G z_list,PySem.W.mg_none_of X G z_range,PySem.W.mg_none_of X G z_sorted,PySem.W.mg_none_of X G z_str,PySem.W.mg_none_of X G z_tuple⟩
 have F1:=fun_mk (st:=s_above) l1 c1 k1
 have b1:=F1.binds1 (ps:=["way"]) rfl fun _ _ _ _ _ _ _=>rfl
 have F2:=fun_mk (st:=s_in_order) l2 c2 k2
 have b2:=F2.binds1 (ps:=["entries"]) rfl fun _ _ _ _ _ _ _=>rfl
 have F3:=fun_mk (st:=s_marks_of) l3 c3 k3
 have b3:=F3.binds1 (ps:=["pane"]) rfl fun _ _ _ _ _ _ _=>rfl
 have F4:=fun_mk (st:=s_hides) l4 c4 k4
 have b4:=F4.binds1 (ps:=["mark"]) rfl fun _ _ _ _ _ _ _=>rfl
 have F5:=fun_mk (st:=s_hidden_ways) l5 c5 k5
 have b5:=F5.binds2 (ps:=["pane","entries"]) rfl fun _ _ _ _ _ _ _ _=>rfl
 have F6:=fun_mk (st:=s_left_alone) l6 c6 k6
 have b6:=F6.binds2 (ps:=["pane","entries"]) rfl fun _ _ _ _ _ _ _ _=>rfl
 have F7:=fun_mk (st:=s_pressed_mark) l7 c7 k7
 have b7:=F7.binds3 (ps:=["mark","bare","closing"]) rfl fun _ _ _ _ _ _ _ _ _=>rfl
 have F8:=fun_mk (st:=s_changed_entries) l8 c8 k8
 have b8:=F8.binds2 (ps:=["upper","lower"]) rfl fun _ _ _ _ _ _ _ _=>rfl
 have F9:=fun_mk (st:=s_press) l9 c9 k9
 have b9:=F9.binds2 (ps:=["upper","lower"]) rfl fun _ _ _ _ _ _ _ _=>rfl
 have F10:=fun_mk (st:=s_cell_at) l10 c10 k10
 have b10:=F10.binds2 (ps:=["_law_script","_law_k"]) rfl fun _ _ _ _ _ _ _ _=>rfl
 have F11:=fun_mk (st:=s_big) l11 c11 k11
 have b11:=F11.binds2 (ps:=["_law_script","_law_at"]) rfl fun _ _ _ _ _ _ _ _=>rfl
 have F12:=fun_mk (st:=s_name_of) l12 c12 k12
 have b12:=F12.binds2 (ps:=["_law_big_here","_law_pool"]) rfl fun _ _ _ _ _ _ _ _=>rfl
 have F13:=fun_mk (st:=s_signs_of) l13 c13 k13
 have b13:=F13.binds2 (ps:=["_law_big_here","_law_most"]) rfl fun _ _ _ _ _ _ _ _=>rfl
 have F14:=fun_mk (st:=s_words_of) l14 c14 k14
 have b14:=F14.binds3 (ps:=["_law_big_here","_law_many","_law_pool"]) rfl fun _ _ _ _ _ _ _ _ _=>rfl
 have F15:=fun_mk (st:=s_text_of) l15 c15 k15
 have b15:=F15.binds3 (ps:=["_law_mark","_law_big_here","_law_pool"]) rfl fun _ _ _ _ _ _ _ _ _=>rfl
 have F16:=fun_mk (st:=s_tree_of) l16 c16 k16
 have b16:=F16.binds3 (ps:=["_law_big_here","_law_most","_law_pool"]) rfl fun _ _ _ _ _ _ _ _ _=>rfl
 have F17:=fun_mk (st:=s_under_shut) l17 c17 k17
 have b17:=F17.binds2 (ps:=["_law_things","_law_way"]) rfl fun _ _ _ _ _ _ _ _=>rfl
 have F18:=fun_mk (st:=s_pane_of) l18 c18 k18
 have b18:=F18.binds3 (ps:=["_law_big_here","_law_most","_law_pool"]) rfl fun _ _ _ _ _ _ _ _ _=>rfl
 have F19:=fun_mk (st:=s_tree_under) l19 c19 k19
 have b19:=F19.binds3 (ps:=["_law_ways","_law_big_here","_law_name"]) rfl fun _ _ _ _ _ _ _ _ _=>rfl
 have F20:=fun_mk (st:=s_laid) l20 c20 k20
 have b20:=F20.binds2 (ps:=["_law_pane","_law_tree"]) rfl fun _ _ _ _ _ _ _ _=>rfl
 have F21:=fun_mk (st:=s_tidied) l21 c21 k21
 have b21:=F21.binds1 (ps:=["_law_things"]) rfl fun _ _ _ _ _ _ _=>rfl
 have F22:=fun_mk (st:=s_stands) l22 c22 k22
 have b22:=F22.binds2 (ps:=["_law_row","_law_marks"]) rfl fun _ _ _ _ _ _ _ _=>rfl
 have F23:=fun_mk (st:=s_is_pane) l23 c23 k23
 have b23:=F23.binds1 (ps:=["_law_found"]) rfl fun _ _ _ _ _ _ _=>rfl
 have F24:=fun_mk (st:=s_over) l24 c24 k24
 have b24:=F24.binds3 (ps:=["_law_upper","_law_lower","_law_big_here"]) rfl fun _ _ _ _ _ _ _ _ _=>rfl
 have F25:=fun_mk (st:=s_law) l25 c25 k25
 have b25:=F25.binds1 (ps:=["_law_script"]) rfl fun _ _ _ _ _ _ _=>rfl
 refine ⟨PySem.W.fnOf "law" "law" (defArgs s_law) (defBody s_law) (defScope s_law) .none kV25 dc25 pm25 an25 cd25 ct25,fun s v=>.of_eq rfl,fun base _ _=>?_⟩
 have Ccell_at:=Cal.mk (ok_cell_at (P:=l.prog) (w:=w) (mg:=mg) (base:=base) F10 B) (PySem.W.mg_of X G a10) k10 b10
 have Cname_of:=Cal.mk (ok_name_of (P:=l.prog) (w:=w) (mg:=mg) (base:=base) F12 B) (PySem.W.mg_of X G a12) k12 b12
 have Cunder_shut:=Cal.mk (ok_under_shut (P:=l.prog) (w:=w) (mg:=mg) (base:=base) F17 B) (PySem.W.mg_of X G a17) k17 b17
 have Csigns_of:=Cal.mk (ok_signs_of (P:=l.prog) (w:=w) (mg:=mg) (base:=base) F13 B) (PySem.W.mg_of X G a13) k13 b13
 have Cwords_of:=Cal.mk (ok_words_of (P:=l.prog) (w:=w) (mg:=mg) (base:=base) F14 B Cname_of) (PySem.W.mg_of X G a14) k14 b14
 have Ctext_of:=Cal.mk (ok_text_of (P:=l.prog) (w:=w) (mg:=mg) (base:=base) F15 B Csigns_of Cwords_of) (PySem.W.mg_of X G a15) k15 b15
 have Cpane_of:=Cal.mk (ok_pane_of (P:=l.prog) (w:=w) (mg:=mg) (base:=base) F18 B Cname_of Cunder_shut Ctext_of) (PySem.W.mg_of X G a18) k18 b18
 have Cbig:=Cal.mk (ok_big (P:=l.prog) (w:=w) (mg:=mg) (base:=base) F11 B Ccell_at) (PySem.W.mg_of X G a11) k11 b11
 have Ctree_of:=Cal.mk (ok_tree_of (P:=l.prog) (w:=w) (mg:=mg) (base:=base) F16 B Cname_of Ctext_of) (PySem.W.mg_of X G a16) k16 b16
 have Ctidied:=Cal.mk (ok_tidied (P:=l.prog) (w:=w) (mg:=mg) (base:=base) F21 B Cunder_shut) (PySem.W.mg_of X G a21) k21 b21
 have Cover:=Cal.mk (ok_over (P:=l.prog) (w:=w) (mg:=mg) (base:=base) F24 B Ctidied) (PySem.W.mg_of X G a24) k24 b24
 have Ctree_under:=Cal.mk (ok_tree_under (P:=l.prog) (w:=w) (mg:=mg) (base:=base) F19 B) (PySem.W.mg_of X G a19) k19 b19
 have Cin_order:=Cal.mk (ok_in_order (P:=l.prog) (w:=w) (mg:=mg) (base:=base) F2 B) (PySem.W.mg_of X G a2) k2 b2
 have Cmarks_of:=Cal.mk (ok_marks_of (P:=l.prog) (w:=w) (mg:=mg) (base:=base) F3 B) (PySem.W.mg_of X G a3) k3 b3
 have Cabove:=Cal.mk (ok_above (P:=l.prog) (w:=w) (mg:=mg) (base:=base) F1 B) (PySem.W.mg_of X G a1) k1 b1
 have Chides:=Cal.mk (ok_hides (P:=l.prog) (w:=w) (mg:=mg) (base:=base) F4 B) (PySem.W.mg_of X G a4) k4 b4
 have Chidden_ways:=Cal.mk (ok_hidden_ways (P:=l.prog) (w:=w) (mg:=mg) (base:=base) F5 B Cmarks_of Cabove Chides) (PySem.W.mg_of X G a5) k5 b5
 have Cleft_alone:=Cal.mk (ok_left_alone (P:=l.prog) (w:=w) (mg:=mg) (base:=base) F6 B Cmarks_of Chidden_ways) (PySem.W.mg_of X G a6) k6 b6
 have Cpressed_mark:=Cal.mk (ok_pressed_mark (P:=l.prog) (w:=w) (mg:=mg) (base:=base) F7 B) (PySem.W.mg_of X G a7) k7 b7
 have Cchanged_entries:=Cal.mk (ok_changed_entries (P:=l.prog) (w:=w) (mg:=mg) (base:=base) F8 B Cmarks_of Chidden_ways Chides Cpressed_mark) (PySem.W.mg_of X G a8) k8 b8
 have Cpress:=Cal.mk (ok_press (P:=l.prog) (w:=w) (mg:=mg) (base:=base) F9 B Cin_order Cleft_alone Cchanged_entries) (PySem.W.mg_of X G a9) k9 b9
 have Cstands:=Cal.mk (ok_stands (P:=l.prog) (w:=w) (mg:=mg) (base:=base) F22 B) (PySem.W.mg_of X G a22) k22 b22
 have Cis_pane:=Cal.mk (ok_is_pane (P:=l.prog) (w:=w) (mg:=mg) (base:=base) F23 B Cstands) (PySem.W.mg_of X G a23) k23 b23
 have Claid:=Cal.mk (ok_laid (P:=l.prog) (w:=w) (mg:=mg) (base:=base) F20 B) (PySem.W.mg_of X G a20) k20 b20
 exact ok_law F25 B Ccell_at Cpane_of Cbig Ctree_of Cover Cname_of Ctree_under Cpress Cis_pane Claid
theorem walk {l:PySem.W.OpenLaw} {q:Program} {loose:List Str} {XP:(Str→Option Value)→Heap→Prop} {YP:World→Heap→Prop} {d:DefRec} {K:Params→PySem.W.Frag} (hn:l.most=some 63) (hdf:d.params.defaults=[])
  (hY:∀ (w:World) (h:Heap),YP w h→(K w.params).In h)
  (F:∀ (w:World) (mg:Str→Option Value) (fa:Addr) (h:Heap),(K w.params).In h→h.Ns mainGlobals mg→mg d.name=some (.ref fa) →
   ∃ fd:FuncData,(∀ (s:Shared) (u:Value),BindsTo s fd ⟨[u],[]⟩ [("_law_script",u)])∧∀ base:Heap,(K w.params).In base→base.Ns mainGlobals mg→FnOk l.prog w (K w.params) mg base CX0 5 fa fd ["_law_script"] (spOf (K w.params) g_law)) :
  PySem.W.WalkO q loose XP YP l.row.toRowW d [] (fun f vs=>PySem.call f vs) :=
 L2.walk_of (n:=63) (k:=5) (x:="_law_script") (CX:=fun _=>CX0) (sp:=fun w=>spOf (K w.params) g_law) hn (by decide) hdf ⟨rfl,by decide,by decide⟩ hY F (fun w H a ns hl _ hS=>law_sp ns hl hS) fun _ _ _ _ _ z=>z
end K18
open PySem PySem.W PyProof.Rows
namespace PySem.W.Fast
def tw10762557965711778538:=()
def tw3199606563436105884:=()
def tw16056418473077033839:=()
def tw5458409949613538984:=()
def tw1303407321008779456:=()
def tw5225908237020093306:=()
def tw9396633140831912421:=()
def tw14710901724724495315:=()
def tw5959986740377775704:=()
def tw9243164719266137291:=()
def tw844927786501391261:=()
def tw10176161088651147658:=()
def tw6036232044537474646:=()
def tw18001533181749550854:=()
def tw18410864248258348004:=()
def tw14164636570296806679:=()
def tw6999192348652531352:=()
def tw150449150260851508:=()
def tw2593092117727280503:=()
def tw11617057364797977537:=()
def tw8752239588356752089:=()
def tw15505374101820064161:=()
def tw1629562865686855174:=()
def tw17483858502278042582:=()
def tw1689744528829077683:=()
def tw2482737673959982275:=()
def tw13525485759577092922:=()
def tw11011788138518358879:=()
def tw10611468350582626290:=()
def tw10602563620147952724:=()
def tw7993089075209077602:=()
def tw838555585810577417:=()
def tw15228809173075956053:=()
def tw15849767262842422780:=()
def tw5578018704585140511:=()
def tw16162998437213240882:=()
def tw4932663888562386023:=()
def tw17529793064715774408:=()
def tw18105052027676561678:=()
def tw5370387080088460797:=()
def tw774532090685820589:=()
def tw17739728457818468899:=()
def tw17973229549568247663:=()
def tw3453266267226242260:=()
def tw2441762896858997060:=()
def tw14970112133346568550:=()
def tw10925946011564701247:=()
def tw1241959274998321584:=()
end PySem.W.Fast
set_option maxRecDepth 100000 in
set_option maxHeartbeats 0 in
theorem PySem.Challenge.cw_glasslayers_k18_pressed_as_two_holds : PySem.Challenge.rw_glasslayers_k18_pressed_as_two.Holds := by
 w_on; o_law; k_head; (case hw=>w_witness2)
 k_fill
 refine K18.walk (l:=PySem.Challenge.rw_glasslayers_k18_pressed_as_two) rfl rfl (fun w h Y=>PySem.W.kIn_of Y) ?F
 case F =>
  intro w mg fa h KX G hmg
  refine' K18.all_mk KX G hmg ?a1 ?l1 ?c1 ?k1 ?a2 ?l2 ?c2 ?k2 ?a3 ?l3 ?c3 ?k3 ?a4 ?l4 ?c4 ?k4 ?a5 ?l5 ?c5 ?k5 ?a6 ?l6 ?c6 ?k6 ?a7 ?l7 ?c7 ?k7 ?a8 ?l8 ?c8 ?k8 ?a9 ?l9 ?c9 ?k9 ?a10 ?l10 ?c10 ?k10 ?a11 ?l11 ?c11 ?k11 ?a12 ?l12 ?c12 ?k12 ?a13 ?l13 ?c13 ?k13 ?a14 ?l14 ?c14 ?k14 ?a15 ?l15 ?c15 ?k15 ?a16 ?l16 ?c16 ?k16 ?a17 ?l17 ?c17 ?k17 ?a18 ?l18 ?c18 ?k18 ?a19 ?l19 ?c19 ?k19 ?a20 ?l20 ?c20 ?k20 ?a21 ?l21 ?c21 ?k21 ?a22 ?l22 ?c22 ?k22 ?a23 ?l23 ?c23 ?k23 ?a24 ?l24 ?c24 ?k24 ?a25 ?l25 ?c25 ?k25 ?z_isinstance ?z_len ?z_list ?z_range ?z_sorted ?z_str ?z_tuple
  (case a1=>k_is)
  (case l1=>k_is)
  (case c1=>k_is)
  (case k1=>k_is)
  (case a2=>k_is)
  (case l2=>k_is)
  (case c2=>k_is)
  (case k2=>k_is)
  (case a3=>k_is)
  (case l3=>k_is)
  (case c3=>k_is)
  (case k3=>k_is)
  (case a4=>k_is)
  (case l4=>k_is)
  (case c4=>k_is)
  (case k4=>k_is)
  (case a5=>k_is)
  (case l5=>k_is)
  (case c5=>k_is)
  (case k5=>k_is)
  (case a6=>k_is)
  (case l6=>k_is)
  (case c6=>k_is)
  (case k6=>k_is)
  (case a7=>k_is)
  (case l7=>k_is)
  (case c7=>k_is)
  (case k7=>k_is)
  (case a8=>k_is)
  (case l8=>k_is)
  (case c8=>k_is)
  (case k8=>k_is)
  (case a9=>k_is)
  (case l9=>k_is)
  (case c9=>k_is)
  (case k9=>k_is)
  (case a10=>k_is)
  (case l10=>k_is)
  (case c10=>k_is)
  (case k10=>k_is)
  (case a11=>k_is)
  (case l11=>k_is)
  (case c11=>k_is)
  (case k11=>k_is)
  (case a12=>k_is)
  (case l12=>k_is)
  (case c12=>k_is)
  (case k12=>k_is)
  (case a13=>k_is)
  (case l13=>k_is)
  (case c13=>k_is)
  (case k13=>k_is)
  (case a14=>k_is)
  (case l14=>k_is)
  (case c14=>k_is)
  (case k14=>k_is)
  (case a15=>k_is)
  (case l15=>k_is)
  (case c15=>k_is)
  (case k15=>k_is)
  (case a16=>k_is)
  (case l16=>k_is)
  (case c16=>k_is)
  (case k16=>k_is)
  (case a17=>k_is)
  (case l17=>k_is)
  (case c17=>k_is)
  (case k17=>k_is)
  (case a18=>k_is)
  (case l18=>k_is)
  (case c18=>k_is)
  (case k18=>k_is)
  (case a19=>k_is)
  (case l19=>k_is)
  (case c19=>k_is)
  (case k19=>k_is)
  (case a20=>k_is)
  (case l20=>k_is)
  (case c20=>k_is)
  (case k20=>k_is)
  (case a21=>k_is)
  (case l21=>k_is)
  (case c21=>k_is)
  (case k21=>k_is)
  (case a22=>k_is)
  (case l22=>k_is)
  (case c22=>k_is)
  (case k22=>k_is)
  (case a23=>k_is)
  (case l23=>k_is)
  (case c23=>k_is)
  (case k23=>k_is)
  (case a24=>k_is)
  (case l24=>k_is)
  (case c24=>k_is)
  (case k24=>k_is)
  (case a25=>k_is)
  (case l25=>k_is)
  (case c25=>k_is)
  (case k25=>k_is)
  (case z_isinstance=>k_is)
  (case z_len=>k_is)
  (case z_list=>k_is)
  (case z_range=>k_is)
  (case z_sorted=>k_is)
  (case z_str=>k_is)
  (case z_tuple=>k_is)
