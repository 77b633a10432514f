import PyProof.Rows.All
import Wide.All
import OpenK.AllK
import Wide.FinOn
import Lean
import PyProof.EqAt
import PyProof.EqKinds
import PyProof.TupleCall
import PySem.Challenge.RW_glasslayers_k05_words_read
set_option Elab.async false
set_option linter.all false
set_option maxRecDepth 100000
/-! THE HAND LAYER, for ints, bools, texts, own classes, LISTS and tuples (index, slices, in, append, pop ..), calls, loops. Paste it whole ahead of your own text; what your proof does not reach may be deleted. -/
namespace L2
open PySem PySem.Spec PyProof.Rows

/-- a key: an int or a str -/
abbrev Key := Sum Int Str
def keyIs : Key → Value → Bool
  | .inl k, v => Value.isInt k v
  | .inr x, v => Value.isStrOf x v
def keyH (w : World) : Key → Int
  | .inl k => hashInt k
  | .inr x => hashStr w x
theorem keyIs_shape : ∀ {k : Key} {v : Value}, keyIs k v = true → (∃ i t, k = Sum.inl i ∧ v = Value.int i t) ∨ (∃ x t, k = Sum.inr x ∧ v = Value.str x t)
  | .inl i, v, h => by
    obtain ⟨t, e⟩ := Value.isInt_shape (k := i) (v := v) h
    exact .inl ⟨i, t, rfl, e⟩
  | .inr x, v, h => by
    obtain ⟨t, e⟩ := Value.isStrOf_shape (x := x) (v := v) h
    exact .inr ⟨x, t, rfl, e⟩
theorem keyIs_int (i : Int) (t : Tok) : keyIs (.inl i) (.int i t) = true := by simp [keyIs, Value.isInt]
theorem keyIs_str (x : Str) (t : Tok) : keyIs (.inr x) (.str x t) = true := by simp [keyIs, Value.isStrOf]
theorem key_ll (a b : Int) : decide ((Sum.inl a : Key) = Sum.inl b) = (a == b) := by
  by_cases e : a = b
  · subst e; simp
  · have h : ¬ (Sum.inl a : Key) = Sum.inl b := fun q => e (Sum.inl.inj q)
    rw [decide_eq_false h]
    exact (beq_eq_false_iff_ne.mpr e).symm
theorem key_rr (a b : Str) : decide ((Sum.inr a : Key) = Sum.inr b) = decide (a = b) := by
  by_cases e : a = b
  · subst e; simp
  · have h : ¬ (Sum.inr a : Key) = Sum.inr b := fun q => e (Sum.inr.inj q)
    rw [decide_eq_false h, decide_eq_false e]
theorem key_lr (a : Int) (b : Str) : decide ((Sum.inl a : Key) = Sum.inr b) = false := decide_eq_false (fun q => nomatch q)
theorem key_rl (a : Str) (b : Int) : decide ((Sum.inr a : Key) = Sum.inl b) = false := decide_eq_false (fun q => nomatch q)

def mixKind (prog : Program) (w : World) : PySem.KeyKind prog w Key where
  is := keyIs
  hash := keyH w
  inj := fun v a b ha hb => by
    rcases keyIs_shape ha with ⟨i, t, rfl, rfl⟩ | ⟨x, t, rfl, rfl⟩
    · rcases keyIs_shape hb with ⟨j, u, rfl, e⟩ | ⟨y, u, rfl, e⟩
      · injection e with e1 _; rw [e1]
      · exact nomatch e
    · rcases keyIs_shape hb with ⟨j, u, rfl, e⟩ | ⟨y, u, rfl, e⟩
      · exact nomatch e
      · injection e with e1 _; rw [e1]
  byValue := fun k v h => by
    rcases keyIs_shape h with ⟨i, t, rfl, rfl⟩ | ⟨x, t, rfl, rfl⟩ <;> rfl
  pyHash := fun hv h => by
    rcases keyIs_shape hv with ⟨i, t, rfl, rfl⟩ | ⟨x, t, rfl, rfl⟩
    · exact wpAny_pyHash_int h
    · exact wpAny_pyHash_str h
  eqBool := fun hu hv h => by
    rcases keyIs_shape hu with ⟨i, t, rfl, rfl⟩ | ⟨x, t, rfl, rfl⟩
    · rcases keyIs_shape hv with ⟨j, u, rfl, rfl⟩ | ⟨y, u, rfl, rfl⟩
      · rw [key_ll] at h; exact wpAny_eqBool_int h
      · rw [key_lr] at h; exact SeqAt.EqAt.int_str i t y u _ _ _ _ h
    · rcases keyIs_shape hv with ⟨j, u, rfl, rfl⟩ | ⟨y, u, rfl, rfl⟩
      · rw [key_rl] at h; exact SeqAt.EqAt.str_int x t j u _ _ _ _ h
      · rw [key_rr] at h; exact wpAny_eqBool_str h
  «strs» := fun k x t v h => by
    rcases keyIs_shape h with ⟨i, u, rfl, e⟩ | ⟨y, u, rfl, e⟩
    · exact nomatch e
    · injection e with e1 _
      subst e1
      cases v <;> rfl

theorem mixKind_is (prog : Program) (w : World) (k : Key) (v : Value) : (mixKind prog w).is k v = keyIs k v := rfl
theorem mixKind_int (prog : Program) (w : World) (i : Int) (t : Tok) : (mixKind prog w).is (.inl i) (.int i t) = true := keyIs_int i t
theorem mixKind_str (prog : Program) (w : World) (x : Str) (t : Tok) : (mixKind prog w).is (.inr x) (.str x t) = true := keyIs_str x t
end L2

namespace L2
open PySem PySem.Spec PyProof.Rows

/-- a value, without the heap -/
inductive V where
  | non | bl (b : Bool) | int (i : Int) | str (x : Str) | byt (b : Array UInt8) | flt (b : UInt64) | ref (a : Addr) | ty (n : String)
  deriving DecidableEq

def RelV : V → Value → Prop
  | .non, u => u = Value.none
  | .bl b, u => u = Value.bool b
  | .int i, u => ∃ t, u = Value.int i t
  | .str x, u => ∃ t, u = Value.str x t
  | .byt b, u => ∃ t, u = Value.bytes b t
  | .flt b, u => ∃ t, u = Value.float b t
  | .ref a, u => u = Value.ref a
  | .ty n, u => u = Value.type n

abbrev Vals : List V → List Value → Prop := Paired RelV
theorem Vals.length {xs : List V} {us : List Value} (r : Vals xs us) : xs.length = us.length := Paired.length r
theorem Vals.get : ∀ {xs : List V} {us : List Value} {i : Nat} {x : V}, Vals xs us → xs[i]? = some x → ∃ u, us[i]? = some u ∧ RelV x u
  | _, _, _, _, .nil, e => by simp at e
  | _, _, 0, _, .cons r _, e => by simp at e; subst e; exact ⟨_, rfl, r⟩
  | _, _, i + 1, x, .cons _ t, e => by
    obtain ⟨u, h1, h2⟩ := Vals.get (i := i) (x := x) t (by simpa using e)
    exact ⟨u, by simpa using h1, h2⟩
theorem Vals.set {x : V} {u : Value} (r : RelV x u) : ∀ {xs : List V} {us : List Value} (i : Nat), Vals xs us → Vals (xs.set i x) (us.set i u)
  | _, _, _, .nil => .nil
  | _, _, 0, .cons _ t => .cons r t
  | _, _, i + 1, .cons q t => .cons q (Vals.set r i t)
theorem Vals.append : ∀ {xs ys : List V} {us ws : List Value}, Vals xs us → Vals ys ws → Vals (xs ++ ys) (us ++ ws)
  | _, _, _, _, .nil, s => s
  | _, _, _, _, .cons r t, s => .cons r (Vals.append t s)
theorem Vals.take : ∀ {xs : List V} {us : List Value} (n : Nat), Vals xs us → Vals (xs.take n) (us.take n)
  | _, _, 0, _ => .nil
  | _, _, _ + 1, .nil => .nil
  | _, _, n + 1, .cons r t => .cons r (Vals.take n t)
theorem Vals.drop : ∀ {xs : List V} {us : List Value} (n : Nat), Vals xs us → Vals (xs.drop n) (us.drop n)
  | _, _, 0, r => r
  | _, _, _ + 1, .nil => .nil
  | _, _, n + 1, .cons _ t => Vals.drop n t
theorem Vals.none_of : ∀ {xs : List V} {us : List Value} {i : Nat}, Vals xs us → xs[i]? = none → us[i]? = none := fun {xs us i} r e => by
  have h1 := r.length
  have h2 : xs.length ≤ i := List.getElem?_eq_none_iff.mp e
  exact List.getElem?_eq_none_iff.mpr (by omega)

def RelO : Option V → Option Value → Prop
  | some v, some u => RelV v u
  | none, none => True
  | _, _ => False
def KV {κ : Type} : List (κ × V) → List (κ × Value) → Prop := Paired fun (p : κ × V) (q : κ × Value) => p.1 = q.1 ∧ RelV p.2 q.2

/-- a key of a dict (00_mix): an int or a text -/
def kV : Key → V
  | .inl i => .int i
  | .inr x => .str x

/-- what stands at a tracked address -/
inductive HO where
  /-- a list -/
  | lst (xs : List V)
  /-- a tuple (never changes) -/
  | tup (xs : List V)
  /-- a dict whose keys are ints and texts; one whose keys are tuples of ints and texts (the empty one is both) -/
  | dK (kvs : List (Key × V)) | dT (kvs : List (List Key × V))
  /-- a set of ints: its members, its size -/
  | set (S : Int → Bool) (n : Nat)
  /-- an instance of the class at C, its dict at dx, its attributes -/
  | ins (C dx : Addr) (fs : List (Str × V))
  /-- the dict of the instance at x -/
  | own (x : Addr)
  /-- the dict of an exception -/
  | xd (fs : List (Str × V))
  /-- a bound method, f of x -/
  | met (f x : Addr)
  /-- a range object lo, lo + 1, .. below hi -/
  | rng (lo hi : Int)
  /-- a thing that is known to the object (the script; a dict while a loop walks it): read, never written while it is so -/
  | frz (o : Obj) (u : HO)
  /-- a code object's table -/
  | tbl (ps : Array Value)
  /-- any other thing, by what is true of its one object (a def of one's own: SetO a S n := HO.ext fun h => ..) -/
  | ext (φ : Heap → Prop)

abbrev Hp := Addr → Option HO
def upd (H : Hp) (a : Addr) (o : HO) : Hp := fun b => if b = a then some o else H b
theorem upd_same {H : Hp} {a : Addr} {o : HO} : upd H a o a = some o := by unfold upd; rw [if_pos rfl]
theorem upd_ne {H : Hp} {a b : Addr} {o : HO} (h : b ≠ a) : upd H a o b = H b := by unfold upd; rw [if_neg h]
theorem upd_upd {H : Hp} {a : Addr} {o u : HO} : upd (upd H a o) a u = upd H a u := by
  funext b; unfold upd; split <;> rfl
/-- two objects of different content stand apart -/
theorem ne_of {H : Hp} {a b : Addr} {o u : HO} (h : H a = some o) (h' : H b = some u) (d : o ≠ u) : a ≠ b := by
  intro e; subst e; rw [h] at h'; exact d (Option.some.inj h')
theorem ne_of_none {H : Hp} {a b : Addr} {o : HO} (h : H a = some o) (h' : H b = none) : a ≠ b := by
  intro e; subst e; rw [h] at h'; cases h'

section
variable (P : Program) (w : World)
def ObjOk (H : Hp) (h : Heap) (a : Addr) : HO → Prop
  | .lst xs => xs.length ≤ sizeLine ∧ ∃ (its : List Value) (n : Nat), Vals xs its ∧ h.get? a = some { cls := .type "list", data := .seq its.toArray n }
  | .tup xs => xs.length ≤ sizeLine ∧ ∃ its : List Value, Vals xs its ∧ IsTup h a its.toArray
  | .dK kvs => kvs.length ≤ sizeLine ∧ (a == sysModules) = false ∧ ∃ vs, KV kvs vs ∧ h.DictOf (mixKind P w) a vs
  | .dT kvs => kvs.length ≤ sizeLine ∧ (a == sysModules) = false ∧ ∃ xs : List (List Key × Addr × Value),
      Paired (fun (p : List Key × V) (q : List Key × Addr × Value) => p.1 = q.1 ∧ H q.2.1 = some (.tup (p.1.map kV)) ∧ RelV p.2 q.2.2) kvs xs ∧
      ∃ o es ep, h.get? a = some o ∧ o.ExactDict ∧ o.data = .dict es ep ∧ es.toList = xs.map (entryOfKey (tupleKind (mixKind P w))) ∧ (xs.map (·.1)).Nodup
  | .set S n => h.SetOf (intKind P w) a S n
  | .ins C dx fs => H dx = some (.own a) ∧ fs.length ≤ 1000 ∧ dx ≠ a ∧ h.get? a = some (PySem.W.instObj C dx) ∧
      ∃ mA, h.Ns1 dx mA ∧ (∀ f, RelO (fs.lookup f) (mA f)) ∧ PySem.Within mA (fs.map (·.1))
  | .own _ => ∃ o, h.get? a = some o
  | .xd fs => ∃ mA, h.Ns1 a mA ∧ ∀ f, RelO (fs.lookup f) (mA f)
  | .rng lo hi => ∃ t u v, h.get? a = some { cls := .type "range", data := .fields #[.int lo t, .int hi u, .int 1 v] }
  | .frz o u => h.get? a = some o ∧ ObjOk H h a u
  | .tbl ps => h.get? a = some { cls := .none, data := .fields ps }
  | .met f x => h.get? a = some (PySem.W.methodObj (.ref f) (.ref x))
  | .ext φ => φ h ∧ (∃ o, h.get? a = some o) ∧ ∀ h1 h2 : Heap, φ h1 → (∀ o, h1.get? a = some o → h2.get? a = some o) → φ h2
/-- the abstract heap is held -/
def HOk (H : Hp) (h : Heap) : Prop := ∀ a o, H a = some o → ObjOk P w H h a o
end

section
variable {P : Program} {w : World} {H H' : Hp} {h h' : Heap} {a : Addr} {o : HO}
theorem ObjOk.lt (x : ObjOk P w H h a o) : a < h.objs.size := by
  cases o with
  | lst xs => obtain ⟨_, _, _, _, e⟩ := x; exact Heap.lt_size e
  | tup xs => obtain ⟨_, _, _, p⟩ := x; exact p.lt
  | dK kvs => obtain ⟨_, _, _, _, o, _, _, e, _⟩ := x; exact Heap.lt_size e
  | dT kvs => obtain ⟨_, _, _, _, o, _, _, e, _⟩ := x; exact Heap.lt_size e
  | set S n => obtain ⟨o, _, _, _, e, _⟩ := x; exact Heap.lt_size e
  | ins C dx fs => obtain ⟨_, _, _, e, _⟩ := x; exact Heap.lt_size e
  | own y => obtain ⟨_, e⟩ := x; exact Heap.lt_size e
  | xd fs => obtain ⟨_, ⟨_, _, _, e, _⟩, _⟩ := x; exact Heap.lt_size e
  | rng lo hi => obtain ⟨_, _, _, e⟩ := x; exact Heap.lt_size e
  | frz ob u => obtain ⟨e, _⟩ := x; exact Heap.lt_size e
  | tbl ps => exact Heap.lt_size (show h.get? a = some _ from x)
  | met f y => exact Heap.lt_size (show h.get? a = some _ from x)
  | ext φ => obtain ⟨_, ⟨_, e⟩, _⟩ := x; exact Heap.lt_size e
theorem Paired.mapP {α β : Type} {F G : α → β → Prop} : ∀ {l₁ : List α} {l₂ : List β}, Paired F l₁ l₂ → (∀ a b, F a b → G a b) → Paired G l₁ l₂
  | _, _, .nil, _ => .nil
  | _, _, .cons r t, f => .cons (f _ _ r) (Paired.mapP t f)
theorem Paired.imp' {α β : Type} {F G : α → β → Prop} (f : ∀ a b, F a b → G a b) {l₁ : List α} {l₂ : List β} (r : Paired F l₁ l₂) : Paired G l₁ l₂ := Paired.mapP r f
/-- what an object's description leans on: its own object, its own dict, the tuples -/
theorem ObjOk.stay (x : ObjOk P w H h a o) (k : ∀ b u, (b = a ∨ H b = some (.own a)) → h.get? b = some u → h'.get? b = some u)
    (ho : ∀ b, H b = some (.own a) → H' b = some (.own a)) (ht : ∀ b xs, H b = some (.tup xs) → H' b = some (.tup xs)) : ObjOk P w H' h' a o := by
  induction o with
  | lst xs => obtain ⟨z, its, n, r, e⟩ := x; exact ⟨z, its, n, r, k _ _ (.inl rfl) e⟩
  | tup xs => obtain ⟨z, its, r, ob, e, c⟩ := x; exact ⟨z, its, r, ob, k _ _ (.inl rfl) e, c⟩
  | dK kvs => obtain ⟨z, y, vs, r, ob, es, ep, e, c⟩ := x; exact ⟨z, y, vs, r, ob, es, ep, k _ _ (.inl rfl) e, c⟩
  | dT kvs =>
    obtain ⟨z, y, xs, r, ob, es, ep, e, c⟩ := x
    exact ⟨z, y, xs, Paired.mapP r fun p q z => ⟨z.1, ht _ _ z.2.1, z.2.2⟩, ob, es, ep, k _ _ (.inl rfl) e, c⟩
  | set S n => obtain ⟨ob, es, ep, t, e, c⟩ := x; exact ⟨ob, es, ep, t, k _ _ (.inl rfl) e, c⟩
  | ins C dx fs =>
    obtain ⟨d, z, ne, e, mA, ⟨od, es, ep, e2, c⟩, r⟩ := x
    exact ⟨ho _ d, z, ne, k _ _ (.inl rfl) e, mA, ⟨od, es, ep, k _ _ (.inr d) e2, c⟩, r⟩
  | own y => obtain ⟨ob, e⟩ := x; exact ⟨ob, k _ _ (.inl rfl) e⟩
  | xd fs => obtain ⟨mA, ⟨od, es, ep, e, c⟩, r⟩ := x; exact ⟨mA, ⟨od, es, ep, k _ _ (.inl rfl) e, c⟩, r⟩
  | rng lo hi => obtain ⟨t, u, v, e⟩ := x; exact ⟨t, u, v, k _ _ (.inl rfl) e⟩
  | frz ob u ih => obtain ⟨e, q⟩ := x; exact ⟨k _ _ (.inl rfl) e, ih q⟩
  | tbl ps =>
    have e : h.get? a = some { cls := .none, data := .fields ps } := x
    show h'.get? a = some { cls := .none, data := .fields ps }
    exact k a _ (.inl rfl) e
  | met f y =>
    have e : h.get? a = some (PySem.W.methodObj (.ref f) (.ref y)) := x
    show h'.get? a = some (PySem.W.methodObj (.ref f) (.ref y))
    exact k a _ (.inl rfl) e
  | ext φ => obtain ⟨p, ⟨o, e⟩, st⟩ := x; exact ⟨st _ _ p fun o q => k _ _ (.inl rfl) q, ⟨o, k _ _ (.inl rfl) e⟩, st⟩
theorem HOk.lt (x : HOk P w H h) (e : H a = some o) : a < h.objs.size := (x a o e).lt
theorem HOk.fresh (x : HOk P w H h) (e : h.objs.size ≤ a) : H a = none := by
  cases q : H a with
  | none => rfl
  | some u => exact absurd (Nat.lt_of_lt_of_le (x.lt q) e) (Nat.lt_irrefl _)
/-- every object of the heap is kept -/
theorem HOk.kept (x : HOk P w H h) (k : ∀ b u, h.get? b = some u → h'.get? b = some u) : HOk P w H h' := fun a o e =>
  (x a o e).stay (fun b u _ q => k b u q) (fun _ q => q) fun _ _ q => q
/-- a new object is laid and tracked -/
theorem HOk.laid (x : HOk P w H h) (k : ∀ b u, h.get? b = some u → h'.get? b = some u) (hp : h.objs.size ≤ a) (new : ObjOk P w (upd H a o) h' a o) : HOk P w (upd H a o) h' := fun b u e => by
  have hn := x.fresh hp
  by_cases hb : b = a
  · subst hb; rw [upd_same] at e; cases e; exact new
  · rw [upd_ne hb] at e
    exact (x b u e).stay (fun c v _ q => k c v q) (fun c q => by rw [upd_ne (ne_of_none q hn)]; exact q) fun c xs q => by rw [upd_ne (ne_of_none q hn)]; exact q
end

/-- what may be read as u: it is u, or a known u -/
def Rd (H : Hp) (a : Addr) (u : HO) : Prop := H a = some u ∨ ∃ o, H a = some (.frz o u)
theorem Rd.of {H : Hp} {a : Addr} {u : HO} (h : H a = some u) : Rd H a u := .inl h
theorem Rd.ok {P : Program} {w : World} {H : Hp} {h : Heap} {a : Addr} {u : HO} (r : Rd H a u) (x : HOk P w H h) : ObjOk P w H h a u := by
  rcases r with r | ⟨o, r⟩
  · exact x a u r
  · obtain ⟨_, q⟩ := x a _ r
    exact q
/-- what may be written -/
def Mut : Option HO → Prop
  | some (.lst _) => True
  | some (.dK _) => True
  | some (.dT _) => True
  | some (.set _ _) => True
  | some (.ins _ _ _) => True
  | some (.ext _) => True
  | _ => False
section
variable {P : Program} {w : World} {H : Hp} {h h' : Heap} {x e : Addr} {o' : HO}
/-- the object at e is changed: x itself, or the dict of the instance x -/
theorem HOk.write (ok : HOk P w H h) (mu : Mut (H x)) (he : e = x ∨ H e = some (.own x)) (k : ∀ b u, b ≠ e → h.get? b = some u → h'.get? b = some u) (heo : ∃ u, h'.get? e = some u)
    (new : ObjOk P w (upd H x o') h' x o') : HOk P w (upd H x o') h' := fun b u q => by
  have nown : ∀ c y, H c = some (.own y) → c ≠ x := fun c y r z => by subst z; rw [r] at mu; exact mu
  have ntup : ∀ c xs, H c = some (.tup xs) → c ≠ x := fun c xs r z => by subst z; rw [r] at mu; exact mu
  by_cases hb : b = x
  · subst hb; rw [upd_same] at q; cases q; exact new
  · rw [upd_ne hb] at q
    by_cases hbe : b = e
    · have q' : H b = some (.own x) := by
        rcases he with z | z
        · exact absurd (hbe.trans z) hb
        · rw [hbe]; exact z
      rw [q] at q'; cases q'
      obtain ⟨v, hv⟩ := heo
      exact ⟨v, by rw [hbe]; exact hv⟩
    · refine (ok b u q).stay (fun c v hc r => k c v ?_ r) (fun c r => by rw [upd_ne (nown c b r)]; exact r) fun c xs r => by rw [upd_ne (ntup c xs r)]; exact r
      rcases hc with rfl | hc
      · exact hbe
      · rintro rfl
        rcases he with z | z
        · exact nown c b hc z
        · rw [hc] at z; cases z; exact hb rfl
end

/-! ### kept unless tracked; of the frames at fs (the callers') the slots may change (an exception that passes writes there); of the records at ex (iterators) nothing is said -/
structure Un (fs ex : List Addr) (H H' : Hp) (h h' : Heap) : Prop where
  keep : ∀ b o, h.get? b = some o → H b = none → b ∉ fs → b ∉ ex → h'.get? b = some o
  slot : ∀ b o, h.get? b = some o → H b = none → b ∈ fs → b ∉ ex → ∃ sl, h'.get? b = some { o with slots := sl }
  free : ∀ b o, h.get? b = some o → H b = none → b ∉ ex → H' b = none
  there : ∀ b o, h.get? b = some o → b ∉ ex → ∃ o', h'.get? b = some o'
  tups : ∀ b xs, H b = some (.tup xs) → H' b = some (.tup xs)
  frzs : ∀ b o u, H b = some (.frz o u) → H' b = some (.frz o u)
  tbls : ∀ b ps, H b = some (.tbl ps) → ∃ more, H' b = some (.tbl (ps ++ more))
section
variable {fs fs' ex ex' : List Addr} {H H1 H2 : Hp} {h h1 h2 h' : Heap} {a x e : Addr} {o : HO}
theorem Un.any (u : Un fs ex H H1 h h1) {b : Addr} {ob : Obj} (q : h.get? b = some ob) (n : H b = none) (hx : b ∉ ex) : ∃ sl, h1.get? b = some { ob with slots := sl } := by
  by_cases hb : b ∈ fs
  · exact u.slot b ob q n hb hx
  · exact ⟨ob.slots, u.keep b ob q n hb hx⟩
theorem Un.trans (a : Un fs ex H H1 h h1) (b : Un fs ex H1 H2 h1 h2) : Un fs ex H H2 h h2 where
  keep := fun c ob q n hc hx => b.keep c ob (a.keep c ob q n hc hx) (a.free c ob q n hx) hc hx
  slot := fun c ob q n hc hx => by
    obtain ⟨sl, e1⟩ := a.slot c ob q n hc hx
    obtain ⟨sl', e2⟩ := b.slot c _ e1 (a.free c ob q n hx) hc hx
    exact ⟨sl', e2⟩
  free := fun c ob q n hx => by
    obtain ⟨o', e1⟩ := a.there c ob q hx
    exact b.free c o' e1 (a.free c ob q n hx) hx
  there := fun c ob q hx => by
    obtain ⟨o', e1⟩ := a.there c ob q hx
    exact b.there c o' e1 hx
  tups := fun c xs q => b.tups c xs (a.tups c xs q)
  frzs := fun c ob xs q => b.frzs c ob xs (a.frzs c ob xs q)
  tbls := fun c ps q => by
    obtain ⟨m1, e1⟩ := a.tbls c ps q
    obtain ⟨m2, e2⟩ := b.tbls c _ e1
    exact ⟨m1 ++ m2, by rw [e2, Array.append_assoc]⟩
theorem Un.kept (k : ∀ b u, h.get? b = some u → h'.get? b = some u) : Un fs ex H H h h' :=
  ⟨fun b ob q _ _ _ => k b ob q, fun b ob q _ _ _ => ⟨ob.slots, k b ob q⟩, fun _ _ _ n _ => n, fun b ob q _ => ⟨ob, k b ob q⟩, fun _ _ q => q, fun _ _ _ q => q, fun _ ps q => ⟨#[], by rw [q]; simp⟩⟩
theorem Un.refl : Un fs ex H H h h := Un.kept fun _ _ q => q
theorem Un.laid (k : ∀ b u, h.get? b = some u → h'.get? b = some u) (hp : h.objs.size ≤ a) (hn : H a = none) : Un fs ex H (upd H a o) h h' where
  keep := fun b u q _ _ _ => k b u q
  slot := fun b u q _ _ _ => ⟨u.slots, k b u q⟩
  free := fun b u q n _ => by rw [upd_ne (Nat.ne_of_lt (Nat.lt_of_lt_of_le (Heap.lt_size q) hp))]; exact n
  there := fun b u q _ => ⟨u, k b u q⟩
  tups := fun b xs q => by rw [upd_ne (ne_of_none q hn)]; exact q
  frzs := fun b u xs q => by rw [upd_ne (ne_of_none q hn)]; exact q
  tbls := fun b ps q => ⟨#[], by rw [upd_ne (ne_of_none q hn), q]; simp⟩
theorem Un.write (mu : Mut (H x)) (he : e = x ∨ H e = some (.own x)) (k : ∀ b u, b ≠ e → h.get? b = some u → h'.get? b = some u) (heo : ∃ u, h'.get? e = some u) : Un fs ex H (upd H x o) h h' := by
  have hx : ∀ b, H b = none → b ≠ x := fun b n z => by subst z; rw [n] at mu; exact mu
  have hb : ∀ b, H b = none → b ≠ e := fun b n z => by
    subst z
    rcases he with r | r
    · exact hx b n r
    · rw [n] at r; cases r
  have hm : ∀ b u, H b = some u → ¬ Mut (some u) → b ≠ x := fun b u q nm z => by subst z; rw [q] at mu; exact nm mu
  refine ⟨fun b u q n _ _ => k b u (hb b n) q, fun b u q n _ _ => ⟨u.slots, k b u (hb b n) q⟩, fun b u q n _ => by rw [upd_ne (hx b n)]; exact n, fun b u q _ => ?_,
    fun b xs q => by rw [upd_ne (hm b _ q fun z => z)]; exact q, fun b u xs q => by rw [upd_ne (hm b _ q fun z => z)]; exact q, fun b ps q => ⟨#[], by rw [upd_ne (hm b _ q fun z => z), q]; simp⟩⟩
  by_cases hbe : b = e
  · subst hbe; exact heo
  · exact ⟨u, k b u hbe q⟩
theorem Un.mono (u : Un fs ex H H1 h h1) (hs : ∀ b ∈ fs, b ∈ fs') (hx : ∀ b ∈ ex, b ∈ ex') : Un fs' ex' H H1 h h1 :=
  ⟨fun b ob q n hb he => u.keep b ob q n (fun z => hb (hs b z)) fun z => he (hx b z), fun _ _ q n _ he => u.any q n fun z => he (hx _ z), fun b ob q n he => u.free b ob q n fun z => he (hx b z), fun b ob q he => u.there b ob q fun z => he (hx b z), u.tups, u.frzs, u.tbls⟩
end

/-! ### the heap without what is tracked -/
def trk (h : Heap) (H : Hp) : List Addr := (List.range h.objs.size).filter fun a => (H a).isSome
def hidT (h : Heap) (H : Hp) : Heap := PySem.W.hideAll h (trk h H)
theorem hidT_size (h : Heap) (H : Hp) : (hidT h H).objs.size = h.objs.size := PySem.W.hideAll_size _ _
theorem hidT_get {h : Heap} {H : Hp} {b : Addr} {o : Obj} (e : h.get? b = some o) (n : H b = none) : (hidT h H).get? b = some o :=
  PySem.W.hideAll_get _ e fun hm => by
    have q : (H b).isSome = true := (List.mem_filter.mp hm).2
    rw [n] at q; simp at q
theorem of_hidT {h : Heap} {H : Hp} {b : Addr} {o : Obj} (e : (hidT h H).get? b = some o) : h.get? b = some o ∧ H b = none := by
  have e' : h.get? b = some o := PySem.W.of_hideAll (trk h H) e
  refine ⟨e', ?_⟩
  cases q : H b with
  | none => rfl
  | some x =>
    have hm : b ∈ trk h H := List.mem_filter.mpr ⟨List.mem_range.mpr (Heap.lt_size e'), by simp [q]⟩
    have z : (hidT h H).get? b = none := PySem.W.hideAll_none (trk h H) hm
    rw [z] at e; cases e

/-! ### OpenK's ledger, filled with every new object but one -/
def allNews (g h : Heap) (L : Addr) : List (Addr × Obj) := (List.range h.objs.size).filterMap fun a => if a = L ∨ (g.get? a).isSome = true then none else (h.get? a).map fun o => (a, o)
theorem mem_allNews {g h : Heap} {L a : Addr} {o : Obj} (h1 : a ≠ L) (h2 : g.get? a = none) (h3 : h.get? a = some o) : (a, o) ∈ allNews g h L :=
  List.mem_filterMap.mpr ⟨a, List.mem_range.mpr (Heap.lt_size h3), by simp [h1, h2, h3]⟩
theorem of_mem_allNews {g h : Heap} {L : Addr} {p : Addr × Obj} (hp : p ∈ allNews g h L) : p.1 ≠ L ∧ g.get? p.1 = none ∧ h.get? p.1 = some p.2 := by
  obtain ⟨b, _, e⟩ := List.mem_filterMap.mp hp
  split at e
  · cases e
  · rename_i hn
    cases q : h.get? b with
    | none => rw [q] at e; simp at e
    | some u =>
      rw [q] at e
      simp only [Option.map_some, Option.some.injEq] at e
      subst e
      refine ⟨fun z => hn (.inl z), ?_, q⟩
      show g.get? b = none
      cases r : g.get? b with
      | none => rfl
      | some v => exact (hn (.inr (by simp [r]))).elim
def rest (g h : Heap) (L d : Addr) : List (Addr × Obj) := (allNews g h L).filter fun p => decide (p.1 ≠ d)
theorem rest_ne {g h : Heap} {L d : Addr} : ∀ p ∈ rest g h L d, p.1 ≠ d := fun p hp => of_decide_eq_true (List.mem_filter.mp hp).2
theorem mem_rest {g h : Heap} {L d a : Addr} {o : Obj} (h1 : a ≠ L) (h2 : g.get? a = none) (h3 : h.get? a = some o) (h4 : a ≠ d) : (a, o) ∈ rest g h L d :=
  List.mem_filter.mpr ⟨mem_allNews h1 h2 h3, decide_eq_true h4⟩
theorem news_all {g h : Heap} {L : Addr} : News g L h (allNews g h L) := fun p hp => let ⟨a, b, c⟩ := of_mem_allNews hp; ⟨c, a, b⟩
theorem news_at {g h : Heap} {L d : Addr} {o : Obj} (h1 : d ≠ L) (h2 : g.get? d = none) (h3 : h.get? d = some o) : News g L h ((d, o) :: rest g h L d) := fun p hp => by
  rcases List.mem_cons.mp hp with rfl | hp
  · exact ⟨h3, h1, h2⟩
  · exact news_all p (List.mem_filter.mp hp).1
/-- behind a rule that changed d alone: all else but the frame is kept -/
theorem kept_of_news {g h h' : Heap} {L d : Addr} {m : Str → Option Value} (k : ∀ b o, g.get? b = some o → h.get? b = some o) (F : Fr g L h' m) (N : News g L h' (rest g h L d)) :
    ∀ b o, b ≠ L → b ≠ d → h.get? b = some o → h'.get? b = some o := fun b o h1 h2 e => by
  cases q : g.get? b with
  | some u =>
    have := k b u q
    rw [e] at this; cases this
    exact F.keep b _ q
  | none => exact (N (b, o) (mem_rest h1 q e h2)).1
end L2

namespace L2
open PySem PySem.Spec PyProof.Rows

/-- the module's facts, over the base: the heap at the law's entry without what is tracked there -/
structure Mod (K : PySem.W.Frag) (mg : Str → Option Value) (base : Heap) : Prop where
  kin : K.In base
  glob : base.Ns mainGlobals mg
  blt : ∃ mb, base.Ns builtinsNs mb ∧ ∀ x : Str, x ≠ "__name__" → mb x = bootBuiltins x
  nolimit : base.NoLimit

/-- the context: a def's body (or a comprehension's block) running. base: fixed through the whole law; s₀, H₀: the entry; outer: the frames whose slots others may change (a def's callers); stack: all frames that run;
   ex: iterators that were made ahead of the entry and are walked here (a comprehension's); fn: the names whose cells were made at the entry (a def: all; a comprehension's block: its own); calm: not within an except suite; pn: pins that every state bears; xe: what is wanted of an exception that leaves the code -/
structure Cx where
  prog : Program
  w : World
  K : PySem.W.Frag
  mg : Str → Option Value
  base : Heap
  A : Around
  N : List Str
  s₀ : Shared
  H₀ : Hp
  env : Env
  outer : List Env
  stack : List Env
  ex : List Addr
  fn : Str → Bool
  calm : Bool
  pn : List (Addr × Obj)
  xe : Value → Shared → Prop
/-- the callers' frames -/
def frs (l : List Env) : List Addr := l.filterMap (·.frame)
abbrev Cx.fs (X : Cx) : List Addr := frs X.outer

def Vis (sc : Scope) (x : Str) : Prop := sc.names.lookup x = some .local ∨ sc.names.lookup x = some .cell ∨ sc.names.lookup x = some .free
def Loc (sc : Scope) (x : Str) : Prop := sc.names.lookup x = some .local ∨ sc.names.lookup x = some .cell
def Look (env : Env) (h : Heap) (m : Str → Option Value) (x : Str) (u : Value) : Prop :=
  (env.kindOf x = some .local ∧ m x = some u) ∨ ((env.kindOf x = some .cell ∨ env.kindOf x = some .free) ∧ ∃ c, env.cells.lookup x = some c ∧ h.IsCell c (some u))

structure Cx.Ok (X : Cx) : Prop where
  mod : Mod X.K X.mg X.base
  kind : X.env.scope.kind = .function
  glob : X.env.globals = mainGlobals
  blt : X.env.builtins = builtinsNs
  above : X.s₀.heap.objs.size ≤ X.env.locals
  inj : ∀ x y c, X.env.cells.lookup x = some c → X.env.cells.lookup y = some c → x = y
  has : ∀ x, (X.env.kindOf x = some .cell ∨ X.env.kindOf x = some .free) → ∃ c, X.env.cells.lookup x = some c
  cab : ∀ x c, X.fn x = true → X.env.cells.lookup x = some c → X.s₀.heap.objs.size ≤ c
  hd : X.calm = true → X.A.handled = none
  frames : X.A.frames = some X.stack
  stk : X.stack = X.outer ∨ (X.stack = X.env :: X.outer ∧ X.env.frame = some X.env.locals)
  exf : ∀ b ∈ X.ex, b ≠ X.env.locals ∧ ∀ x c, X.env.cells.lookup x = some c → c ≠ b
  bs : ∀ b o, X.base.get? b = some o → X.s₀.heap.get? b = some o ∧ X.H₀ b = none
  bsz : X.base.objs.size ≤ X.s₀.heap.objs.size
  noex : ∀ b o, X.base.get? b = some o → b ∉ X.ex
  exfs : ∀ b ∈ X.ex, b ∉ X.fs
  funs : X.s₀.heap.FunFrames X.base X.outer
  frf : ∀ b ∈ X.fs, X.H₀ b = none

structure Inv (X : Cx) (pins : List (Addr × Obj)) (σ : List (Option V)) (H : Hp) (s : Shared) : Prop where
  ok : X.Ok
  os : s.os = X.s₀.os
  bare : AllBare s.gens
  base : Un X.fs X.ex X.H₀ H X.s₀.heap s.heap
  loc : ∃ m, s.heap.Ns X.env.locals m ∧ ∀ (i : Nat) (x : Str) (v : V), X.N[i]? = some x → σ[i]? = some (some v) → Vis X.env.scope x → ∃ u, RelV v u ∧ Look X.env s.heap m x u
  cell : ∀ x c, X.env.cells.lookup x = some c → ∃ v, s.heap.IsCell c v
  free : H X.env.locals = none
  freeC : ∀ x c, X.env.cells.lookup x = some c → H c = none
  pin : ∀ p ∈ X.pn ++ pins, s.heap.get? p.1 = some p.2 ∧ H p.1 = none ∧ p.1 ≠ X.env.locals ∧ p.1 ∉ X.fs ∧ ∀ v, p.2.data ≠ .cell v
  hok : HOk X.prog X.w H s.heap
  len : σ.length = X.N.length

section
variable {X : Cx} {pins : List (Addr × Obj)} {σ : List (Option V)} {H H' : Hp} {s : Shared} {h' : Heap}

theorem Cx.Ok.nofr (ok : X.Ok) {b : Addr} {o : Obj} (e : X.base.get? b = some o) : b ∉ X.fs := fun hb => by
  have := (ok.funs.mem hb).1
  rw [e] at this; cases this
theorem Inv.bs (I : Inv X pins σ H s) : ∀ b o, X.base.get? b = some o → s.heap.get? b = some o ∧ H b = none := fun b o e =>
  ⟨I.base.keep b o (I.ok.bs b o e).1 (I.ok.bs b o e).2 (I.ok.nofr e) (I.ok.noex b o e), I.base.free b o (I.ok.bs b o e).1 (I.ok.bs b o e).2 (I.ok.noex b o e)⟩
theorem Inv.bk (I : Inv X pins σ H s) : ∀ b o, X.base.get? b = some o → s.heap.get? b = some o := fun b o e => (I.bs b o e).1
theorem Inv.mod (I : Inv X pins σ H s) : Mod X.K X.mg X.base := I.ok.mod
theorem Inv.kIn (I : Inv X pins σ H s) : X.K.In s.heap := I.ok.mod.kin.keeps I.bk
theorem Inv.nolimit (I : Inv X pins σ H s) : s.heap.NoLimit := I.ok.mod.nolimit.keeps I.bk
/-- the frame over the base: for OpenK's rules (K.In X.base is I.mod.kin) -/
theorem Inv.fr (I : Inv X pins σ H s) : ∃ m, Fr X.base X.env.locals s.heap m :=
  let ⟨m, hn, _⟩ := I.loc
  ⟨m, hn, I.bk, Nat.le_trans I.ok.bsz I.ok.above⟩
theorem Inv.lt (I : Inv X pins σ H s) : X.env.locals < s.heap.objs.size := let ⟨_, hn, _⟩ := I.loc; hn.lt
theorem Inv.sz (I : Inv X pins σ H s) : X.s₀.heap.objs.size ≤ s.heap.objs.size := Nat.le_trans I.ok.above (Nat.le_of_lt I.lt)
theorem Inv.nofs (I : Inv X pins σ H s) {a : Addr} (h : s.heap.objs.size ≤ a) : a ∉ X.fs := fun hb => by
  obtain ⟨_, o, ho, _⟩ := I.ok.funs.mem hb
  exact absurd (Nat.lt_of_lt_of_le (Heap.lt_size ho) (Nat.le_trans I.sz h)) (Nat.lt_irrefl _)
theorem Inv.cne (I : Inv X pins σ H s) : ∀ x c, X.env.cells.lookup x = some c → c ≠ X.env.locals := fun x c e z => by
  obtain ⟨v, o, ho, hd⟩ := I.cell x c e
  obtain ⟨m, ⟨o', es, ep, ho', hd', _⟩, _⟩ := I.loc
  rw [z, ho'] at ho; cases ho; rw [hd'] at hd; cases hd
theorem Inv.funs (I : Inv X pins σ H s) : s.heap.FunFrames X.base X.outer := by
  have all : ∀ (l : List Env), (∀ b ∈ frs l, b ∈ X.fs) → X.s₀.heap.FunFrames X.base l → s.heap.FunFrames X.base l := by
    intro l
    induction l with
    | nil => intro _ _; trivial
    | cons env r ih =>
      intro hs hl
      obtain ⟨hk, ⟨L, o, hf, hn, ho, hd⟩, hr⟩ := hl
      have hL : L ∈ X.fs := hs L (by unfold frs; rw [List.filterMap_cons, hf]; exact List.mem_cons_self)
      obtain ⟨sl, e⟩ := I.base.slot L o ho (I.ok.frf L hL) hL fun z => I.ok.exfs L z hL
      exact ⟨hk, ⟨L, _, hf, hn, e, hd⟩, ih (fun b hb => hs b (by unfold frs; rw [List.filterMap_cons, hf]; exact List.mem_cons_of_mem _ hb)) hr⟩
  exact all X.outer (fun _ hb => hb) I.ok.funs

/-- the frames that run, for a call -/
theorem Inv.stack (I : Inv X pins σ H s) : s.heap.FunFrames X.base X.stack := by
  rcases I.ok.stk with e | ⟨e, hf⟩
  · rw [e]; exact I.funs
  · rw [e]
    obtain ⟨m, hn, _⟩ := I.loc
    refine .cons (by rw [I.ok.kind]; decide) hf hn ?_ I.funs
    exact Heap.get?_none_of_le (Nat.le_trans I.ok.bsz I.ok.above)
theorem Inv.stkSub (I : Inv X pins σ H s) : ∀ b ∈ frs X.stack, b ∈ X.env.locals :: X.fs := fun b hb => by
  rcases I.ok.stk with e | ⟨e, hf⟩
  · rw [e] at hb; exact List.mem_cons_of_mem _ hb
  · rw [e] at hb
    unfold frs at hb
    rw [List.filterMap_cons, hf] at hb
    exact hb
theorem Inv.stkFree (I : Inv X pins σ H s) : ∀ b ∈ frs X.stack, H b = none := fun b hb => by
  rcases List.mem_cons.mp (I.stkSub b hb) with e | hb
  · rw [e]; exact I.free
  · obtain ⟨_, o, ho, _⟩ := I.ok.funs.mem hb
    exact I.base.free b o ho (I.ok.frf b hb) fun z => I.ok.exfs b z hb

/-- THE STEP: the untracked objects but the frame and the records at ch are kept (the callers' frames up to slots), the frame's map is kept, the new abstract heap is held -/
theorem Inv.step {g' : Array GenState} {t' : Nat} {d' : Drawn} {ch : List Addr} (I : Inv X pins σ H s)
    (hch : ∀ b ∈ ch, (b ∈ X.ex ∨ X.s₀.heap.objs.size ≤ b) ∧ b ≠ X.env.locals ∧ (∀ x c, X.env.cells.lookup x = some c → c ≠ b) ∧ ∀ p ∈ X.pn ++ pins, p.1 ≠ b)
    (keep : ∀ b o, b ≠ X.env.locals → b ∉ X.fs → b ∉ ch → s.heap.get? b = some o → H b = none → h'.get? b = some o)
    (slot : ∀ b o, b ≠ X.env.locals → b ∈ X.fs → b ∉ ch → s.heap.get? b = some o → H b = none → ∃ sl, h'.get? b = some { o with slots := sl }) (free : ∀ b o, b ∉ ch → s.heap.get? b = some o → H b = none → H' b = none)
    (there : ∀ b o, b ∉ ch → s.heap.get? b = some o → ∃ o', h'.get? b = some o')
    (tups : ∀ b xs, H b = some (.tup xs) → H' b = some (.tup xs)) (frzs : ∀ b o u, H b = some (.frz o u) → H' b = some (.frz o u)) (tbls : ∀ b ps, H b = some (.tbl ps) → ∃ more, H' b = some (.tbl (ps ++ more)))
    (ns : ∀ m, s.heap.Ns X.env.locals m → h'.Ns X.env.locals m) (hok : HOk X.prog X.w H' h') (hg : AllBare g') :
    Inv X pins σ H' { s with heap := h', gens := g', drawn := d', toks := t' } := by
  have neL : ∀ b o, X.s₀.heap.get? b = some o → b ≠ X.env.locals := fun b o e => Nat.ne_of_lt (Nat.lt_of_lt_of_le (Heap.lt_size e) I.ok.above)
  have neC : ∀ b o, X.s₀.heap.get? b = some o → b ∉ X.ex → b ∉ ch := fun b o e hx hb => by
    rcases (hch b hb).1 with z | z
    · exact hx z
    · exact absurd (Nat.lt_of_lt_of_le (Heap.lt_size e) z) (Nat.lt_irrefl _)
  have cellK : ∀ x c, X.env.cells.lookup x = some c → ∀ v, s.heap.IsCell c v → h'.IsCell c v := fun x c e v ⟨o, ho, hd⟩ => by
    have nch : c ∉ ch := fun z => (hch c z).2.2.1 x c e rfl
    by_cases hc : c ∈ X.fs
    · obtain ⟨sl, q⟩ := slot c o (I.cne x c e) hc nch ho (I.freeC x c e)
      exact ⟨_, q, hd⟩
    · exact ⟨o, keep c o (I.cne x c e) hc nch ho (I.freeC x c e), hd⟩
  refine ⟨I.ok, I.os, hg, ⟨fun b o e n hb hx => ?_, fun b o e n hb hx => ?_, fun b o e n hx => ?_, fun b o e hx => ?_, fun b xs e => tups b xs (I.base.tups b xs e), fun b o xs e => frzs b o xs (I.base.frzs b o xs e), fun b ps e => ?_⟩, ?_, fun x c e => ?_, ?_, fun x c e => ?_, fun p hp => ?_, hok, I.len⟩
  · exact keep b o (neL b o e) hb (neC b o e hx) (I.base.keep b o e n hb hx) (I.base.free b o e n hx)
  · obtain ⟨sl, e1⟩ := I.base.slot b o e n hb hx
    obtain ⟨sl', e2⟩ := slot b _ (neL b o e) hb (neC b o e hx) e1 (I.base.free b o e n hx)
    exact ⟨sl', e2⟩
  · obtain ⟨o', e1⟩ := I.base.there b o e hx
    exact free b o' (neC b o e hx) e1 (I.base.free b o e n hx)
  · obtain ⟨o', e1⟩ := I.base.there b o e hx
    exact there b o' (neC b o e hx) e1
  · obtain ⟨m1, e1⟩ := I.base.tbls b ps e
    obtain ⟨m2, e2⟩ := tbls b _ e1
    exact ⟨m1 ++ m2, by rw [e2, Array.append_assoc]⟩
  · obtain ⟨m, hn, hl⟩ := I.loc
    refine ⟨m, ns m hn, fun i x v e1 e2 e3 => ?_⟩
    obtain ⟨u, r, l⟩ := hl i x v e1 e2 e3
    refine ⟨u, r, ?_⟩
    rcases l with l | ⟨k, c, e, z⟩
    · exact .inl l
    · exact .inr ⟨k, c, e, cellK x c e _ z⟩
  · obtain ⟨v, z⟩ := I.cell x c e
    exact ⟨v, cellK x c e v z⟩
  · obtain ⟨m, ⟨o, _, _, ho, _⟩, _⟩ := I.loc
    exact free _ o (fun z => (hch _ z).2.1 rfl) ho I.free
  · obtain ⟨v, o, ho, hd⟩ := I.cell x c e
    exact free c o (fun z => (hch c z).2.2.1 x c e rfl) ho (I.freeC x c e)
  · obtain ⟨e, n, ne, nf, d⟩ := I.pin p hp
    have nch : p.1 ∉ ch := fun z => (hch p.1 z).2.2.2 p hp rfl
    exact ⟨keep p.1 p.2 ne nf nch e n, free p.1 p.2 nch e n, ne, nf, d⟩
/-- .. where the frame's own object is kept too -/
theorem Inv.un {t' : Nat} (I : Inv X pins σ H s) (u : Un X.fs [] H H' s.heap h') (hok : HOk X.prog X.w H' h') : Inv X pins σ H' { s with heap := h', toks := t' } := by
  obtain ⟨m, ⟨o, es, ep, ho, r⟩, _⟩ := id I.loc
  obtain ⟨sl, hL⟩ := u.any ho I.free (by simp)
  exact I.step (g' := s.gens) (d' := s.drawn) (ch := []) (fun _ z => nomatch z) (fun b o _ hb _ e n => u.keep b o e n hb (by simp)) (fun b o _ hb _ e n => u.slot b o e n hb (by simp)) (fun b o _ e n => u.free b o e n (by simp)) (fun b o _ e => u.there b o e (by simp)) u.tups u.frzs u.tbls (fun m' hm => by
    obtain ⟨o', es', ep', ho', r'⟩ := hm
    rw [ho] at ho'; cases ho'
    exact ⟨_, es', ep', hL, r'⟩) hok I.bare
/-- behind a call (or a comprehension's block): the slots of this frame may have changed too, the records at ch may have turned -/
theorem Inv.call {g' : Array GenState} {t' : Nat} {d' : Drawn} {ch : List Addr} (I : Inv X pins σ H s) (u : Un (frs X.stack) ch H H' s.heap h') (hok : HOk X.prog X.w H' h') (hg : AllBare g')
    (hch : ∀ b ∈ ch, (b ∈ X.ex ∨ X.s₀.heap.objs.size ≤ b) ∧ b ≠ X.env.locals ∧ (∀ x c, X.env.cells.lookup x = some c → c ≠ b) ∧ ∀ p ∈ X.pn ++ pins, p.1 ≠ b) :
    Inv X pins σ H' { s with heap := h', gens := g', drawn := d', toks := t' } := by
  obtain ⟨m, ⟨o, es, ep, ho, r⟩, _⟩ := id I.loc
  obtain ⟨sl, hL⟩ := u.any ho I.free fun z => (hch _ z).2.1 rfl
  exact I.step (ch := ch) hch (fun b o hL hb hc e n => u.keep b o e n (fun z => (List.mem_cons.mp (I.stkSub b z)).elim hL hb) hc) (fun b o _ _ hc e n => u.any e n hc) (fun b o hc e n => u.free b o e n hc) (fun b o hc e => u.there b o e hc) u.tups u.frzs u.tbls (fun m' hm => by
    obtain ⟨o', es', ep', ho', r'⟩ := hm
    rw [ho] at ho'; cases ho'
    exact ⟨_, es', ep', hL, r'⟩) hok hg
/-- an untracked record of ours (an iterator) has turned -/
theorem Inv.turned {t' : Nat} {it : Addr} (I : Inv X pins σ H s) (k : ∀ b o, b ≠ it → s.heap.get? b = some o → h'.get? b = some o) (hn : H it = none) (hL : it ≠ X.env.locals)
    (h1 : it ∈ X.ex ∨ X.s₀.heap.objs.size ≤ it) (h2 : ∀ x c, X.env.cells.lookup x = some c → c ≠ it) (h3 : ∀ p ∈ X.pn ++ pins, p.1 ≠ it) : Inv X pins σ H { s with heap := h', toks := t' } := by
  have nit : ∀ b u, H b = some u → b ≠ it := fun b u e z => by rw [z, hn] at e; cases e
  refine I.step (g' := s.gens) (d' := s.drawn) (ch := [it]) (fun b hb => ?_) (fun b o _ _ hc e _ => k b o (fun z => hc (by simp [z])) e) (fun b o _ _ hc e _ => ⟨o.slots, k b o (fun z => hc (by simp [z])) e⟩) (fun _ _ _ _ n => n)
    (fun b o hc e => ⟨o, k b o (fun z => hc (by simp [z])) e⟩) (fun _ _ e => e) (fun _ _ _ e => e) (fun b ps e => ⟨#[], by rw [e]; simp⟩) (fun m hm => ?_) (fun b u e => ?_) I.bare
  · have e : b = it := by simpa using hb
    subst e
    exact ⟨h1, hL, h2, h3⟩
  · obtain ⟨o, es, ep, ho, r⟩ := hm
    exact ⟨o, es, ep, k _ o (Ne.symm hL) ho, r⟩
  · refine (I.hok b u e).stay (fun c v hc q => k c v ?_ q) (fun _ q => q) fun _ _ q => q
    rcases hc with z | z
    · rw [z]; exact nit b u e
    · exact nit c _ z
theorem Inv.tok (I : Inv X pins σ H s) (t : Nat) : Inv X pins σ H { s with toks := t } := I.un (h' := s.heap) (t' := t) Un.refl I.hok
/-- all objects kept -/
theorem Inv.kept {t' : Nat} (I : Inv X pins σ H s) (k : ∀ b u, s.heap.get? b = some u → h'.get? b = some u) : Inv X pins σ H { s with heap := h', toks := t' } := I.un (Un.kept k) (I.hok.kept k)
/-- a new object laid and tracked -/
theorem Inv.laid {a : Addr} {o : HO} {t' : Nat} (I : Inv X pins σ H s) (k : ∀ b u, s.heap.get? b = some u → h'.get? b = some u) (hp : s.heap.objs.size ≤ a) (new : ObjOk X.prog X.w (upd H a o) h' a o) :
    Inv X pins σ (upd H a o) { s with heap := h', toks := t' } := I.un (Un.laid k hp (I.hok.fresh hp)) (I.hok.laid k hp new)
/-- an object written -/
theorem Inv.write {x e : Addr} {o : HO} {t' : Nat} (I : Inv X pins σ H s) (mu : Mut (H x)) (he : e = x ∨ H e = some (.own x)) (k : ∀ b u, b ≠ e → s.heap.get? b = some u → h'.get? b = some u) (heo : ∃ u, h'.get? e = some u)
    (new : ObjOk X.prog X.w (upd H x o) h' x o) : Inv X pins σ (upd H x o) { s with heap := h', toks := t' } := I.un (Un.write mu he k heo) (I.hok.write mu he k heo new)
/-- forgetting slots, pins -/
theorem Inv.weak {σ' : List (Option V)} (I : Inv X pins σ H s) (hl : σ'.length = σ.length) (w : ∀ (i : Nat) v, σ'[i]? = some (some v) → σ[i]? = some (some v)) : Inv X pins σ' H s :=
  ⟨I.ok, I.os, I.bare, I.base, let ⟨m, hn, hl'⟩ := I.loc; ⟨m, hn, fun i x v e1 e2 e3 => hl' i x v e1 (w i v e2) e3⟩, I.cell, I.free, I.freeC, I.pin, I.hok, hl.trans I.len⟩
theorem Inv.pins_of {pins' : List (Addr × Obj)} (I : Inv X pins σ H s) (h : ∀ p ∈ pins', s.heap.get? p.1 = some p.2 ∧ H p.1 = none ∧ p.1 ≠ X.env.locals ∧ p.1 ∉ X.fs ∧ ∀ v, p.2.data ≠ .cell v) : Inv X pins' σ H s :=
  ⟨I.ok, I.os, I.bare, I.base, I.loc, I.cell, I.free, I.freeC, fun p hp => (List.mem_append.mp hp).elim (fun z => I.pin p (List.mem_append_left _ z)) (h p), I.hok, I.len⟩

theorem nodup_ix {N : List Str} (hN : N.Nodup) {i j : Nat} {x : Str} (a : N[i]? = some x) (b : N[j]? = some x) : i = j := by
  obtain ⟨h1, e1⟩ := List.getElem?_eq_some_iff.mp a
  obtain ⟨h2, e2⟩ := List.getElem?_eq_some_iff.mp b
  exact (List.getElem_inj hN).mp (e1.trans e2.symm)

/-- a name is stored; what changed -/
theorem store_ok2 {M : Model} {A : Around} {E : Value → Shared → Prop} {i : Nat} {x : Str} {v : V} {u : Value} {Q : Unit → Shared → Prop} (I : Inv X pins σ H s) (hN : X.N.Nodup) (hi : X.N[i]? = some x) (hx : Loc X.env.scope x) (r : RelV v u)
    (h : ∀ s', Inv X pins (σ.set i (some v)) H s' → (∃ a, Heap.SameBut a s.heap s'.heap ∧ (a = X.env.locals ∨ X.env.cells.lookup x = some a)) → Q () s') (hf : X.fn x = true ∨ X.env.scope.names.lookup x = some .local := by first | exact .inl rfl | exact .inr rfl | assumption) : wpAny M A (storeName X.env x u) Q E s := by
  obtain ⟨m, hn, hl⟩ := id I.loc
  have hcls : (X.env.scope.kind == .class || (X.env.scope.kind == .module && X.env.locals != X.env.globals)) = false := by rw [I.ok.kind]; rfl
  have hiσ : i < σ.length := by rw [I.len]; exact (List.getElem?_eq_some_iff.mp hi).1
  have cne := I.cne
  have tracked : ∀ {a : Addr} {h' : Heap}, (∃ o, s.heap.get? a = some o ∧ H a = none) → Heap.SameBut a s.heap h' → HOk X.prog X.w H h' := fun {a h'} ha hs b ob e => by
    obtain ⟨_, _, hfree⟩ := ha
    refine (I.hok b ob e).stay (fun c w' hc q => (hs.2 c ?_).trans q) (fun _ q => q) fun _ _ q => q
    rintro rfl
    rcases hc with rfl | hc
    · rw [hfree] at e; cases e
    · rw [hfree] at hc; cases hc
  rcases hx with hk | hk
  · refine wpAny_storeName_local hk hn (fun h' hn' hs => ?_) hcls
    obtain ⟨oL, _, _, hoL, _⟩ := id hn
    refine h _ ⟨I.ok, I.os, I.bare, ⟨fun b o e n hb hx => ?_, fun b o e n hb hx => ?_, I.base.free, fun b o e hx => ?_, I.base.tups, I.base.frzs, I.base.tbls⟩, ⟨_, hn', fun j y v' e1 e2 e3 => ?_⟩, fun y c e => ?_, I.free, I.freeC, fun p hp => ?_, tracked ⟨oL, hoL, I.free⟩ hs, by simpa using I.len⟩ ⟨_, hs, .inl rfl⟩
    · exact (hs.2 b (Nat.ne_of_lt (Nat.lt_of_lt_of_le (Heap.lt_size e) I.ok.above))).trans (I.base.keep b o e n hb hx)
    · obtain ⟨sl, e1⟩ := I.base.slot b o e n hb hx
      exact ⟨sl, (hs.2 b (Nat.ne_of_lt (Nat.lt_of_lt_of_le (Heap.lt_size e) I.ok.above))).trans e1⟩
    · obtain ⟨o', e1⟩ := I.base.there b o e hx
      exact ⟨o', (hs.2 b (Nat.ne_of_lt (Nat.lt_of_lt_of_le (Heap.lt_size e) I.ok.above))).trans e1⟩
    · by_cases hj : j = i
      · subst hj
        rw [hi] at e1; cases e1
        rw [List.getElem?_set_self hiσ] at e2
        cases e2
        exact ⟨u, r, .inl ⟨hk, by simp⟩⟩
      · rw [List.getElem?_set_ne (Ne.symm hj)] at e2
        obtain ⟨u', r', q⟩ := hl j y v' e1 e2 e3
        refine ⟨u', r', ?_⟩
        rcases q with ⟨k, e⟩ | ⟨k, c, e, z⟩
        · refine .inl ⟨k, ?_⟩
          have : y ≠ x := fun e => hj (nodup_ix hN e1 (e ▸ hi))
          simp [this, e]
        · exact .inr ⟨k, c, e, z.sameBut hs (cne y c e)⟩
    · obtain ⟨w', z⟩ := I.cell y c e
      exact ⟨w', z.sameBut hs (cne y c e)⟩
    · obtain ⟨e, n, ne, nf, d⟩ := I.pin p hp
      exact ⟨(hs.2 p.1 ne).trans e, n, ne, nf, d⟩
  · have hfn : X.fn x = true := by
      rcases hf with z | z
      · exact z
      · rw [z] at hk; cases hk
    obtain ⟨c, hc⟩ := I.ok.has x (.inl hk)
    obtain ⟨w', z⟩ := I.cell x c hc
    refine wpAny_storeName_cell I.ok.kind hk hc z (fun h' hc' hs => ?_)
    obtain ⟨oc, hoc, hocd⟩ := id z
    refine h { s with heap := h' } ⟨I.ok, I.os, I.bare, ⟨fun b o e n hb hx => ?_, fun b o e n hb hx => ?_, I.base.free, fun b o e hx => ?_, I.base.tups, I.base.frzs, I.base.tbls⟩, ⟨m, hn.sameBut hs (Ne.symm (cne x c hc)), fun j y v' e1 e2 e3 => ?_⟩, fun y c' e => ?_, I.free, I.freeC, fun p hp => ?_, tracked ⟨oc, hoc, I.freeC x c hc⟩ hs, by simpa using I.len⟩ ⟨c, hs, .inr hc⟩
    · exact (hs.2 b (Nat.ne_of_lt (Nat.lt_of_lt_of_le (Heap.lt_size e) (I.ok.cab x c hfn hc)))).trans (I.base.keep b o e n hb hx)
    · obtain ⟨sl, e1⟩ := I.base.slot b o e n hb hx
      exact ⟨sl, (hs.2 b (Nat.ne_of_lt (Nat.lt_of_lt_of_le (Heap.lt_size e) (I.ok.cab x c hfn hc)))).trans e1⟩
    · obtain ⟨o', e1⟩ := I.base.there b o e hx
      exact ⟨o', (hs.2 b (Nat.ne_of_lt (Nat.lt_of_lt_of_le (Heap.lt_size e) (I.ok.cab x c hfn hc)))).trans e1⟩
    · by_cases hj : j = i
      · subst hj
        rw [hi] at e1; cases e1
        rw [List.getElem?_set_self hiσ] at e2
        cases e2
        exact ⟨u, r, .inr ⟨.inl hk, c, hc, hc'⟩⟩
      · rw [List.getElem?_set_ne (Ne.symm hj)] at e2
        obtain ⟨u', r', q⟩ := hl j y v' e1 e2 e3
        refine ⟨u', r', ?_⟩
        rcases q with q | ⟨k, c', e, z'⟩
        · exact .inl q
        · refine .inr ⟨k, c', e, z'.sameBut hs ?_⟩
          rintro rfl
          exact hj (nodup_ix hN e1 (I.ok.inj _ _ _ e hc ▸ hi))
    · by_cases hcc : c' = c
      · subst hcc; exact ⟨_, hc'⟩
      · obtain ⟨w2, z2⟩ := I.cell y c' e
        exact ⟨w2, z2.sameBut hs hcc⟩
    · obtain ⟨e, n, ne, nf, d⟩ := I.pin p hp
      refine ⟨(hs.2 p.1 ?_).trans e, n, ne, nf, d⟩
      intro q
      rw [q, hoc] at e
      have q' : oc = p.2 := Option.some.inj e
      exact d w' (by rw [← q']; exact hocd)
theorem store_ok {M : Model} {A : Around} {E : Value → Shared → Prop} {i : Nat} {x : Str} {v : V} {u : Value} {Q : Unit → Shared → Prop} (I : Inv X pins σ H s) (hN : X.N.Nodup) (hi : X.N[i]? = some x) (hx : Loc X.env.scope x) (r : RelV v u)
    (h : ∀ s', Inv X pins (σ.set i (some v)) H s' → Q () s') (hf : X.fn x = true ∨ X.env.scope.names.lookup x = some .local := by first | exact .inl rfl | exact .inr rfl | assumption) : wpAny M A (storeName X.env x u) Q E s :=
  store_ok2 I hN hi hx r (fun s' I' _ => h s' I') hf
/-- behind a call or a block, the state as it is -/
theorem Inv.call' {s' : Shared} {ch : List Addr} (I : Inv X pins σ H s) (ho : s'.os = s.os) (u : Un (frs X.stack) ch H H' s.heap s'.heap) (hok : HOk X.prog X.w H' s'.heap) (hg : AllBare s'.gens)
    (hch : ∀ b ∈ ch, (b ∈ X.ex ∨ X.s₀.heap.objs.size ≤ b) ∧ b ≠ X.env.locals ∧ (∀ x c, X.env.cells.lookup x = some c → c ≠ b) ∧ ∀ p ∈ X.pn ++ pins, p.1 ≠ b) : Inv X pins σ H' s' := by
  obtain ⟨h', g', d', t', o'⟩ := s'
  have e : o' = s.os := ho
  subst e
  exact I.call (g' := g') (t' := t') (d' := d') u hok hg hch
end

/-! ### the judgements -/
/-- an exception: its class, its own dict's address (where it has one), the abstract heap behind it -/
abbrev XK := Value → Option Addr → Hp → Prop
abbrev St := List (Option V)
abbrev VK := V → Hp → Prop
/-- an expression's reading; a test's; an argument list's -/
abbrev TE := St → Hp → VK → Prop
abbrev TT := St → Hp → (Bool → Hp → Prop) → Prop
abbrev TA := St → Hp → (List V → Hp → Prop) → Prop
/-- what is wanted behind a statement -/
structure Ends where
  nx : St → Hp → Prop
  rt : VK
  bk : St → Hp → Prop := fun _ _ => False
  ct : St → Hp → Prop := fun _ _ => False
abbrev TS := Ends → St → Hp → Prop

def EP (X : Cx) (pins : List (Addr × Obj)) (σ : St) (Q : VK) (u : Value) (s' : Shared) : Prop := ∃ v H', Inv X pins σ H' s' ∧ RelV v u ∧ Q v H'
def TP (X : Cx) (pins : List (Addr × Obj)) (σ : St) (Q : Bool → Hp → Prop) (b : Bool) (s' : Shared) : Prop := ∃ H', Inv X pins σ H' s' ∧ Q b H'
def AP (X : Cx) (pins : List (Addr × Obj)) (σ : St) (Q : List V → Hp → Prop) (us : List Value) (s' : Shared) : Prop := ∃ vs H', Inv X pins σ H' s' ∧ Vals vs us ∧ Q vs H'
def SP (X : Cx) (pins : List (Addr × Obj)) (D : Ends) (f : Flow) (s' : Shared) : Prop :=
  match f with
  | .next => ∃ σ' H', Inv X pins σ' H' s' ∧ D.nx σ' H'
  | .brk => ∃ σ' H', Inv X pins σ' H' s' ∧ D.bk σ' H'
  | .cont => ∃ σ' H', Inv X pins σ' H' s' ∧ D.ct σ' H'
  | .ret u => ∃ v σ' H', Inv X pins σ' H' s' ∧ RelV v u ∧ D.rt v H'

def PE (X : Cx) (e : Expr) (t : TE) : Prop :=
  ∀ (pins : List (Addr × Obj)) (s : Shared) (σ : St) (H : Hp) (Q : VK), Inv X pins σ H s → t σ H Q → wpAny (model X.prog X.w) X.A (eval e X.env) (EP X pins σ Q) X.xe s
def PT (X : Cx) (e : Expr) (t : TT) : Prop :=
  ∀ (pins : List (Addr × Obj)) (s : Shared) (σ : St) (H : Hp) (Q : Bool → Hp → Prop), Inv X pins σ H s → t σ H Q → wpAny (model X.prog X.w) X.A (isTrue e X.env (eval e X.env)) (TP X pins σ Q) X.xe s
/-- a test whatever its 'whole' is (and, or) -/
def PW (X : Cx) (e : Expr) (t : TT) : Prop :=
  ∀ (whole : Sem Value) (pins : List (Addr × Obj)) (s : Shared) (σ : St) (H : Hp) (Q : Bool → Hp → Prop), Inv X pins σ H s → t σ H Q → wpAny (model X.prog X.w) X.A (isTrue e X.env whole) (TP X pins σ Q) X.xe s
theorem PW.pt {X : Cx} {e : Expr} {t : TT} (h : PW X e t) : PT X e t := h _
/-- an argument list (no star), from the left -/
def PA (X : Cx) (es : List Expr) (t : TA) : Prop :=
  ∀ (pos : Pos) (pins : List (Addr × Obj)) (s : Shared) (σ : St) (H : Hp) (Q : List V → Hp → Prop), Inv X pins σ H s → t σ H Q → wpAny (model X.prog X.w) X.A (spliced (backTo pos (starEach es X.env))) (AP X pins σ Q) X.xe s
def PS (X : Cx) (st : Stmt) (t : TS) : Prop :=
  ∀ (pins : List (Addr × Obj)) (s : Shared) (σ : St) (H : Hp) (D : Ends), Inv X pins σ H s → t D σ H → wpAny (model X.prog X.w) X.A (exec st X.env) (SP X pins D) X.xe s
def PSs (X : Cx) (st : List Stmt) (t : TS) : Prop :=
  ∀ (pins : List (Addr × Obj)) (s : Shared) (σ : St) (H : Hp) (D : Ends), Inv X pins σ H s → t D σ H → wpAny (model X.prog X.w) X.A (execs st X.env) (SP X pins D) X.xe s
/-- weaken the end -/
theorem thn {α : Type} {t : Sem α} {Q Q' : α → Shared → Prop} {M : Model} {A : Around} {E : Value → Shared → Prop} {s : Shared} (h : wpAny M A t Q E s) (hQ : ∀ a s, Q a s → Q' a s) : wpAny M A t Q' E s := wpAny_mono h hQ fun _ _ x => x
end L2

namespace L2
open PySem PySem.Spec PyProof.Rows
section
variable {X : Cx}

/-- two expressions in a row -/
theorem bin {a b : Expr} {ta tb : TE} (ha : PE X a ta) (hb : PE X b tb) {pins : List (Addr × Obj)} {s : Shared} {σ : St} {H : Hp} {R : V → V → Hp → Prop} (I : Inv X pins σ H s) (h : ta σ H fun x H1 => tb σ H1 fun y H2 => R x y H2)
    {α : Type} {Q : α → Shared → Prop} {f : Value → Value → Sem α}
    (hf : ∀ v u s2 x y H2, Inv X pins σ H2 s2 → RelV x v → RelV y u → R x y H2 → wpAny (model X.prog X.w) X.A (f v u) Q X.xe s2) :
    wpAny (model X.prog X.w) X.A (eval a X.env) (fun v s₁ => wpAny (model X.prog X.w) X.A (eval b X.env) (fun u s₂ => wpAny (model X.prog X.w) X.A (f v u) Q X.xe s₂) X.xe s₁) X.xe s := by
  refine thn (ha pins s σ H _ I h) fun v s1 ⟨x, H1, I1, r1, q1⟩ => ?_
  refine thn (hb pins s1 σ H1 _ I1 q1) fun u s2 ⟨y, H2, I2, r2, q2⟩ => ?_
  exact hf v u s2 x y H2 I2 r1 r2 q2

/-! ### names and constants -/
def tVar (i : Nat) : TE := fun σ H Q => ∃ v, σ[i]? = some (some v) ∧ Q v H
def tC (v : V) : TE := fun _ H Q => Q v H
theorem pe_var {i : Nat} {x : Str} {pos : Pos} (hN : X.N[i]? = some x) (hv : Vis X.env.scope x) (hd : (x == ("__debug__" : Str)) = false := by decide) (hcd : (x == ("__classdict__" : Str)) = false := by decide) : PE X (.Name x pos) (tVar i) := by
  intro pins s σ H Q I h
  obtain ⟨v, e, h⟩ := h
  obtain ⟨m, hn, hl⟩ := I.loc
  obtain ⟨u, r, l⟩ := hl i x v hN e hv
  have fin : EP X pins σ Q u s := ⟨v, H, I, r, h⟩
  rcases l with ⟨hk, hm⟩ | ⟨hk, c, hc, hcell⟩
  · exact wpAny_Name (wpAny_loadName_local I.ok.kind hk hn hm fin) hd
  · rcases hk with hk | hk
    · exact wpAny_Name (wpAny_loadName_cell I.ok.kind hk hc hcell fin) hd
    · exact wpAny_Name (wpAny_loadName_free I.ok.kind hk hc hcell fin hcd) hd
theorem pe_int {i j pos} : PE X (.Constant (.int i) j pos) (tC (.int i)) := fun _ _ _ H _ I h => wpAny_Constant_int ⟨.int i, H, I.tok _, ⟨_, rfl⟩, h⟩
theorem pe_bl {b j pos} : PE X (.Constant (.bool b) j pos) (tC (.bl b)) := fun _ _ _ H _ I h => Constant_bool ⟨.bl b, H, I, rfl, h⟩
theorem pe_non {j pos} : PE X (.Constant .none j pos) (tC .non) := fun _ _ _ H _ I h => Constant_none ⟨.non, H, I, rfl, h⟩
theorem pe_str {x j pos} : PE X (.Constant (.str x) j pos) (tC (.str x)) := fun _ _ _ H _ I h => Calls.Constant_str ⟨.str x, H, I.tok _, ⟨_, rfl⟩, h⟩

/-- a global name of the def -/
def Gl (X : Cx) (x : Str) : Prop := X.env.kindOf x = some .globalImplicit
theorem ld_glob {E : Value → Shared → Prop} {pins : List (Addr × Obj)} {s : Shared} {σ : St} {H : Hp} {x : Str} {u : Value} {pos : Pos} {Q : Value → Shared → Prop} (I : Inv X pins σ H s) (hg : Gl X x) (hm : X.mg x = some u) (h : Q u s)
    (hd : (x == ("__debug__" : Str)) = false := by decide) : wpAny (model X.prog X.w) X.A (eval (.Name x pos) X.env) Q E s :=
  Calls.Name_function_global I.ok.kind hg (Calls.loadGlobal_global (by rw [I.ok.glob]; exact I.mod.glob.keeps I.bk) hm h) hd
theorem ld_blt {E : Value → Shared → Prop} {pins : List (Addr × Obj)} {s : Shared} {σ : St} {H : Hp} {x : Str} {u : Value} {pos : Pos} {Q : Value → Shared → Prop} (I : Inv X pins σ H s) (hg : Gl X x) (hm : X.mg x = none) (hv : bootBuiltins x = some u) (h : Q u s)
    (hn : x ≠ "__name__" := by decide) (hd : (x == ("__debug__" : Str)) = false := by decide) : wpAny (model X.prog X.w) X.A (eval (.Name x pos) X.env) Q E s := by
  obtain ⟨mb, h1, h2⟩ := I.mod.blt
  exact Calls.Name_function_global I.ok.kind hg (Calls.loadGlobal_builtin (by rw [I.ok.glob]; exact I.mod.glob.keeps I.bk) hm (by rw [I.ok.blt]; exact h1.keeps I.bk) ((h2 x hn).trans hv) h) hd
/-- a module's constant, a class, a function, as a value -/
theorem pe_glob {x : Str} {v : V} {u : Value} {pos : Pos} (hg : Gl X x) (hm : X.mg x = some u) (r : RelV v u) (hd : (x == ("__debug__" : Str)) = false := by decide) : PE X (.Name x pos) (tC v) :=
  fun _ _ _ H _ I h => ld_glob I hg hm ⟨v, H, I, r, h⟩ hd
theorem pe_bltn {x : Str} {v : V} {u : Value} {pos : Pos} (hg : Gl X x) (hm : X.mg x = none) (hv : bootBuiltins x = some u) (r : RelV v u) (hn : x ≠ "__name__" := by decide) (hd : (x == ("__debug__" : Str)) = false := by decide) : PE X (.Name x pos) (tC v) :=
  fun _ _ _ H _ I h => ld_blt I hg hm hv ⟨v, H, I, r, h⟩ hn hd

/-! ### arithmetic -/
/-- two ints -/
def t2I (ta tb : TE) (k : Int → Int → Hp → Prop) : St → Hp → Prop := fun σ H => ta σ H fun x H1 => tb σ H1 fun y H2 => ∃ i j, x = .int i ∧ y = .int j ∧ k i j H2
def tAdd (ta tb : TE) : TE := fun σ H Q => t2I ta tb (fun i j H2 => Q (.int (i + j)) H2) σ H
def tSub (ta tb : TE) : TE := fun σ H Q => t2I ta tb (fun i j H2 => Q (.int (i - j)) H2) σ H
/-- the left factor below 2^64 -/
def tMul (ta tb : TE) : TE := fun σ H Q => t2I ta tb (fun i j H2 => (-(2 ^ 64) < i ∧ i < 2 ^ 64) ∧ Q (.int (i * j)) H2) σ H
variable {a b : Expr} {ta tb : TE} {pos : Pos}
theorem pe_add (ha : PE X a ta) (hb : PE X b tb) : PE X (.BinOp a .Add b pos) (tAdd ta tb) := by
  intro pins s σ H Q I h
  refine wpAny_BinOp (bin ha hb I h fun v u s2 x y H2 I2 rx ry q => ?_)
  obtain ⟨i, j, rfl, rfl, q⟩ := q
  obtain ⟨t, rfl⟩ := rx
  obtain ⟨t', rfl⟩ := ry
  exact add_int ⟨.int _, H2, I2.tok _, ⟨_, rfl⟩, q⟩
theorem pe_sub (ha : PE X a ta) (hb : PE X b tb) : PE X (.BinOp a .Sub b pos) (tSub ta tb) := by
  intro pins s σ H Q I h
  refine wpAny_BinOp (bin ha hb I h fun v u s2 x y H2 I2 rx ry q => ?_)
  obtain ⟨i, j, rfl, rfl, q⟩ := q
  obtain ⟨t, rfl⟩ := rx
  obtain ⟨t', rfl⟩ := ry
  exact sub_int ⟨.int _, H2, I2.tok _, ⟨_, rfl⟩, q⟩
theorem pe_mul (ha : PE X a ta) (hb : PE X b tb) : PE X (.BinOp a .Mult b pos) (tMul ta tb) := by
  intro pins s σ H Q I h
  refine wpAny_BinOp (bin ha hb I h fun v u s2 x y H2 I2 rx ry q => ?_)
  obtain ⟨i, j, rfl, rfl, ⟨q1, q2⟩, q⟩ := q
  obtain ⟨t, rfl⟩ := rx
  obtain ⟨t', rfl⟩ := ry
  exact mul_int ⟨.int _, H2, I2.tok _, ⟨_, rfl⟩, q⟩ (.of_left (intBits_le_64 q1 q2))

/-! ### comparisons -/
def PC (X : Cx) (op : CmpOp) (a b : Expr) (t : TE) : Prop :=
  ∀ (pins : List (Addr × Obj)) (s : Shared) (σ : St) (H : Hp) (Q : VK), Inv X pins σ H s → t σ H Q →
    wpAny (model X.prog X.w) X.A (eval a X.env) (fun v s₁ => wpAny (model X.prog X.w) X.A (eval b X.env) (fun u s₂ => wpAny (model X.prog X.w) X.A (compareOp op v u) (EP X pins σ Q) X.xe s₂) X.xe s₁) X.xe s
theorem nobehind (b : Expr) {op : CmpOp} (h : op ≠ .In) (h2 : op ≠ .NotIn) : behindInMarks op b = false := by
  have e1 : (op == CmpOp.In) = false := by cases op <;> first | rfl | exact absurd rfl h
  have e2 : (op == CmpOp.NotIn) = false := by cases op <;> first | rfl | exact absurd rfl h2
  cases b <;> simp [behindInMarks, e1, e2]
def tCmp (p : Int → Int → Bool) (ta tb : TE) : TE := fun σ H Q => t2I ta tb (fun i j H2 => Q (.bl (p i j)) H2) σ H
abbrev tLt : TE → TE → TE := tCmp fun i j => decide (i < j)
abbrev tLe : TE → TE → TE := tCmp fun i j => decide (i ≤ j)
abbrev tGt : TE → TE → TE := tCmp fun i j => decide (j < i)
abbrev tGe : TE → TE → TE := tCmp fun i j => decide (j ≤ i)
abbrev tEqI : TE → TE → TE := tCmp fun i j => decide (i = j)
abbrev tNeI : TE → TE → TE := tCmp fun i j => !decide (i = j)
/-- a comparison of two ints, by its rule -/
theorem pc_int {op : CmpOp} {p : Int → Int → Bool} (ha : PE X a ta) (hb : PE X b tb)
    (rule : ∀ (i j : Int) (t u : Tok) (Q : Value → Shared → Prop) (s : Shared), Q (.bool (p i j)) s → wpAny (model X.prog X.w) X.A (compareOp op (.int i t) (.int j u)) Q X.xe s) : PC X op a b (tCmp p ta tb) := by
  intro pins s σ H Q I h
  refine bin ha hb I h fun v u s2 x y H2 I2 rx ry q => ?_
  obtain ⟨i, j, rfl, rfl, q⟩ := q
  obtain ⟨t, rfl⟩ := rx
  obtain ⟨t', rfl⟩ := ry
  exact rule i j t t' _ s2 ⟨.bl _, H2, I2, rfl, q⟩
theorem pc_lt (ha : PE X a ta) (hb : PE X b tb) : PC X .Lt a b (tLt ta tb) := pc_int ha hb fun _ _ _ _ _ _ h => lt_int h
theorem pc_le (ha : PE X a ta) (hb : PE X b tb) : PC X .LtE a b (tLe ta tb) := pc_int ha hb fun _ _ _ _ _ _ h => le_int h
theorem pc_gt (ha : PE X a ta) (hb : PE X b tb) : PC X .Gt a b (tGt ta tb) := pc_int ha hb fun _ _ _ _ _ _ h => gt_int h
theorem pc_ge (ha : PE X a ta) (hb : PE X b tb) : PC X .GtE a b (tGe ta tb) := pc_int ha hb fun _ _ _ _ _ _ h => ge_int h
theorem pc_eqI (ha : PE X a ta) (hb : PE X b tb) : PC X .Eq a b (tEqI ta tb) := pc_int ha hb fun _ _ _ _ _ _ h => eq_int (by rw [Bool.beq_eq_decide_eq]; exact h)
theorem pc_neI (ha : PE X a ta) (hb : PE X b tb) : PC X .NotEq a b (tNeI ta tb) := pc_int ha hb fun _ _ _ _ _ _ h => ne_int (by rw [bne, Bool.beq_eq_decide_eq]; exact h)
/-- is None -/
def tIsN (ta : TE) : TE := fun σ H Q => ta σ H fun x H1 => Q (.bl (decide (x = .non))) H1
def tNotN (ta : TE) : TE := fun σ H Q => ta σ H fun x H1 => Q (.bl (!decide (x = .non))) H1
theorem RelV.none_iff {x : V} {v : Value} (r : RelV x v) : (v == Value.none) = decide (x = .non) := by
  cases x with
  | non => cases r; rfl
  | bl _ => cases r; rfl
  | int _ => obtain ⟨t, rfl⟩ := r; rfl
  | str _ => obtain ⟨t, rfl⟩ := r; rfl
  | byt _ => obtain ⟨t, rfl⟩ := r; rfl
  | flt _ => obtain ⟨t, rfl⟩ := r; rfl
  | ref _ => cases r; rfl
  | ty _ => cases r; rfl
theorem pc_isN {j pos'} (ha : PE X a ta) : PC X .Is a (.Constant .none j pos') (tIsN ta) := by
  intro pins s σ H Q I h
  refine thn (ha pins s σ H _ I h) fun v s1 ⟨x, H1, I1, r1, q1⟩ => ?_
  exact Constant_none (is_none_gen ⟨.bl _, H1, I1, by rw [r1.none_iff]; rfl, q1⟩)
theorem pc_notN {j pos'} (ha : PE X a ta) : PC X .IsNot a (.Constant .none j pos') (tNotN ta) := by
  intro pins s σ H Q I h
  refine thn (ha pins s σ H _ I h) fun v s1 ⟨x, H1, I1, r1, q1⟩ => ?_
  exact Constant_none (isnot_none_gen ⟨.bl _, H1, I1, by rw [r1.none_iff]; rfl, q1⟩)
/-- a comparison as a value, as a test -/
def tB (t : TE) : TT := fun σ H Q => t σ H fun x H1 => ∃ c, x = .bl c ∧ Q c H1
theorem pe_cmp {op : CmpOp} {t : TE} (h : PC X op a b t) (h1 : behindInMarks op b = false := by first | exact nobehind _ (by decide) (by decide) | rfl) : PE X (.Compare a [op] [b] pos) t := fun pins s σ H Q I hw => wpAny_Compare1 (h pins s σ H Q I hw) h1
theorem pt_cmp {op : CmpOp} {t : TE} (h : PC X op a b t) (h1 : behindInMarks op b = false := by first | exact nobehind _ (by decide) (by decide) | rfl) : PT X (.Compare a [op] [b] pos) (tB t) := by
  intro pins s σ H Q I hw
  refine wpAny_isTrue_Compare1 (thn (h pins s σ H _ I hw) fun v s1 h1 => thn h1 fun u s2 h2 => thn h2 fun c s3 ⟨x, H1, I1, r1, q1⟩ => ?_) h1
  obtain ⟨d, rfl, q⟩ := q1
  cases r1
  exact wpAny_truthy_bool ⟨H1, I1, q⟩
/-- an expression whose value is a bool, as a test -/
theorem pt_val {e : Expr} {t : TE} (h : PE X e t) (he : ∀ whole, isTrue e X.env whole = (do let v ← whole; standAt e.pos; holding [v] (truthy v)) := by intro _; rfl) : PT X e (tB t) := by
  intro pins s σ H Q I hw
  refine isTrue_plain (thn (h pins s σ H _ I hw) fun v s1 ⟨x, H1, I1, r1, q1⟩ => ?_) (he _)
  obtain ⟨d, rfl, q⟩ := q1
  cases r1
  exact wpAny_truthy_bool ⟨H1, I1, q⟩

/-! ### and, or, not -/
variable {tA tB' : TT} {rest : List Expr}
def tAnd (t u : TT) : TT := fun σ H Q => t σ H fun c H1 => if c = true then u σ H1 Q else Q false H1
def tOr (t u : TT) : TT := fun σ H Q => t σ H fun c H1 => if c = true then Q true H1 else u σ H1 Q
def tNot (t : TT) : TT := fun σ H Q => t σ H fun c H1 => Q (!c) H1
theorem pw_and1 (ha : PT X a tA) : PW X (.BoolOp .And [a] pos) tA := by
  intro wh pins s σ H Q I h
  refine isTrue_and (thn (ha pins s σ H Q I h) fun c s1 e => ?_)
  cases c with
  | true => exact isTrue_and_nil e
  | false => exact e
theorem pw_or1 (ha : PT X a tA) : PW X (.BoolOp .Or [a] pos) tA := by
  intro wh pins s σ H Q I h
  refine isTrue_or (thn (ha pins s σ H Q I h) fun c s1 e => ?_)
  cases c with
  | false => exact isTrue_or_nil e
  | true => exact e
theorem pw_and (ha : PT X a tA) (hb : PW X (.BoolOp .And (b :: rest) pos) tB') : PW X (.BoolOp .And (a :: b :: rest) pos) (tAnd tA tB') := by
  intro wh pins s σ H Q I h
  refine isTrue_and (thn (ha pins s σ H _ I h) fun c s1 ⟨H1, I1, q1⟩ => ?_)
  cases c with
  | true => exact hb wh pins s1 σ H1 Q I1 q1
  | false => exact ⟨H1, I1, q1⟩
theorem pw_or (ha : PT X a tA) (hb : PW X (.BoolOp .Or (b :: rest) pos) tB') : PW X (.BoolOp .Or (a :: b :: rest) pos) (tOr tA tB') := by
  intro wh pins s σ H Q I h
  refine isTrue_or (thn (ha pins s σ H _ I h) fun c s1 ⟨H1, I1, q1⟩ => ?_)
  cases c with
  | true => exact ⟨H1, I1, q1⟩
  | false => exact hb wh pins s1 σ H1 Q I1 q1
theorem pt_not (ha : PT X a tA) : PT X (.UnaryOp .Not a pos) (tNot tA) := by
  intro pins s σ H Q I h
  exact isTrue_not (ha pins s σ H (fun c H1 => Q (!c) H1) I h)
/-- .. as values (bools) -/
def tAndV (ta tb : TE) : TE := fun σ H Q => ta σ H fun x H1 => ∃ c, x = .bl c ∧ if c = true then tb σ H1 Q else Q (.bl false) H1
def tOrV (ta tb : TE) : TE := fun σ H Q => ta σ H fun x H1 => ∃ c, x = .bl c ∧ if c = true then Q (.bl true) H1 else tb σ H1 Q
def tNotV (ta : TE) : TE := fun σ H Q => ta σ H fun x H1 => ∃ c, x = .bl c ∧ Q (.bl (!c)) H1
theorem pe_one {op} {t : TE} (h : PE X a t) : PE X (.BoolOp op [a] pos) t := fun pins s σ H Q I hw => BoolOp_one (h pins s σ H Q I hw)
theorem pe_and (ha : PE X a ta) (hb : PE X (.BoolOp .And (b :: rest) pos) tb) : PE X (.BoolOp .And (a :: b :: rest) pos) (tAndV ta tb) := by
  intro pins s σ H Q I h
  refine BoolOp_and (thn (ha pins s σ H _ I h) fun v s1 ⟨x, H1, I1, r1, q1⟩ => ?_)
  obtain ⟨c, rfl, q1⟩ := q1
  cases r1
  refine wpAny_truthy_bool ?_
  cases c with
  | true => exact hb pins s1 σ H1 Q I1 q1
  | false => exact ⟨.bl false, H1, I1, rfl, q1⟩
theorem pe_or (ha : PE X a ta) (hb : PE X (.BoolOp .Or (b :: rest) pos) tb) : PE X (.BoolOp .Or (a :: b :: rest) pos) (tOrV ta tb) := by
  intro pins s σ H Q I h
  refine BoolOp_or (thn (ha pins s σ H _ I h) fun v s1 ⟨x, H1, I1, r1, q1⟩ => ?_)
  obtain ⟨c, rfl, q1⟩ := q1
  cases r1
  refine wpAny_truthy_bool ?_
  cases c with
  | false => exact hb pins s1 σ H1 Q I1 q1
  | true => exact ⟨.bl true, H1, I1, rfl, q1⟩
theorem pe_not (ha : PE X a ta) : PE X (.UnaryOp .Not a pos) (tNotV ta) := by
  intro pins s σ H Q I h
  refine UnaryOp_ (thn (ha pins s σ H _ I h) fun v s1 ⟨x, H1, I1, r1, q1⟩ => ?_)
  obtain ⟨c, rfl, q1⟩ := q1
  cases r1
  exact not_of (wpAny_truthy_bool ⟨.bl (!c), H1, I1, rfl, q1⟩)
/-- a if t else b -/
def tIf (t : TT) (ta tb : TE) : TE := fun σ H Q => t σ H fun c H1 => if c = true then ta σ H1 Q else tb σ H1 Q
theorem pe_ifExp {c : Expr} (hc : PT X c tA) (ha : PE X a ta) (hb : PE X b tb) : PE X (.IfExp c a b pos) (tIf tA ta tb) := by
  intro pins s σ H Q I h
  refine wpAny_IfExp (thn (hc pins s σ H _ I h) fun d s1 ⟨H1, I1, q1⟩ => ?_)
  cases d with
  | true => exact ha pins s1 σ H1 Q I1 q1
  | false => exact hb pins s1 σ H1 Q I1 q1
end
end L2

namespace L2
open PySem PySem.Spec PyProof.Rows

/-! ### a list, a tuple that is read: tracked, frozen, or an object of the module -/
def SqL (K : PySem.W.Frag) (H : Hp) (a : Addr) (xs : List V) : Prop :=
  Rd H a (.lst xs) ∨
    ∃ (o : Obj) (its : Array Value) (n : Nat), K.lookup a = some o ∧ o.cls = .type "list" ∧ o.dict = none ∧ o.data = .seq its n ∧ its.size ≤ sizeLine ∧ Vals xs its.toList
def SqT (K : PySem.W.Frag) (H : Hp) (a : Addr) (xs : List V) : Prop :=
  Rd H a (.tup xs) ∨
    ∃ (o : Obj) (its : Array Value) (n : Nat), K.lookup a = some o ∧ o.cls = .type "tuple" ∧ o.data = .seq its n ∧ its.size ≤ sizeLine ∧ Vals xs its.toList
def absV : Value → Option V
  | .none => some .non
  | .bool b => some (.bl b)
  | .int i _ => some (.int i)
  | .str x _ => some (.str x)
  | .bytes b _ => some (.byt b)
  | .float b _ => some (.flt b)
  | .ref a => some (.ref a)
  | .type n => some (.ty n)
  | _ => none
theorem RelV.abs {x : V} {u : Value} (r : RelV x u) : absV u = some x := by
  cases x with
  | non => cases r; rfl
  | bl _ => cases r; rfl
  | int _ => obtain ⟨t, rfl⟩ := r; rfl
  | str _ => obtain ⟨t, rfl⟩ := r; rfl
  | byt _ => obtain ⟨t, rfl⟩ := r; rfl
  | flt _ => obtain ⟨t, rfl⟩ := r; rfl
  | ref _ => cases r; rfl
  | ty _ => cases r; rfl
theorem RelV.inj {x y : V} {u : Value} (r : RelV x u) (q : RelV y u) : x = y := Option.some.inj (r.abs.symm.trans q.abs)
theorem Vals.inj : ∀ {xs ys : List V} {us : List Value}, Vals xs us → Vals ys us → xs = ys
  | _, _, _, .nil, .nil => rfl
  | _, _, _, .cons r t, .cons r' t' => by rw [r.inj r', Vals.inj t t']
section
variable {X : Cx} {pins : List (Addr × Obj)} {σ : St} {H : Hp} {s : Shared} {a : Addr} {xs ys : List V}
theorem SqL.of {K : PySem.W.Frag} (h : H a = some (.lst xs)) : SqL K H a xs := .inl (.inl h)
theorem SqT.of {K : PySem.W.Frag} (h : H a = some (.tup xs)) : SqT K H a xs := .inl (.inl h)
theorem Inv.list (I : Inv X pins σ H s) (h : SqL X.K H a xs) : ∃ its : List Value, Vals xs its ∧ PlainL s.heap a its.toArray ∧ xs.length ≤ sizeLine := by
  rcases h with h | ⟨o, its, n, hk, hc, hd, hs, hz, r⟩
  · obtain ⟨z, its, n, r, e⟩ := h.ok I.hok
    exact ⟨its, r, ⟨_, n, e, rfl, rfl, rfl⟩, z⟩
  · refine ⟨its.toList, r, ⟨o, n, I.kIn a o hk, hc, hd, by simpa using hs⟩, ?_⟩
    have e := r.length
    simp only [Array.length_toList] at e
    omega
theorem Inv.tuple (I : Inv X pins σ H s) (h : SqT X.K H a xs) : ∃ its : List Value, Vals xs its ∧ IsTup s.heap a its.toArray ∧ xs.length ≤ sizeLine := by
  rcases h with h | ⟨o, its, n, hk, hc, hs, hz, r⟩
  · obtain ⟨z, its, r, p⟩ := h.ok I.hok
    exact ⟨its, r, p, z⟩
  · refine ⟨its.toList, r, ⟨o, I.kIn a o hk, hc, n, by simpa using hs⟩, ?_⟩
    have e := r.length
    simp only [Array.length_toList] at e
    omega
theorem Inv.list_inj (I : Inv X pins σ H s) (h : SqL X.K H a xs) (h' : SqL X.K H a ys) : xs = ys := by
  obtain ⟨its, r, ⟨o, n, e, _, _, d⟩, _⟩ := I.list h
  obtain ⟨its', r', ⟨o', n', e', _, _, d'⟩, _⟩ := I.list h'
  rw [e] at e'; cases e'
  rw [d] at d'
  injection d' with d1 _
  have : its = its' := by simpa using congrArg Array.toList d1
  subst this
  exact r.inj r'
theorem Inv.tuple_inj (I : Inv X pins σ H s) (h : SqT X.K H a xs) (h' : SqT X.K H a ys) : xs = ys := by
  obtain ⟨its, r, ⟨o, e, _, n, d⟩, _⟩ := I.tuple h
  obtain ⟨its', r', ⟨o', e', _, n', d'⟩, _⟩ := I.tuple h'
  rw [e] at e'; cases e'
  rw [d] at d'
  injection d' with d1 _
  have : its = its' := by simpa using congrArg Array.toList d1
  subst this
  exact r.inj r'
end

/-! ### another wish about exceptions -/
abbrev Cx.wish (X : Cx) (E : Value → Shared → Prop) : Cx := { X with xe := E }
/-- no exception leaves -/
abbrev Cx.nox (X : Cx) : Cx := X.wish fun _ _ => False
theorem Cx.Ok.wish {X : Cx} (ok : X.Ok) (E : Value → Shared → Prop) : (X.wish E).Ok :=
  ⟨ok.mod, ok.kind, ok.glob, ok.blt, ok.above, ok.inj, ok.has, ok.cab, ok.hd, ok.frames, ok.stk, ok.exf, ok.bs, ok.bsz, ok.noex, ok.exfs, ok.funs, ok.frf⟩
theorem Cx.Ok.unwish {X : Cx} {E : Value → Shared → Prop} (ok : (X.wish E).Ok) : X.Ok :=
  ⟨ok.mod, ok.kind, ok.glob, ok.blt, ok.above, ok.inj, ok.has, ok.cab, ok.hd, ok.frames, ok.stk, ok.exf, ok.bs, ok.bsz, ok.noex, ok.exfs, ok.funs, ok.frf⟩
section
variable {X : Cx} {pins : List (Addr × Obj)} {σ : St} {H : Hp} {s : Shared} {E : Value → Shared → Prop}
theorem Inv.wish (I : Inv X pins σ H s) (E : Value → Shared → Prop) : Inv (X.wish E) pins σ H s := ⟨I.ok.wish E, I.os, I.bare, I.base, I.loc, I.cell, I.free, I.freeC, I.pin, I.hok, I.len⟩
theorem Inv.unwish (I : Inv (X.wish E) pins σ H s) : Inv X pins σ H s := ⟨I.ok.unwish, I.os, I.bare, I.base, I.loc, I.cell, I.free, I.freeC, I.pin, I.hok, I.len⟩
theorem SP.unwish {D : Ends} {f : Flow} {s' : Shared} (h : SP (X.wish E) pins D f s') : SP X pins D f s' := by
  cases f with
  | next => obtain ⟨σ', H', I, q⟩ := h; exact ⟨σ', H', I.unwish, q⟩
  | brk => obtain ⟨σ', H', I, q⟩ := h; exact ⟨σ', H', I.unwish, q⟩
  | cont => obtain ⟨σ', H', I, q⟩ := h; exact ⟨σ', H', I.unwish, q⟩
  | ret u => obtain ⟨v, σ', H', I, r, q⟩ := h; exact ⟨v, σ', H', I.unwish, r, q⟩
theorem PE.nox {e : Expr} {t : TE} (h : PE X.nox e t) : PE X e t := fun pins s σ H Q I hw =>
  wpAny_mono (h pins s σ H Q (I.wish _) hw) (fun _ _ ⟨v, H', I', r, q⟩ => ⟨v, H', I'.unwish, r, q⟩) fun _ _ z => False.elim z
theorem PT.nox {e : Expr} {t : TT} (h : PT X.nox e t) : PT X e t := fun pins s σ H Q I hw =>
  wpAny_mono (h pins s σ H Q (I.wish _) hw) (fun _ _ ⟨H', I', q⟩ => ⟨H', I'.unwish, q⟩) fun _ _ z => False.elim z
theorem PSs.nox {st : List Stmt} {t : TS} (h : PSs X.nox st t) : PSs X st t := fun pins s σ H D I hw =>
  wpAny_mono (h pins s σ H D (I.wish _) hw) (fun _ _ q => q.unwish) fun _ _ z => False.elim z
end

/-! ### blocks and small statements -/
section
variable {X : Cx} {st : Stmt} {rest : List Stmt} {t u : TS} {e : Expr} {te : TE} {pos : Pos}
def tNext : TS := fun D σ H => D.nx σ H
def tSeq (t u : TS) : TS := fun D σ H => t { D with nx := u D } σ H
theorem pss_nil : PSs X [] tNext := fun _ _ σ H _ I h => wpAny_execs_nil ⟨σ, H, I, h⟩
theorem pss_cons (h1 : PS X st t) (h2 : PSs X rest u) : PSs X (st :: rest) (tSeq t u) := by
  intro pins s σ H D I h
  refine wpAny_execs_cons (thn (h1 pins s σ H { D with nx := u D } I h) fun f s1 q => ?_)
  cases f with
  | next =>
    obtain ⟨σ', H', I', q⟩ := q
    exact h2 pins s1 σ' H' D I' q
  | ret v => exact q
  | brk => exact q
  | cont => exact q
theorem pss_one (h1 : PS X st t) : PSs X [st] t := by
  intro pins s σ H D I h
  refine wpAny_execs_cons (thn (h1 pins s σ H D I h) fun f s1 q => ?_)
  cases f with
  | next => exact wpAny_execs_nil q
  | ret v => exact q
  | brk => exact q
  | cont => exact q
def tBreak : TS := fun D σ H => D.bk σ H
def tCont : TS := fun D σ H => D.ct σ H
theorem ps_pass : PS X (.Pass pos) tNext := fun _ _ σ H _ I h => wpAny_Pass ⟨σ, H, I, h⟩
theorem ps_break : PS X (.Break pos) tBreak := fun _ _ σ H _ I h => wpAny_Break ⟨σ, H, I, h⟩
theorem ps_continue : PS X (.Continue pos) tCont := fun _ _ σ H _ I h => wpAny_Continue ⟨σ, H, I, h⟩
/-- in a def's body nothing is shown -/
theorem Inv.quiet {pins : List (Addr × Obj)} {σ : St} {H : Hp} {s : Shared} (I : Inv X pins σ H s) : interactive X.env = false := by simp [interactive, I.ok.kind]
/-- a docstring -/
theorem ps_doc {x j pos pos'} : PS X (.Expr (.Constant (.str x) j pos) pos') tNext := fun _ s σ H _ I h => wpAny_Expr (Calls.Constant_str (show SP X _ _ .next { s with toks := s.toks + 1 } from ⟨σ, H, I.tok _, h⟩)) I.quiet
/-- an expression whose value is dropped -/
def tDrop (te : TE) : TS := fun D σ H => te σ H fun _ H1 => D.nx σ H1
theorem ps_expr (he : PE X e te) (hs : swapsWith e none pos.line X.env = pure false := by rfl) : PS X (.Expr e pos) (tDrop te) := by
  intro pins s σ H D I h
  exact wpAny_Expr_any (thn (he pins s σ H _ I h) fun v s1 ⟨x, H1, I1, r1, q1⟩ => ⟨σ, H1, I1, q1⟩) I.quiet hs
def tRet (te : TE) : TS := fun D σ H => te σ H D.rt
theorem ps_ret (he : PE X e te) : PS X (.Return (some e) pos) (tRet te) := by
  intro pins s σ H D I h
  exact wpAny_Return_some (thn (he pins s σ H _ I h) fun v s1 ⟨x, H1, I1, r1, q1⟩ => ⟨x, σ, H1, I1, r1, q1⟩)
def tRetN : TS := fun D _ H => D.rt .non H
theorem ps_retN : PS X (.Return none pos) tRetN := fun _ _ σ H _ I h => wpAny_Return_none ⟨.non, σ, H, I, rfl, h⟩
def tIfS (c : TT) (t u : TS) : TS := fun D σ H => c σ H fun b H1 => if b = true then t D σ H1 else u D σ H1
theorem ps_if {c : Expr} {a b : List Stmt} {tc : TT} (hc : PT X c tc) (ha : PSs X a t) (hb : PSs X b u) : PS X (.If c a b pos) (tIfS tc t u) := by
  intro pins s σ H D I h
  refine wpAny_If (thn (hc pins s σ H _ I h) fun d s1 ⟨H1, I1, q1⟩ => ?_)
  cases d with
  | true => exact ha pins s1 σ H1 D I1 q1
  | false => exact hb pins s1 σ H1 D I1 q1
/-- code that the proof never comes to -/
def tNever : TS := fun _ _ _ => False
theorem ps_never : PS X st tNever := fun _ _ _ _ _ _ h => h.elim
theorem pss_never {sts : List Stmt} : PSs X sts tNever := fun _ _ _ _ _ _ h => h.elim
end

/-! ### targets -/
abbrev TG := V → St → Hp → (St → Hp → Prop) → Prop
abbrev TGs := List V → St → Hp → (St → Hp → Prop) → Prop
def PG (X : Cx) (target : Expr) (t : TG) : Prop :=
  ∀ (pins : List (Addr × Obj)) (s : Shared) (σ : St) (H : Hp) (v : V) (u : Value) (Q : St → Hp → Prop), Inv X pins σ H s → RelV v u → t v σ H Q →
    wpAny (model X.prog X.w) X.A (assign target X.env u) (fun _ s' => ∃ σ' H', Inv X pins σ' H' s' ∧ Q σ' H') X.xe s
/-- several targets, one after another -/
def PGs (X : Cx) (ts : List Expr) (t : TGs) : Prop :=
  ∀ (pins : List (Addr × Obj)) (s : Shared) (σ : St) (H : Hp) (vs : List V) (us : List Value) (Q : St → Hp → Prop), Inv X pins σ H s → Vals vs us → t vs σ H Q →
    wpAny (model X.prog X.w) X.A (assignInOrder ((assignEach ts X.env).map (·.2)) us) (fun _ s' => ∃ σ' H', Inv X pins σ' H' s' ∧ Q σ' H') X.xe s
/-- o[i] = v, by values -/
abbrev TSet := V → V → V → Hp → (Hp → Prop) → Prop
def PSet (X : Cx) (t : TSet) : Prop :=
  ∀ (pins : List (Addr × Obj)) (s : Shared) (σ : St) (H : Hp) (o i v : V) (ov iv u : Value) (Q : Hp → Prop), Inv X pins σ H s → RelV o ov → RelV i iv → RelV v u → t o i v H Q →
    wpAny (model X.prog X.w) X.A (setItem ov iv u) (fun _ s' => ∃ H', Inv X pins σ H' s' ∧ Q H') X.xe s
/-- a op= b, by values -/
abbrev TIp := V → V → Hp → VK → Prop
def PIp (X : Cx) (op : Operator) (t : TIp) : Prop :=
  ∀ (pins : List (Addr × Obj)) (s : Shared) (σ : St) (H : Hp) (x y : V) (v u : Value) (Q : VK), Inv X pins σ H s → RelV x v → RelV y u → t x y H Q →
    wpAny (model X.prog X.w) X.A (inplaceOp op v u) (EP X pins σ Q) X.xe s
section
variable {X : Cx} {pos : Pos}
def gName (i : Nat) : TG := fun v σ H Q => Q (σ.set i (some v)) H
theorem pg_name {i : Nat} {x : Str} (hN : X.N.Nodup) (hi : X.N[i]? = some x) (hx : Loc X.env.scope x) (hf : X.fn x = true ∨ X.env.scope.names.lookup x = some .local := by first | exact .inl rfl | exact .inr rfl | assumption) : PG X (.Name x pos) (gName i) := by
  intro pins s σ H v u Q I r h
  exact wpAny_assign_Name (store_ok I hN hi hx r (fun s' I' => ⟨_, H, I', h⟩) hf)
def gNil : TGs := fun vs σ H Q => vs = [] ∧ Q σ H
def gCons (t : TG) (u : TGs) : TGs := fun vs σ H Q => ∃ v r, vs = v :: r ∧ t v σ H fun σ' H' => u r σ' H' Q
theorem pgs_nil : PGs X [] gNil := by
  intro pins s σ H vs us Q I r h
  obtain ⟨e, h⟩ := h
  subst e
  cases r
  exact assignInOrder_nil ⟨σ, H, I, h⟩
theorem pgs_cons {e : Expr} {es : List Expr} {t : TG} {u : TGs} (h1 : PG X e t) (h2 : PGs X es u)
    (hs : (assignEach (e :: es) X.env).map (·.2) = assign e X.env :: (assignEach es X.env).map (·.2) := by rfl) : PGs X (e :: es) (gCons t u) := by
  intro pins s σ H vs us Q I r h
  obtain ⟨v, vr, e1, h⟩ := h
  subst e1
  cases r with
  | cons r rr =>
    rw [hs]
    refine assignInOrder_cons (thn (h1 pins s σ H _ _ _ I r h) fun _ s1 ⟨σ1, H1, I1, q1⟩ => ?_)
    exact h2 pins s1 σ1 H1 _ _ Q I1 rr q1
/-- (a, b, ..) = a tuple of that length -/
def gTup (K : PySem.W.Frag) (n : Nat) (t : TGs) : TG := fun v σ H Q => ∃ a xs, v = .ref a ∧ SqT K H a xs ∧ xs.length = n ∧ t xs σ H Q
theorem pg_tup {es : List Expr} {k : Nat} {t : TGs} {n : Nat} (hc : X.calm = true) (h : PGs X es t)
    (hn : (assignEach es X.env).length = n := by rfl) (hst : (assignEach es X.env).findIdx? (·.1) = none := by rfl) : PG X (.Tuple es k pos) (gTup X.K n t) := by
  intro pins s σ H v u Q I r hw
  obtain ⟨a, xs, e1, hq, hl, hw⟩ := hw
  subst e1
  cases r
  obtain ⟨its, rv, ht, hz⟩ := I.tuple hq
  refine assign_Tuple_tuple (I.ok.hd hc) ht (by simp [hn, ← hl, rv.length]) hst fun h' hx => ?_
  have I1 : Inv X pins σ H { s with heap := h' } := I.kept (t' := s.toks) fun b o e => hx b o (Nat.ne_of_lt (Heap.lt_size e)) e
  exact h pins _ σ H xs _ Q I1 (by simpa using rv) hw
/-- o[i] = .. -/
def gSub (to ti : TE) (t : TSet) : TG := fun v σ H Q => to σ H fun o H1 => ti σ H1 fun i H2 => t o i v H2 fun H3 => Q σ H3
theorem pg_sub {o i : Expr} {to ti : TE} {t : TSet} (ho : PE X o to) (hi : PE X i ti) (hs : PSet X t)
    (ha : ∀ v, assign (.Subscript o i pos) X.env v = (do
      let ov ← holding [v] (eval o X.env)
      let iv ← holding [v, ov] (eval i X.env)
      standAt pos
      holding [v, ov, iv] (setItem ov iv v)
      release [v, ov, iv] []) := by intro _; rfl) : PG X (.Subscript o i pos) (gSub to ti t) := by
  intro pins s σ H v u Q I r h
  rw [ha]
  refine wpAny_bind (wpAny_holding (thn (ho pins s σ H _ I h) fun ov s1 ⟨x, H1, I1, r1, q1⟩ => ?_))
  refine wpAny_bind (wpAny_holding (thn (hi pins s1 σ H1 _ I1 q1) fun iv s2 ⟨y, H2, I2, r2, q2⟩ => ?_))
  refine wpAny_bind (wpAny_standAt (wpAny_bind (wpAny_holding (thn (hs pins s2 σ H2 x y v ov iv u _ I2 r1 r2 r q2) fun _ s3 ⟨H3, I3, q3⟩ => ?_))))
  exact wpAny_release ⟨σ, H3, I3, q3⟩
/-- target = value -/
def tAsg (te : TE) (g : TG) : TS := fun D σ H => te σ H fun x H1 => g x σ H1 D.nx
theorem ps_asg {tg e : Expr} {te : TE} {g : TG} (he : PE X e te) (hg : PG X tg g) (hs : swapsWithSole [tg] e pos.line X.env = pure false := by rfl) (hw : swappedStores [tg] e X.env = pure none := by rfl)
    (h1 : (assignEach [tg] X.env).map (·.2) = [assign tg X.env] := by rfl) : PS X (.Assign [tg] e pos) (tAsg te g) := by
  intro pins s σ H D I h
  refine wpAny_Assign_stores (thn (he pins s σ H _ I h) fun v s1 ⟨x, H1, I1, r1, q1⟩ => ?_) hs hw
  rw [h1]
  exact thn (hg pins s1 σ H1 x v _ I1 r1 q1) fun _ s2 q => q
/-- name = value -/
theorem ps_set {i : Nat} {x : Str} {e : Expr} {te : TE} {pos' : Pos} (hN : X.N.Nodup) (hi : X.N[i]? = some x) (hx : Loc X.env.scope x) (he : PE X e te) (hs : swapsWith e (some (.Name x pos')) pos.line X.env = pure false := by rfl) (hf : X.fn x = true ∨ X.env.scope.names.lookup x = some .local := by first | exact .inl rfl | exact .inr rfl | assumption) :
    PS X (.Assign [.Name x pos'] e pos) (tAsg te (gName i)) := by
  intro pins s σ H D I h
  refine wpAny_Assign_Name (thn (he pins s σ H _ I h) fun v s1 ⟨y, H1, I1, r1, q1⟩ => ?_) hs
  exact store_ok I1 hN hi hx r1 (fun s2 I2 => ⟨_, H1, I2, q1⟩) hf
/-- a, b = x, y with plain local names: stored from the right; the pair itself is not tracked (the opening rows as in PyProof/Rows/TupAssign.lean:23) -/
def tPar (i j : Nat) (ta : TA) : TS := fun D σ H => ta σ H fun vs H1 => ∃ v w, vs = [v, w] ∧ D.nx ((σ.set i (some v)).set j (some w)) H1
theorem ps_par {i j : Nat} {x y : Str} {a b : Expr} {ta : TA} {px py pt : Pos} {kt k2 pt2} (hc : X.calm = true) (hN : X.N.Nodup) (hi : X.N[i]? = some x) (hj : X.N[j]? = some y) (hij : i ≠ j)
    (hx : X.env.scope.names.lookup x = some .local) (hy : X.env.scope.names.lookup y = some .local) (ha : PA X [a, b] ta)
    (hw : swappedStores [.Tuple [.Name x px, .Name y py] kt pt] (.Tuple [a, b] k2 pt2) X.env = pure (some [x, y]))
    (hs : swapsWithSole [.Tuple [.Name x px, .Name y py] kt pt] (.Tuple [a, b] k2 pt2) pos.line X.env = pure false := by rfl) :
    PS X (.Assign [.Tuple [.Name x px, .Name y py] kt pt] (.Tuple [a, b] k2 pt2) pos) (tPar i j ta) := by
  intro pins s σ H D I h
  rw [exec_Assign_arm]
  refine wpAny_bind (wpAny_standAt ?_)
  rw [hs]
  refine wpAny_bind (wpAny_pure ?_)
  rw [if_neg (by decide)]
  refine wpAny_bind (Tuple_ (thn (ha _ pins s σ H _ I h) fun us s1 ⟨vs, H1, I1, r1, q1⟩ => ?_))
  obtain ⟨v, w, e1, q1⟩ := q1
  subst e1
  obtain ⟨u1, u2, rfl, rv, rw'⟩ : ∃ u1 u2, us = [u1, u2] ∧ RelV v u1 ∧ RelV w u2 := by
    cases r1 with
    | cons p q =>
      cases q with
      | cons p' q' =>
        cases q'
        exact ⟨_, _, rfl, p, p'⟩
  refine wpAny_newObj_type ?_ (by show 2 ≤ sizeLine; decide)
  have I2 : Inv X pins σ H1 { s1 with heap := s1.heap.push { cls := .type "tuple", data := .seq [u1, u2].toArray } } := I1.kept (t' := s1.toks) fun b o e => Heap.get?_push_of_some _ e
  rw [hw]
  refine wpAny_bind (wpAny_pure ?_)
  show wpAny (model X.prog X.w) X.A (do rule "assign.swapped-stores"; let items ← unpackItems (.ref s1.heap.objs.size) 2 none; assignInOrder [fun v => bindName X.env y v, fun v => bindName X.env x v] items.reverse; pure Flow.next) _ _ _
  refine wpAny_bind (wpAny_rule (wpAny_bind (unpackItems_tuple (items := #[u1, u2]) (I.ok.hd hc) (IsTup.new s1.heap _) fun h' hx' => ?_)))
  have I3 := I2.kept (h' := h') (t' := s1.toks) fun b o e => hx' b o (Nat.ne_of_lt (Heap.lt_size e)) e
  show wpAny _ _ (assignInOrder [fun v => bindName X.env y v, fun v => bindName X.env x v] [u2, u1] >>= fun _ => pure Flow.next) _ _ _
  refine wpAny_bind (assignInOrder_cons (wpAny_bindName (store_ok I3 hN hj (.inl hy) rw' (fun s2 I4 => ?_) (.inr hy))))
  refine assignInOrder_cons (wpAny_bindName (store_ok I4 hN hi (.inl hx) rv (fun s3 I5 => assignInOrder_nil (wpAny_pure ?_)) (.inr hx)))
  rw [List.set_comm _ _ (Ne.symm hij)] at I5
  exact ⟨_, H1, I5, q1⟩
/-- name op= e -/
def tAug (i : Nat) (te : TE) (ti : TIp) : TS := fun D σ H => ∃ x, σ[i]? = some (some x) ∧ te σ H fun y H1 => ti x y H1 fun z H2 => D.nx (σ.set i (some z)) H2
theorem ps_aug {i : Nat} {x : Str} {e : Expr} {te : TE} {op : Operator} {ti : TIp} {pos' : Pos} (hN : X.N.Nodup) (hi : X.N[i]? = some x) (hx : Loc X.env.scope x) (he : PE X e te) (ho : PIp X op ti) (hf : X.fn x = true ∨ X.env.scope.names.lookup x = some .local := by first | exact .inl rfl | exact .inr rfl | assumption) :
    PS X (.AugAssign (.Name x pos') op e pos) (tAug i te ti) := by
  intro pins s σ H D I h
  obtain ⟨v, e1, h⟩ := h
  obtain ⟨m, hn, hl⟩ := I.loc
  have vis : Vis X.env.scope x := by rcases hx with k | k; exact .inl k; exact .inr (.inl k)
  obtain ⟨u, r, l⟩ := hl i x v hi e1 vis
  refine wpAny_AugAssign_Name ?_
  have go : wpAny (model X.prog X.w) X.A (eval e X.env) (fun w s₂ => wpAny (model X.prog X.w) X.A (inplaceOp op u w) (fun r s₃ => wpAny (model X.prog X.w) X.A (storeName X.env x r) (fun _ => SP X pins D .next) X.xe s₃) X.xe s₂) X.xe s := by
    refine thn (he pins s σ H _ I h) fun w s1 ⟨y, H1, I1, r1, q1⟩ => ?_
    refine thn (ho pins s1 σ H1 v y u w _ I1 r r1 q1) fun z s2 ⟨zv, H2, I2, r2, q2⟩ => ?_
    exact store_ok I2 hN hi hx r2 (fun s3 I3 => ⟨_, H2, I3, q2⟩) hf
  rcases l with ⟨hk, hm⟩ | ⟨hk, c, hc, hcell⟩
  · exact wpAny_loadName_local I.ok.kind hk hn hm go
  · rcases hk with hk | hk
    · exact wpAny_loadName_cell I.ok.kind hk hc hcell go
    · rcases hx with k | k
      · have : X.env.scope.names.lookup x = some .free := hk
        rw [k] at this; cases this
      · have : X.env.scope.names.lookup x = some .free := hk
        rw [k] at this; cases this
/-- o[i] op= e -/
def tAugS (to ti te : TE) (tget : V → V → Hp → VK → Prop) (tip : TIp) (tset : TSet) : TS := fun D σ H => to σ H fun o H1 => ti σ H1 fun i H2 => tget o i H2 fun x H3 => te σ H3 fun y H4 => tip x y H4 fun z H5 => tset o i z H5 fun H6 => D.nx σ H6
/-- o[i], by values -/
def PGet (X : Cx) (t : V → V → Hp → VK → Prop) : Prop :=
  ∀ (pins : List (Addr × Obj)) (s : Shared) (σ : St) (H : Hp) (o i : V) (ov iv : Value) (Q : VK), Inv X pins σ H s → RelV o ov → RelV i iv → t o i H Q →
    wpAny (model X.prog X.w) X.A (getItem ov iv) (EP X pins σ Q) X.xe s
theorem ps_augS {o i e : Expr} {to ti te : TE} {tget : V → V → Hp → VK → Prop} {tip : TIp} {tset : TSet} {op : Operator} {tpos : Pos} (ho : PE X o to) (hi : PE X i ti) (hg : PGet X tget) (he : PE X e te) (hp : PIp X op tip) (hs : PSet X tset)
    (ha : ∀ ov iv new, augStore i ov iv new = (do holding [new, ov, iv] (setItem ov iv new); release [new, ov, iv] []; pure .next) := by intros; rfl) : PS X (.AugAssign (.Subscript o i tpos) op e pos) (tAugS to ti te tget tip tset) := by
  intro pins s σ H D I h
  refine wpAny_AugAssign_SubscriptAny (thn (ho pins s σ H _ I h) fun ov s1 ⟨x1, H1, I1, r1, q1⟩ => ?_) ha
  refine thn (hi pins s1 σ H1 _ I1 q1) fun iv s2 ⟨x2, H2, I2, r2, q2⟩ => ?_
  refine thn (hg pins s2 σ H2 x1 x2 ov iv _ I2 r1 r2 q2) fun old s3 ⟨x3, H3, I3, r3, q3⟩ => ?_
  refine thn (he pins s3 σ H3 _ I3 q3) fun v s4 ⟨x4, H4, I4, r4, q4⟩ => ?_
  refine thn (hp pins s4 σ H4 x3 x4 old v _ I4 r3 r4 q4) fun new s5 ⟨x5, H5, I5, r5, q5⟩ => ?_
  exact thn (hs pins s5 σ H5 x1 x2 x5 ov iv new _ I5 r1 r2 r5 q5) fun _ s6 ⟨H6, I6, q6⟩ => ⟨σ, H6, I6, q6⟩
/-- ints -/
def ipI (f : Int → Int → Int) : TIp := fun x y H Q => ∃ i j, x = .int i ∧ y = .int j ∧ Q (.int (f i j)) H
theorem ip_add : PIp X .Add (ipI fun i j => i + j) := by
  intro pins s σ H x y v u Q I r1 r2 h
  obtain ⟨i, j, e1, e2, q⟩ := h
  subst e1; subst e2
  obtain ⟨t, rfl⟩ := r1
  obtain ⟨t', rfl⟩ := r2
  exact iadd_int ⟨.int _, H, I.tok _, ⟨_, rfl⟩, q⟩
theorem ip_sub : PIp X .Sub (ipI fun i j => i - j) := by
  intro pins s σ H x y v u Q I r1 r2 h
  obtain ⟨i, j, e1, e2, q⟩ := h
  subst e1; subst e2
  obtain ⟨t, rfl⟩ := r1
  obtain ⟨t', rfl⟩ := r2
  exact isub_int ⟨.int _, H, I.tok _, ⟨_, rfl⟩, q⟩
end

/-! ### while -/
section
variable {X : Cx} {pos : Pos}
/-- the invariant W with its measure -/
def tWhile (c : TT) (tb : TS) : TS := fun D σ H => ∃ W : Nat → St → Hp → Prop, (∃ m, W m σ H) ∧ ∀ m σ H, W m σ H →
  c σ H fun b H1 => if b = true then ∃ N : St → Hp → Prop, (∀ σ' H', N σ' H' → ∃ m', m' < m ∧ W m' σ' H') ∧ tb { D with nx := N, ct := N, bk := D.nx } σ H1 else D.nx σ H1
theorem ps_while {c : Expr} {body : List Stmt} {tc : TT} {tb : TS} (hp : PassesOwn (model X.prog X.w) X.A X.env X.xe) (hc : PT X c tc) (hb : PSs X body tb) : PS X (.While c body [] pos) (tWhile tc tb) := by
  intro pins s σ H D I h
  obtain ⟨W, ⟨m0, w0⟩, turn⟩ := h
  refine wpAny_While (codeAny_whileLoop (fun n s' => ∃ σ' H', Inv X pins σ' H' s' ∧ W n σ' H') ?_ m0 ⟨σ, H, I, w0⟩)
  rintro n s1 ⟨σ1, H1, I1, w1⟩
  refine wpAny_passesOwn hp (thn (hc pins s1 σ1 H1 _ I1 (turn n σ1 H1 w1)) fun b s2 ⟨H2, I2, q2⟩ => ?_)
  cases b with
  | true =>
    obtain ⟨N, hN, q2⟩ := q2
    rw [if_pos rfl]
    refine wpAny_passesOwn hp (thn (hb pins s2 σ1 H2 _ I2 q2) fun f s3 q3 => ?_)
    cases f with
    | next =>
      obtain ⟨σ3, H3, I3, n3⟩ := q3
      obtain ⟨m', hm, w3⟩ := hN σ3 H3 n3
      exact ⟨m', hm, σ3, H3, I3, w3⟩
    | cont =>
      obtain ⟨σ3, H3, I3, n3⟩ := q3
      obtain ⟨m', hm, w3⟩ := hN σ3 H3 n3
      exact ⟨m', hm, σ3, H3, I3, w3⟩
    | brk => exact q3
    | ret v => exact q3
  | false =>
    rw [if_neg Bool.false_ne_true]
    exact wpAny_execs_nil ⟨σ1, H2, I2, q2⟩
end

/-! ### what a loop or a comprehension walks -/
/-- at turn i: it yields x (the heap may grow), or it stops -/
structure It where
  go : Nat → Hp → Prop
  yld : Nat → Hp → V → Hp → Prop
  stop : Nat → Hp → Prop
/-- the iterator's own objects may turn: they are not the frame's, not pinned, younger than the entry (or a comprehension's own) -/
def FpOk (X : Cx) (pins : List (Addr × Obj)) (H : Hp) (b : Addr) : Prop :=
  H b = none ∧ b ≠ X.env.locals ∧ b ∉ X.fs ∧ (b ∈ X.ex ∨ X.s₀.heap.objs.size ≤ b) ∧ (∀ x c, X.env.cells.lookup x = some c → c ≠ b) ∧ ∀ p ∈ X.pn ++ pins, p.1 ≠ b
theorem Inv.fpOk {X : Cx} {pins : List (Addr × Obj)} {σ : St} {H H' : Hp} {s : Shared} {b : Addr} (I : Inv X pins σ H s) (hb : s.heap.objs.size ≤ b) (hn : H' b = none) : FpOk X pins H' b := by
  refine ⟨hn, Nat.ne_of_gt (Nat.lt_of_lt_of_le I.lt hb), I.nofs hb, .inr (Nat.le_trans I.sz hb), fun x c e z => ?_, fun p hp z => ?_⟩
  · obtain ⟨v, q⟩ := I.cell x c e
    exact absurd (Nat.lt_of_lt_of_le q.lt (by rw [z]; exact hb)) (Nat.lt_irrefl _)
  · exact absurd (Nat.lt_of_lt_of_le (Heap.lt_size (I.pin p hp).1) (by rw [z]; exact hb)) (Nat.lt_irrefl _)
structure Turn (P : Program) (w : World) (K : PySem.W.Frag) (tg : Expr) (J : It) (fp : List Addr) (it : Addr) (tn : Nat → Heap → Prop) : Prop where
  mem : it ∈ fp
  obj : ∀ i h, tn i h → ∀ b ∈ fp, ∃ o, h.get? b = some o ∧ ∀ v, o.data ≠ .cell v
  keep : ∀ i h h', tn i h → (∀ b ∈ fp, ∀ o, h.get? b = some o → h'.get? b = some o) → tn i h'
  item : ∀ (X : Cx), X.prog = P → X.w = w → X.K = K → X.calm = true → ∀ (i : Nat) (pins : List (Addr × Obj)) (s : Shared) (σ : St) (H : Hp) (E : Value → Shared → Prop), Inv X pins σ H s → (∀ b ∈ fp, FpOk X pins H b) → tn i s.heap → J.go i H →
    wpAny (model P w) X.A (pyNext (.ref it)) (fun r s1 => ∃ u, r = some u ∧
      wpAny (model P w) X.A (letOwnedTupleGo tg (.ref it) u) (fun _ s2 => ∃ x H', Inv X pins σ H' s2 ∧ RelV x u ∧ J.yld i H x H' ∧ tn (i + 1) s2.heap ∧ ∀ b ∈ fp, H' b = none) E s1) E s
  done : ∀ (X : Cx), X.prog = P → X.w = w → X.K = K → X.calm = true → ∀ (i : Nat) (pins : List (Addr × Obj)) (s : Shared) (σ : St) (H : Hp) (E : Value → Shared → Prop), Inv X pins σ H s → (∀ b ∈ fp, FpOk X pins H b) → tn i s.heap → J.stop i H →
    wpAny (model P w) X.A (pyNext (.ref it)) (fun r s1 => r = none ∧ Inv X pins σ H s1) E s
  self : ∀ (A : Around) (i : Nat) (s : Shared) (Q : Value → Shared → Prop) (E : Value → Shared → Prop), tn i s.heap → Q (.ref it) s → wpAny (model P w) A (pyIter (.ref it)) Q E s
abbrev TI := St → Hp → (It → Hp → Prop) → Prop
/-- an iterator has come -/
def PIE (X : Cx) (pins : List (Addr × Obj)) (σ : St) (tg : Expr) (R : It → Hp → Prop) (itv : Value) (s2 : Shared) : Prop :=
  ∃ (it : Addr) (fp : List Addr) (tn : Nat → Heap → Prop) (J : It) (H' : Hp), itv = .ref it ∧ Inv X pins σ H' s2 ∧ Turn X.prog X.w X.K tg J fp it tn ∧ tn 0 s2.heap ∧ (∀ b ∈ fp, FpOk X pins H' b) ∧ R J H'
def PI (X : Cx) (tg iter : Expr) (wi : TI) : Prop :=
  ∀ (pins : List (Addr × Obj)) (s : Shared) (σ : St) (H : Hp) (R : It → Hp → Prop), Inv X pins σ H s → wi σ H R →
    wpAny (model X.prog X.w) X.A (eval iter X.env) (fun v s1 => wpAny (model X.prog X.w) X.A (pyIter v) (PIE X pins σ tg R) X.xe s1) X.xe s

/-- the step ahead of the store is nothing for an iterator that keeps no tuple -/
theorem go_of {M : Model} {A : Around} {E : Value → Shared → Prop} {s : Shared} {tg : Expr} {it : Addr} {u : Value} {o : Obj} {n : String} {vs : Array Value} {Q : Unit → Shared → Prop} (ho : s.heap.get? it = some o) (hc : o.cls = .type n) (hd : o.data = .fields vs)
    (hn : ["enumerate", "zip", "dict_itemiterator", "dict_reverseitemiterator", "odict_iterator", "itertools.zip_longest", "itertools.pairwise"].contains n = false) (hQ : Q () s) : wpAny M A (letOwnedTupleGo tg (.ref it) u) Q E s := by
  unfold letOwnedTupleGo
  cases tg <;> first
    | exact wpAny_pure hQ
    | (cases u <;> first
        | exact wpAny_pure hQ
        | (refine wpAny_bind (wpAny_load ho ?_)
           rw [hc, hd]
           show wpAny M A (if (["enumerate", "zip", "dict_itemiterator", "dict_reverseitemiterator", "odict_iterator", "itertools.zip_longest", "itertools.pairwise"].contains n && vs[0]? == some (rawInt _)) = true then _ else _) Q E s
           rw [if_neg (by intro h; rw [hn, Bool.false_and] at h; cases h)]
           exact wpAny_pure hQ))

/-- the list at a, as it stands at each turn (a loop may append to it) -/
def Itl (K : PySem.W.Frag) (a : Addr) : It :=
  ⟨fun i H => ∃ xs x, SqL K H a xs ∧ xs[i]? = some x, fun i H x H' => H' = H ∧ ∀ xs, SqL K H a xs → xs[i]? = some x, fun i H => ∃ xs, SqL K H a xs ∧ xs.length ≤ i⟩
def Itt (K : PySem.W.Frag) (a : Addr) : It :=
  ⟨fun i H => ∃ xs x, SqT K H a xs ∧ xs[i]? = some x, fun i H x H' => H' = H ∧ ∀ xs, SqT K H a xs → xs[i]? = some x, fun i H => ∃ xs, SqT K H a xs ∧ xs.length ≤ i⟩
/-- lo, lo + 1, .. (n of them) -/
def Itr (lo : Int) (n : Nat) : It := ⟨fun i _ => i < n, fun i H x H' => H' = H ∧ x = .int (lo + i), fun i _ => n ≤ i⟩
theorem turn_list {P : Program} {w : World} {K : PySem.W.Frag} {tg : Expr} (a it : Addr) : Turn P w K tg (Itl K a) [it] it (fun i h => h.IsListIter it a i) where
  mem := by simp
  obj := fun i h st b hb => by
    have e : b = it := by simpa using hb
    subst e
    obtain ⟨o, e, c, d⟩ := st
    exact ⟨o, e, fun v z => by rw [d] at z; cases z⟩
  keep := fun i h h' st k => st.at fun o e => k it (by simp) o e
  item := by
    intro X hP hw hK hc i pins s σ H E I hf st hg
    subst hP hw hK
    obtain ⟨xs, x, hq, hx⟩ := hg
    obtain ⟨its, rv, p, hz⟩ := I.list hq
    obtain ⟨u, hu, ru⟩ := rv.get hx
    obtain ⟨f0, f1, f2, f3, f4, f5⟩ := hf it (by simp)
    refine wpAny_pyNext_list_item st p.isList (x := u) (by simpa using hu) fun h' st' sb => ?_
    have I1 : Inv X pins σ H { s with heap := h' } := I.turned (t' := s.toks) (fun b o hb e => (sb.2 b hb).trans e) f0 f1 f3 f4 f5
    obtain ⟨o, e, c, d⟩ := id st'
    exact ⟨u, rfl, go_of (s := { s with heap := h' }) e c d (by decide) ⟨x, H, I1, ru, ⟨rfl, fun ys hy => by rw [I.list_inj hy hq]; exact hx⟩, st', fun b hb => (hf b hb).1⟩⟩
  done := by
    intro X hP hw hK hc i pins s σ H E I hf st hg
    subst hP hw hK
    obtain ⟨xs, hq, hx⟩ := hg
    obtain ⟨its, rv, p, hz⟩ := I.list hq
    obtain ⟨f0, f1, f2, f3, f4, f5⟩ := hf it (by simp)
    have hl := rv.length
    exact wpAny_pyNext_list_end (I.ok.hd hc) st p.isList (by simp; omega) fun h' eb => ⟨rfl, I.turned (t' := s.toks) (fun b o hb e => eb b o hb e) f0 f1 f3 f4 f5⟩
  self := fun _ _ _ _ _ st h => wpAny_pyIter_listiter st h
theorem turn_tuple {P : Program} {w : World} {K : PySem.W.Frag} {tg : Expr} (a it : Addr) : Turn P w K tg (Itt K a) [it] it (fun i h => h.IsTupleIter it a i) where
  mem := by simp
  obj := fun i h st b hb => by
    have e : b = it := by simpa using hb
    subst e
    obtain ⟨o, e, c, d⟩ := st
    exact ⟨o, e, fun v z => by rw [d] at z; cases z⟩
  keep := fun i h h' st k => st.at fun o e => k it (by simp) o e
  item := by
    intro X hP hw hK hc i pins s σ H E I hf st hg
    subst hP hw hK
    obtain ⟨xs, x, hq, hx⟩ := hg
    obtain ⟨its, rv, p, hz⟩ := I.tuple hq
    obtain ⟨u, hu, ru⟩ := rv.get hx
    obtain ⟨f0, f1, f2, f3, f4, f5⟩ := hf it (by simp)
    refine wpAny_pyNext_tuple_item st (show s.heap.IsTuple a its.toArray from p) (x := u) (by simpa using hu) fun h' st' sb => ?_
    have I1 : Inv X pins σ H { s with heap := h' } := I.turned (t' := s.toks) (fun b o hb e => (sb.2 b hb).trans e) f0 f1 f3 f4 f5
    obtain ⟨o, e, c, d⟩ := id st'
    exact ⟨u, rfl, go_of (s := { s with heap := h' }) e c d (by decide) ⟨x, H, I1, ru, ⟨rfl, fun ys hy => by rw [I.tuple_inj hy hq]; exact hx⟩, st', fun b hb => (hf b hb).1⟩⟩
  done := by
    intro X hP hw hK hc i pins s σ H E I hf st hg
    subst hP hw hK
    obtain ⟨xs, hq, hx⟩ := hg
    obtain ⟨its, rv, p, hz⟩ := I.tuple hq
    obtain ⟨f0, f1, f2, f3, f4, f5⟩ := hf it (by simp)
    have hl := rv.length
    exact wpAny_pyNext_tuple_end (I.ok.hd hc) st (show s.heap.IsTuple a its.toArray from p) (by simp; omega) fun h' eb => ⟨rfl, I.turned (t' := s.toks) (fun b o hb e => eb b o hb e) f0 f1 f3 f4 f5⟩
  self := fun _ _ _ _ _ st h => wpAny_pyIter_tupleiter st h
theorem turn_range {P : Program} {w : World} {K : PySem.W.Frag} {tg : Expr} (it : Addr) (lo : Int) (n : Nat) : Turn P w K tg (Itr lo n) [it] it (fun i h => IsRangeIter h it (lo + (i : Nat) * 1) ((n : Int) - (i : Nat)) 1) where
  mem := by simp
  obj := fun i h st b hb => by
    have e : b = it := by simpa using hb
    subst e
    exact ⟨_, st, fun v z => by
      have z' : Data.fields _ = Data.cell v := z
      cases z'⟩
  keep := fun i h h' st k => k it (by simp) _ st
  item := by
    intro X hP hw hK hc i pins s σ H E I hf st hg
    subst hP hw hK
    obtain ⟨f0, f1, f2, f3, f4, f5⟩ := hf it (by simp)
    have W := Walks.range (prog := X.prog) (w := X.w) (I.ok.hd hc) it lo 1 n
    refine W.item i s _ _ hg st fun v h' tk hv st' kk => ?_
    obtain ⟨t, rfl⟩ := hv
    have I1 : Inv X pins σ H { s with heap := h', toks := tk } := I.turned (fun b o hb e => kk b o (by simpa using hb) e) f0 f1 f3 f4 f5
    refine ⟨_, rfl, go_of (s := { s with heap := h', toks := tk }) (n := "range_iterator") st' rfl rfl (by decide) ⟨.int (lo + i), H, I1, ⟨t, ?_⟩, ⟨rfl, rfl⟩, st', fun b hb => (hf b hb).1⟩⟩
    rw [Int.mul_one]
  done := by
    intro X hP hw hK hc i pins s σ H E I hf st hg
    subst hP hw hK
    obtain ⟨f0, f1, f2, f3, f4, f5⟩ := hf it (by simp)
    exact wpAny_pyNext_range_end (I.ok.hd hc) st (by have : n ≤ i := hg; omega) fun h' eb => ⟨rfl, I.turned (t' := s.toks) (fun b o hb e => eb b o hb e) f0 f1 f3 f4 f5⟩
  self := fun _ _ _ _ _ st h => wpAny_pyIter_rangeiter st h
end L2

namespace L2
open PySem PySem.Spec PyProof.Rows
section
variable {X : Cx} {tg : Expr}
def iList (K : PySem.W.Frag) (tl : TE) : TI := fun σ H R => tl σ H fun x H1 => ∃ a, x = .ref a ∧ (∃ xs, SqL K H1 a xs) ∧ R (Itl K a) H1
def iTup (K : PySem.W.Frag) (tl : TE) : TI := fun σ H R => tl σ H fun x H1 => ∃ a, x = .ref a ∧ (∃ xs, SqT K H1 a xs) ∧ R (Itt K a) H1
theorem pi_list {l : Expr} {tl : TE} (hl : PE X l tl) : PI X tg l (iList X.K tl) := by
  intro pins s σ H R I h
  refine thn (hl pins s σ H _ I h) fun v s1 ⟨x, H1, I1, r1, q1⟩ => ?_
  obtain ⟨a, e, ⟨xs, hq⟩, q⟩ := q1
  subst e
  cases r1
  obtain ⟨its, rv, p, hz⟩ := I1.list hq
  refine wpAny_pyIter_list p.isList ?_
  refine ⟨s1.heap.objs.size, [s1.heap.objs.size], _, _, H1, rfl, I1.kept (t' := s1.toks) fun b o e => Heap.get?_push_of_some _ e, turn_list a _, ⟨_, Heap.get?_push_size _ rfl, rfl, rfl⟩, fun b hb => ?_, q⟩
  have e : b = s1.heap.objs.size := by simpa using hb
  subst e
  exact I1.fpOk (Nat.le_refl _) (I1.hok.fresh (Nat.le_refl _))
theorem pi_tup {l : Expr} {tl : TE} (hl : PE X l tl) : PI X tg l (iTup X.K tl) := by
  intro pins s σ H R I h
  refine thn (hl pins s σ H _ I h) fun v s1 ⟨x, H1, I1, r1, q1⟩ => ?_
  obtain ⟨a, e, ⟨xs, hq⟩, q⟩ := q1
  subst e
  cases r1
  obtain ⟨its, rv, p, hz⟩ := I1.tuple hq
  refine wpAny_pyIter_tuple (show s1.heap.IsTuple a its.toArray from p) ?_
  refine ⟨s1.heap.objs.size, [s1.heap.objs.size], _, _, H1, rfl, I1.kept (t' := s1.toks) fun b o e => Heap.get?_push_of_some _ e, turn_tuple a _, ⟨_, Heap.get?_push_size _ rfl, rfl, rfl⟩, fun b hb => ?_, q⟩
  have e : b = s1.heap.objs.size := by simpa using hb
  subst e
  exact I1.fpOk (Nat.le_refl _) (I1.hok.fresh (Nat.le_refl _))
/-- a range object just made, walked -/
theorem range_it {pins : List (Addr × Obj)} {σ : St} {H : Hp} {s : Shared} {R : It → Hp → Prop} {E : Value → Shared → Prop} {lo hi : Int} {t u v : Tok} {tk : Nat} (I : Inv X pins σ H s) (h1 : -(2 ^ 62) ≤ lo) (h2 : lo < 2 ^ 62) (h3 : -(2 ^ 62) ≤ hi) (h4 : hi < 2 ^ 62)
    (q : R (Itr lo (hi - lo).toNat) H) : wpAny (model X.prog X.w) X.A (pyIter (.ref s.heap.objs.size)) (PIE X pins σ tg R) E { s with heap := s.heap.push { cls := .type "range", data := .fields #[.int lo t, .int hi u, .int 1 v] }, toks := tk } := by
  refine wpAny_pyIter_range (IsRange.new ..) (small_one h1 h2 h3 h4) ?_
  have I1 : Inv X pins σ H { s with heap := s.heap.push { cls := .type "range", data := .fields #[.int lo t, .int hi u, .int 1 v] }, toks := tk } := I.kept fun b o e => Heap.get?_push_of_some _ e
  refine ⟨(s.heap.push { cls := .type "range", data := .fields #[.int lo t, .int hi u, .int 1 v] }).objs.size, [(s.heap.push { cls := .type "range", data := .fields #[.int lo t, .int hi u, .int 1 v] }).objs.size], _, _, H, rfl,
    I1.kept (t' := tk) fun b o e => Heap.get?_push_of_some _ e, turn_range _ lo (hi - lo).toNat, ?_, fun b hb => ?_, q⟩
  · have e1 : lo + ((0 : Nat) : Int) * 1 = lo := by simp
    have e2 : (((hi - lo).toNat : Nat) : Int) - ((0 : Nat) : Int) = Builtin.Range.rangeSize lo hi 1 := by rw [rangeSize_one]; split <;> omega
    show IsRangeIter _ _ (lo + ((0 : Nat) : Int) * 1) ((((hi - lo).toNat : Nat) : Int) - ((0 : Nat) : Int)) 1
    rw [e1, e2]
    exact Heap.get?_push_size _ rfl
  · have e : b = (s.heap.push { cls := .type "range", data := .fields #[.int lo t, .int hi u, .int 1 v] }).objs.size := by simpa using hb
    subst e
    exact I1.fpOk (Nat.le_refl _) (I1.hok.fresh (Nat.le_refl _))
def iRng1 (ta : TA) : TI := fun σ H R => ta σ H fun vs H1 => ∃ j : Int, vs = [.int j] ∧ -(2 ^ 62) ≤ j ∧ j < 2 ^ 62 ∧ R (Itr 0 j.toNat) H1
def iRng2 (ta : TA) : TI := fun σ H R => ta σ H fun vs H1 => ∃ i j : Int, vs = [.int i, .int j] ∧ (-(2 ^ 62) ≤ i ∧ i < 2 ^ 62 ∧ -(2 ^ 62) ≤ j ∧ j < 2 ^ 62) ∧ R (Itr i (j - i).toNat) H1
theorem pi_range1 {a : Expr} {ta : TA} {p pos : Pos} (hg : Gl X "range") (hm : X.mg "range" = none) (ha : PA X [a] ta) (hs : starEach [a] X.env = [(false, eval a X.env)] := by rfl) : PI X tg (.Call (.Name "range" p) [a] [] pos) (iRng1 ta) := by
  intro pins s σ H R I h
  refine Call_ (ld_blt I hg hm boot_range (PyProof.Rows.callWith_type1 (thn (ha pos pins s σ H _ I h) fun us s1 ⟨vs, H1, I1, r1, q1⟩ => ?_) hs rfl))
  obtain ⟨j, e, q1, q2, q⟩ := q1
  subst e
  cases r1 with
  | cons r rr =>
    cases rr
    obtain ⟨t, rfl⟩ := r
    exact call_range_1 (range_it I1 (by omega) (by omega) q1 q2 (by simpa using q))
theorem pi_range2 {a b : Expr} {ta : TA} {p pos : Pos} (hg : Gl X "range") (hm : X.mg "range" = none) (ha : PA X [a, b] ta) (hs : starEach [a, b] X.env = [(false, eval a X.env), (false, eval b X.env)] := by rfl) (hs2 : starEach [b] X.env = [(false, eval b X.env)] := by rfl) :
    PI X tg (.Call (.Name "range" p) [a, b] [] pos) (iRng2 ta) := by
  intro pins s σ H R I h
  refine Call_ (ld_blt I hg hm boot_range (PyProof.Rows.callWith_type1 (thn (ha pos pins s σ H _ I h) fun us s1 ⟨vs, H1, I1, r1, q1⟩ => ?_) (by rw [hs, hs2]) (by rw [hs2]; rfl)))
  obtain ⟨i, j, e, ⟨q1, q2, q3, q4⟩, q⟩ := q1
  subst e
  cases r1 with
  | cons r rr =>
    cases rr with
    | cons r' rr =>
      cases rr
      obtain ⟨t, rfl⟩ := r
      obtain ⟨t', rfl⟩ := r'
      exact call_range_2 (range_it I1 q1 q2 q3 q4 q)

/-! ### for -/
/-- W: the invariant by the turn and a measure; N: what the body is to reach -/
def tFor (wi : TI) (g : TG) (tb : TS) : TS := fun D σ H => wi σ H fun J H1 => ∃ W : Nat → Nat → St → Hp → Prop, (∃ m, W 0 m σ H1) ∧ ∀ i m σ H, W i m σ H →
  (J.stop i H ∧ D.nx σ H) ∨ (J.go i H ∧ ∃ N : St → Hp → Prop, (∀ σ' H', N σ' H' → ∃ m', m' < m ∧ W (i + 1) m' σ' H') ∧ ∀ x H', J.yld i H x H' → g x σ H' fun σ2 H2 => tb { D with nx := N, ct := N, bk := D.nx } σ2 H2)
/-- the records at fp as they stand -/
def pinsAt (fp : List Addr) (h : Heap) : List (Addr × Obj) := fp.filterMap fun b => (h.get? b).map fun o => (b, o)
theorem mem_pinsAt {fp : List Addr} {h : Heap} {b : Addr} {o : Obj} (hb : b ∈ fp) (e : h.get? b = some o) : (b, o) ∈ pinsAt fp h := List.mem_filterMap.mpr ⟨b, hb, by rw [e]; rfl⟩
theorem of_pinsAt {fp : List Addr} {h : Heap} {p : Addr × Obj} (hp : p ∈ pinsAt fp h) : p.1 ∈ fp ∧ h.get? p.1 = some p.2 := by
  obtain ⟨b, hb, e⟩ := List.mem_filterMap.mp hp
  cases q : h.get? b with
  | none => rw [q] at e; cases e
  | some o =>
    rw [q] at e
    have e' : (b, o) = p := Option.some.inj e
    subst e'
    exact ⟨hb, q⟩
theorem Inv.pinned {pins : List (Addr × Obj)} {σ : St} {H : Hp} {s : Shared} {fp : List Addr} (I : Inv X pins σ H s) (hf : ∀ b ∈ fp, FpOk X pins H b) (ho : ∀ b ∈ fp, ∃ o, s.heap.get? b = some o ∧ ∀ v, o.data ≠ .cell v) : Inv X (pins ++ pinsAt fp s.heap) σ H s :=
  I.pins_of fun p hp => (List.mem_append.mp hp).elim (fun z => I.pin p (List.mem_append_right _ z)) fun z => by
    obtain ⟨hb, e⟩ := of_pinsAt z
    obtain ⟨f0, f1, f2, _⟩ := hf p.1 hb
    obtain ⟨o, e', d⟩ := ho p.1 hb
    rw [e] at e'; cases e'
    exact ⟨e, f0, f1, f2, d⟩
theorem Inv.unpinned {pins pl : List (Addr × Obj)} {σ : St} {H : Hp} {s : Shared} (I : Inv X (pins ++ pl) σ H s) : Inv X pins σ H s := I.pins_of fun p hp => I.pin p (List.mem_append_right _ (List.mem_append_left _ hp))
theorem ps_for {iter : Expr} {body : List Stmt} {wi : TI} {g : TG} {tb : TS} {pos : Pos} (hp : PassesOwn (model X.prog X.w) X.A X.env X.xe) (hc : X.calm = true) (hi : PI X tg iter wi) (hg : PG X tg g) (hb : PSs X body tb)
    (hs : ∀ x, foldedSetIterable iter X.env x = pure x := by intro _; rfl) : PS X (.For tg iter body [] pos) (tFor wi g tb) := by
  intro pins s σ H D I h
  refine wpAny_For (thn (hi pins s σ H _ I h) fun v s1 h1 => thn h1 fun itv s2 h2 => ?_) hs
  obtain ⟨it, fp, tn, J, H2, e, I2, T, st2, f2, W, ⟨m0, w0⟩, turn⟩ := h2
  subst e
  -- what stays true of the iterator's objects through the loop
  have stat : ∀ {H' : Hp}, (∀ b ∈ fp, H' b = none) → ∀ b ∈ fp, FpOk X pins H' b := fun hn b hb => ⟨hn b hb, (f2 b hb).2⟩
  refine codeAny_forLoop_any (fun n s' => ∃ i σ' H', Inv X pins σ' H' s' ∧ tn i s'.heap ∧ (∀ b ∈ fp, H' b = none) ∧ W i n σ' H') ?_ m0 ⟨0, σ, H2, I2, st2, fun b hb => (f2 b hb).1, w0⟩
  rintro n s3 ⟨i, σ3, H3, I3, st3, fr3, w3⟩
  rcases turn i n σ3 H3 w3 with ⟨stop, qn⟩ | ⟨go, N, hN, step⟩
  · refine wpAny_passesOwn hp (thn (T.done X rfl rfl rfl hc i pins s3 σ3 H3 X.xe I3 (stat fr3) st3 stop) fun r s4 ⟨hr, I4⟩ => ?_)
    subst hr
    exact wpAny_execs_nil ⟨σ3, H3, I4, qn⟩
  · refine wpAny_passesOwn hp (thn (T.item X rfl rfl rfl hc i pins s3 σ3 H3 X.xe I3 (stat fr3) st3 go) fun r s4 ⟨u, hr, h4⟩ => ?_)
    subst hr
    refine wpAny_passesOwn hp (thn h4 fun _ s5 ⟨x, H5, I5, r5, y5, st5, fr5⟩ => ?_)
    have I5' := I5.pinned (stat fr5) (T.obj _ _ st5)
    refine wpAny_passesOwn hp (thn (hg _ s5 σ3 H5 x u _ I5' r5 (step x H5 y5)) fun _ s6 ⟨σ6, H6, I6, q6⟩ => ?_)
    refine wpAny_passesOwn hp (thn (hb _ s6 σ6 H6 _ I6 q6) fun f s7 q7 => ?_)
    have again : ∀ {σ7 : St} {H7 : Hp}, Inv X (pins ++ pinsAt fp s5.heap) σ7 H7 s7 → N σ7 H7 → ∃ m, m < n ∧ ∃ i σ' H', Inv X pins σ' H' s7 ∧ tn i s7.heap ∧ (∀ b ∈ fp, H' b = none) ∧ W i m σ' H' := fun {σ7 H7} I7 n7 => by
      obtain ⟨m', hm, w7⟩ := hN σ7 H7 n7
      refine ⟨m', hm, i + 1, σ7, H7, I7.unpinned, T.keep _ _ _ st5 fun b hb o e => (I7.pin (b, o) (List.mem_append_right _ (List.mem_append_right _ (mem_pinsAt hb e)))).1, fun b hb => ?_, w7⟩
      obtain ⟨o, e, d⟩ := T.obj _ _ st5 b hb
      exact (I7.pin (b, o) (List.mem_append_right _ (List.mem_append_right _ (mem_pinsAt hb e)))).2.1
    cases f with
    | next => obtain ⟨σ7, H7, I7, n7⟩ := q7; exact again I7 n7
    | cont => obtain ⟨σ7, H7, I7, n7⟩ := q7; exact again I7 n7
    | brk => obtain ⟨σ7, H7, I7, q7⟩ := q7; exact ⟨σ7, H7, I7.unpinned, q7⟩
    | ret v => obtain ⟨x7, σ7, H7, I7, r7, q7⟩ := q7; exact ⟨x7, σ7, H7, I7.unpinned, r7, q7⟩
end

/-! ### the forms one uses -/
/-- over a list that the body leaves as it is -/
theorem for_list {K : PySem.W.Frag} {a : Addr} {xs : List V} {g : TG} {tb : TS} {D : Ends} {σ : St} {H : Hp} (Pv : Nat → St → Hp → Prop) (h0 : Pv 0 σ H) (hl : ∀ i σ H, i ≤ xs.length → Pv i σ H → SqL K H a xs)
    (hs : ∀ i x σ H, xs[i]? = some x → Pv i σ H → g x σ H fun σ2 H2 => tb { D with nx := Pv (i + 1), ct := Pv (i + 1), bk := D.nx } σ2 H2) (hd : ∀ σ H, Pv xs.length σ H → D.nx σ H) :
    ∃ W : Nat → Nat → St → Hp → Prop, (∃ m, W 0 m σ H) ∧ ∀ i m σ H, W i m σ H →
      ((Itl K a).stop i H ∧ D.nx σ H) ∨ ((Itl K a).go i H ∧ ∃ N : St → Hp → Prop, (∀ σ' H', N σ' H' → ∃ m', m' < m ∧ W (i + 1) m' σ' H') ∧ ∀ x H', (Itl K a).yld i H x H' → g x σ H' fun σ2 H2 => tb { D with nx := N, ct := N, bk := D.nx } σ2 H2) := by
  refine ⟨fun i m σ H => m = xs.length - i ∧ i ≤ xs.length ∧ Pv i σ H, ⟨xs.length, by simp, Nat.zero_le _, h0⟩, ?_⟩
  rintro i m σ H ⟨rfl, hi, p⟩
  have q := hl i σ H hi p
  by_cases hlt : i < xs.length
  · refine .inr ⟨⟨xs, xs[i], q, by simp [hlt]⟩, Pv (i + 1), fun σ' H' p' => ⟨xs.length - (i + 1), by omega, rfl, hlt, p'⟩, fun x H' y => ?_⟩
    obtain ⟨e, y⟩ := y
    subst e
    exact hs i x σ _ (y xs q) p
  · have e : i = xs.length := by omega
    subst e
    exact .inl ⟨⟨xs, q, Nat.le_refl _⟩, hd σ H p⟩
theorem for_tup {K : PySem.W.Frag} {a : Addr} {xs : List V} {g : TG} {tb : TS} {D : Ends} {σ : St} {H : Hp} (Pv : Nat → St → Hp → Prop) (h0 : Pv 0 σ H) (hl : ∀ i σ H, i ≤ xs.length → Pv i σ H → SqT K H a xs)
    (hs : ∀ i x σ H, xs[i]? = some x → Pv i σ H → g x σ H fun σ2 H2 => tb { D with nx := Pv (i + 1), ct := Pv (i + 1), bk := D.nx } σ2 H2) (hd : ∀ σ H, Pv xs.length σ H → D.nx σ H) :
    ∃ W : Nat → Nat → St → Hp → Prop, (∃ m, W 0 m σ H) ∧ ∀ i m σ H, W i m σ H →
      ((Itt K a).stop i H ∧ D.nx σ H) ∨ ((Itt K a).go i H ∧ ∃ N : St → Hp → Prop, (∀ σ' H', N σ' H' → ∃ m', m' < m ∧ W (i + 1) m' σ' H') ∧ ∀ x H', (Itt K a).yld i H x H' → g x σ H' fun σ2 H2 => tb { D with nx := N, ct := N, bk := D.nx } σ2 H2) := by
  refine ⟨fun i m σ H => m = xs.length - i ∧ i ≤ xs.length ∧ Pv i σ H, ⟨xs.length, by simp, Nat.zero_le _, h0⟩, ?_⟩
  rintro i m σ H ⟨rfl, hi, p⟩
  have q := hl i σ H hi p
  by_cases hlt : i < xs.length
  · refine .inr ⟨⟨xs, xs[i], q, by simp [hlt]⟩, Pv (i + 1), fun σ' H' p' => ⟨xs.length - (i + 1), by omega, rfl, hlt, p'⟩, fun x H' y => ?_⟩
    obtain ⟨e, y⟩ := y
    subst e
    exact hs i x σ _ (y xs q) p
  · have e : i = xs.length := by omega
    subst e
    exact .inl ⟨⟨xs, q, Nat.le_refl _⟩, hd σ H p⟩
theorem for_range {lo : Int} {n : Nat} {g : TG} {tb : TS} {D : Ends} {σ : St} {H : Hp} (Pv : Nat → St → Hp → Prop) (h0 : Pv 0 σ H)
    (hs : ∀ i σ H, i < n → Pv i σ H → g (.int (lo + i)) σ H fun σ2 H2 => tb { D with nx := Pv (i + 1), ct := Pv (i + 1), bk := D.nx } σ2 H2) (hd : ∀ σ H, Pv n σ H → D.nx σ H) :
    ∃ W : Nat → Nat → St → Hp → Prop, (∃ m, W 0 m σ H) ∧ ∀ i m σ H, W i m σ H →
      ((Itr lo n).stop i H ∧ D.nx σ H) ∨ ((Itr lo n).go i H ∧ ∃ N : St → Hp → Prop, (∀ σ' H', N σ' H' → ∃ m', m' < m ∧ W (i + 1) m' σ' H') ∧ ∀ x H', (Itr lo n).yld i H x H' → g x σ H' fun σ2 H2 => tb { D with nx := N, ct := N, bk := D.nx } σ2 H2) := by
  refine ⟨fun i m σ H => m = n - i ∧ i ≤ n ∧ Pv i σ H, ⟨n, by simp, Nat.zero_le _, h0⟩, ?_⟩
  rintro i m σ H ⟨rfl, hi, p⟩
  by_cases hlt : i < n
  · refine .inr ⟨hlt, Pv (i + 1), fun σ' H' p' => ⟨n - (i + 1), by omega, rfl, hlt, p'⟩, fun x H' y => ?_⟩
    obtain ⟨e, y⟩ := y
    subst e y
    exact hs i σ _ hlt p
  · have e : i = n := by omega
    subst e
    exact .inl ⟨Nat.le_refl _, hd σ H p⟩
/-- while, by a word and a measure of the state -/
theorem while_by {c : TT} {tb : TS} {D : Ends} {σ : St} {H : Hp} (Pv : St → Hp → Prop) (μ : St → Hp → Nat) (h0 : Pv σ H)
    (hs : ∀ σ H, Pv σ H → c σ H fun b H1 => if b = true then tb { D with nx := fun σ' H' => Pv σ' H' ∧ μ σ' H' < μ σ H, ct := fun σ' H' => Pv σ' H' ∧ μ σ' H' < μ σ H, bk := D.nx } σ H1 else D.nx σ H1)
    (mono : ∀ σ H Q Q', (∀ b H1, Q b H1 → Q' b H1) → c σ H Q → c σ H Q') : tWhile c tb D σ H := by
  refine ⟨fun m σ H => m = μ σ H ∧ Pv σ H, ⟨_, rfl, h0⟩, ?_⟩
  rintro m σ H ⟨rfl, p⟩
  refine mono σ H _ _ (fun b H1 q => ?_) (hs σ H p)
  cases b with
  | true => exact ⟨_, fun σ' H' ⟨p', l⟩ => ⟨_, l, rfl, p'⟩, q⟩
  | false => exact q
end L2

namespace L2
open PySem PySem.Spec PyProof.Rows

abbrev R2 := V → V → Hp → VK → Prop
/-- a two-place operation on values: f is binaryOp op, inplaceOp op or compareOp op -/
def OpR (X : Cx) (f : Value → Value → Sem Value) (r : R2) : Prop :=
  ∀ (pins : List (Addr × Obj)) (s : Shared) (σ : St) (H : Hp) (x y : V) (v u : Value) (Q : VK), Inv X pins σ H s → RelV x v → RelV y u → r x y H Q →
    wpAny (model X.prog X.w) X.A (f v u) (EP X pins σ Q) X.xe s
/-- a one-place operation -/
def UnR (X : Cx) (f : Value → Sem Value) (r : V → Hp → VK → Prop) : Prop :=
  ∀ (pins : List (Addr × Obj)) (s : Shared) (σ : St) (H : Hp) (x : V) (v : Value) (Q : VK), Inv X pins σ H s → RelV x v → r x H Q →
    wpAny (model X.prog X.w) X.A (f v) (EP X pins σ Q) X.xe s
/-- a call of a value that is known (a builtin, a type) with values -/
def CallR (X : Cx) (f : Value) (r : List V → Hp → VK → Prop) : Prop :=
  ∀ (pins : List (Addr × Obj)) (s : Shared) (σ : St) (H : Hp) (xs : List V) (us : List Value) (Q : VK), Inv X pins σ H s → Vals xs us → r xs H Q →
    wpAny (model X.prog X.w) X.A (call f us) (EP X pins σ Q) X.xe s
/-- a value's truth -/
def TruR (X : Cx) (r : V → Hp → (Bool → Hp → Prop) → Prop) : Prop :=
  ∀ (pins : List (Addr × Obj)) (s : Shared) (σ : St) (H : Hp) (x : V) (v : Value) (Q : Bool → Hp → Prop), Inv X pins σ H s → RelV x v → r x H Q →
    wpAny (model X.prog X.w) X.A (truthy v) (TP X pins σ Q) X.xe s

def tOp (r : R2) (ta tb : TE) : TE := fun σ H Q => ta σ H fun x H1 => tb σ H1 fun y H2 => r x y H2 Q
def tUn (r : V → Hp → VK → Prop) (ta : TE) : TE := fun σ H Q => ta σ H fun x H1 => r x H1 Q
/-- ints in, under C, and a value out -/
def rI (C : Int → Int → Prop) (g : Int → Int → V) : R2 := fun x y H Q => ∃ i j, x = .int i ∧ y = .int j ∧ C i j ∧ Q (g i j) H
def rI0 (g : Int → Int → V) : R2 := fun x y H Q => ∃ i j, x = .int i ∧ y = .int j ∧ Q (g i j) H
def rU (g : Int → V) : V → Hp → VK → Prop := fun x H Q => ∃ i, x = .int i ∧ Q (g i) H

section
variable {X : Cx} {a b c : Expr} {ta tb tc : TE} {pos : Pos}

theorem binT (ha : PE X a ta) (hb : PE X b tb) {pins : List (Addr × Obj)} {s : Shared} {σ : St} {H : Hp} {R : V → V → Hp → Prop} (I : Inv X pins σ H s)
    (h : ta σ H fun x H1 => tb σ H1 fun y H2 => R x y H2) {Q : Value → Shared → Prop} {f : Value → Value → Sem Value}
    (hf : ∀ v u s2 x y H2, Inv X pins σ H2 s2 → RelV x v → RelV y u → R x y H2 → wpAny (model X.prog X.w) X.A (f v u) Q X.xe s2) :
    wpAny (model X.prog X.w) X.A (eval a X.env) (fun v s₁ => wpAny (model X.prog X.w) X.A (eval b X.env) (fun u s₂ => wpAny (model X.prog X.w) X.A (f v u) Q X.xe s₂) X.xe s₁) X.xe s := by
  refine thn (ha pins s σ H _ I h) fun v s1 ⟨x, H1, I1, r1, q1⟩ => ?_
  refine thn (hb pins s1 σ H1 _ I1 q1) fun u s2 ⟨y, H2, I2, r2, q2⟩ => ?_
  exact hf v u s2 x y H2 I2 r1 r2 q2

theorem pe_op {op : Operator} {r : R2} (ho : OpR X (binaryOp op) r) (ha : PE X a ta) (hb : PE X b tb) : PE X (.BinOp a op b pos) (tOp r ta tb) := by
  intro pins s σ H Q I h
  exact wpAny_BinOp (binT ha hb I h fun v u s2 x y H2 I2 rx ry q => ho pins s2 σ H2 x y v u Q I2 rx ry q)
theorem pe_un {op : UnaryOp} {r : V → Hp → VK → Prop} (ho : UnR X (unaryOp op) r) (ha : PE X a ta) : PE X (.UnaryOp op a pos) (tUn r ta) := by
  intro pins s σ H Q I h
  exact UnaryOp_ (thn (ha pins s σ H _ I h) fun v s1 ⟨x, H1, I1, r1, q1⟩ => ho pins s1 σ H1 x v Q I1 r1 q1)
/-- a op= e at a name: the name's slot i -/
theorem augR {op : Operator} {r : R2} (ho : OpR X (inplaceOp op) r) {pins : List (Addr × Obj)} {s : Shared} {σ : St} {H : Hp} {x y : V} {v u : Value} {Q : VK} (I : Inv X pins σ H s)
    (rx : RelV x v) (ry : RelV y u) (q : r x y H Q) : wpAny (model X.prog X.w) X.A (inplaceOp op v u) (EP X pins σ Q) X.xe s := ho pins s σ H x y v u Q I rx ry q

/-! ### ints -/
theorem opI {f : Value → Value → Sem Value} {C : Int → Int → Prop} {g : Int → Int → Int}
    (rule : ∀ (i j : Int) (t u : Tok) (s : Shared) (Q : Value → Shared → Prop) (E : Value → Shared → Prop), C i j → Q (.int (g i j) s.toks) { s with toks := s.toks + 1 } → wpAny (model X.prog X.w) X.A (f (.int i t) (.int j u)) Q E s) :
    OpR X f (rI C fun i j => .int (g i j)) := by
  intro pins s σ H x y v u Q I rx ry h
  obtain ⟨i, j, rfl, rfl, hc, q⟩ := h
  obtain ⟨t, rfl⟩ := rx
  obtain ⟨t', rfl⟩ := ry
  exact rule i j t t' s _ _ hc ⟨.int (g i j), H, I.tok _, ⟨_, rfl⟩, q⟩
theorem opI0 {f : Value → Value → Sem Value} {g : Int → Int → Int}
    (rule : ∀ (i j : Int) (t u : Tok) (s : Shared) (Q : Value → Shared → Prop) (E : Value → Shared → Prop), Q (.int (g i j) s.toks) { s with toks := s.toks + 1 } → wpAny (model X.prog X.w) X.A (f (.int i t) (.int j u)) Q E s) :
    OpR X f (rI0 fun i j => .int (g i j)) := by
  intro pins s σ H x y v u Q I rx ry h
  obtain ⟨i, j, rfl, rfl, q⟩ := h
  obtain ⟨t, rfl⟩ := rx
  obtain ⟨t', rfl⟩ := ry
  exact rule i j t t' s _ _ ⟨.int (g i j), H, I.tok _, ⟨_, rfl⟩, q⟩
theorem opB0 {f : Value → Value → Sem Value} {g : Int → Int → Bool}
    (rule : ∀ (i j : Int) (t u : Tok) (s : Shared) (Q : Value → Shared → Prop) (E : Value → Shared → Prop), Q (.bool (g i j)) s → wpAny (model X.prog X.w) X.A (f (.int i t) (.int j u)) Q E s) :
    OpR X f (rI0 fun i j => .bl (g i j)) := by
  intro pins s σ H x y v u Q I rx ry h
  obtain ⟨i, j, rfl, rfl, q⟩ := h
  obtain ⟨t, rfl⟩ := rx
  obtain ⟨t', rfl⟩ := ry
  exact rule i j t t' s _ _ ⟨.bl (g i j), H, I, rfl, q⟩

def CDiv (i j : Int) : Prop := 0 < j ∧ j < 1073741824
def CDivN (i j : Int) : Prop := j ≠ 0 ∧ j.natAbs < 1073741824
def CPow (i j : Int) : Prop := 0 ≤ j ∧ j ≤ 1000000 ∧ i.natAbs < 2 ^ 64
def CMul (i j : Int) : Prop := (-(2 ^ 64) < i ∧ i < 2 ^ 64) ∨ (-(2 ^ 64) < j ∧ j < 2 ^ 64)
theorem CMul.ok {i j : Int} (h : CMul i j) : IntMulOk i j := by
  rcases h with ⟨h1, h2⟩ | ⟨h1, h2⟩
  · exact .of_left (intBits_le_64 h1 h2)
  · exact .of_right (intBits_le_64 h1 h2)
theorem two_pow_nn (k : Nat) : (0 : Int) ≤ 2 ^ k := by
  rw [two_pow_cast]
  exact Int.natCast_nonneg _

theorem op_add : OpR X (binaryOp .Add) (rI0 fun i j => .int (i + j)) := opI0 fun _ _ _ _ _ _ _ q => add_int q
theorem op_sub : OpR X (binaryOp .Sub) (rI0 fun i j => .int (i - j)) := opI0 fun _ _ _ _ _ _ _ q => sub_int q
theorem op_mul : OpR X (binaryOp .Mult) (rI CMul fun i j => .int (i * j)) := opI fun _ _ _ _ _ _ _ hc q => mul_int q hc.ok
/-- // by a positive divisor -/
theorem op_fdiv : OpR X (binaryOp .FloorDiv) (rI CDiv fun i j => .int (i / j)) := opI fun i j _ _ _ _ _ hc q => by
  have h1 : (0 : Int) < j := hc.1
  have h2 : j < 1073741824 := hc.2
  exact floordiv_int (by omega) (by rw [Int.fdiv_eq_ediv_of_nonneg i (by omega)]; exact q) (.inl (PyProof.noPylong_small (by omega)))
theorem op_fdivN : OpR X (binaryOp .FloorDiv) (rI CDivN fun i j => .int (i.fdiv j)) := opI fun _ _ _ _ _ _ _ hc q => floordiv_int hc.1 q (.inl (PyProof.noPylong_small hc.2))
/-- % by a positive divisor of any size -/
theorem op_mod : OpR X (binaryOp .Mod) (rI (fun _ j => 0 < j) fun i j => .int (i % j)) := opI fun i j _ _ _ _ _ hc q => by
  have h1 : (0 : Int) < j := hc
  exact mod_int' (by omega) (by rw [Int.fmod_eq_emod_of_nonneg i (by omega)]; exact q)
theorem op_modN : OpR X (binaryOp .Mod) (rI (fun _ j => j ≠ 0) fun i j => .int (i.fmod j)) := opI fun _ _ _ _ _ _ _ hc q => mod_int' hc q
theorem op_pow : OpR X (binaryOp .Pow) (rI CPow fun i j => .int (i ^ j.toNat)) := opI fun _ _ _ _ _ _ _ hc q => pow_int_small hc.1 hc.2.1 hc.2.2 q
theorem op_shl : OpR X (binaryOp .LShift) (rI CPow fun i j => .int (i * 2 ^ j.toNat)) := opI fun _ _ _ _ _ _ _ hc q => lshift_int_small hc.1 hc.2.1 hc.2.2 q
theorem op_shr : OpR X (binaryOp .RShift) (rI (fun _ j => 0 ≤ j) fun i j => .int (i / 2 ^ j.toNat)) := opI fun i j _ _ _ _ _ hc q =>
  rshift_int hc (by rw [Int.fdiv_eq_ediv_of_nonneg i (two_pow_nn _)]; exact q)
theorem op_and : OpR X (binaryOp .BitAnd) (rI0 fun i j => .int (Builtin.bitAnd i j)) := opI0 fun _ _ _ _ _ _ _ q => and_int q
theorem op_or : OpR X (binaryOp .BitOr) (rI0 fun i j => .int (Builtin.bitOr i j)) := opI0 fun _ _ _ _ _ _ _ q => or_int q
theorem op_xor : OpR X (binaryOp .BitXor) (rI0 fun i j => .int (Builtin.bitXor i j)) := opI0 fun _ _ _ _ _ _ _ q => xor_int q

theorem iop_add : OpR X (inplaceOp .Add) (rI0 fun i j => .int (i + j)) := opI0 fun _ _ _ _ _ _ _ q => iadd_int q
theorem iop_sub : OpR X (inplaceOp .Sub) (rI0 fun i j => .int (i - j)) := opI0 fun _ _ _ _ _ _ _ q => isub_int q
theorem iop_mul : OpR X (inplaceOp .Mult) (rI CMul fun i j => .int (i * j)) := opI fun _ _ _ _ _ _ _ hc q => imul_int q hc.ok
theorem iop_fdiv : OpR X (inplaceOp .FloorDiv) (rI CDiv fun i j => .int (i / j)) := opI fun i j _ _ _ _ _ hc q => by
  have h1 : (0 : Int) < j := hc.1
  have h2 : j < 1073741824 := hc.2
  exact ifloordiv_int (by omega) (by rw [Int.fdiv_eq_ediv_of_nonneg i (by omega)]; exact q) (.inl (PyProof.noPylong_small (by omega)))
theorem iop_mod : OpR X (inplaceOp .Mod) (rI (fun _ j => 0 < j) fun i j => .int (i % j)) := opI fun i j _ _ _ _ _ hc q => by
  have h1 : (0 : Int) < j := hc
  exact imod_int (by omega) (by rw [Int.fmod_eq_emod_of_nonneg i (by omega)]; exact q)
theorem iop_shl : OpR X (inplaceOp .LShift) (rI CPow fun i j => .int (i * 2 ^ j.toNat)) := opI fun _ _ _ _ _ _ _ hc q => ilshift_int_small hc.1 hc.2.1 hc.2.2 q
theorem iop_shr : OpR X (inplaceOp .RShift) (rI (fun _ j => 0 ≤ j) fun i j => .int (i / 2 ^ j.toNat)) := opI fun i j _ _ _ _ _ hc q =>
  irshift_int hc (by rw [Int.fdiv_eq_ediv_of_nonneg i (two_pow_nn _)]; exact q)
theorem iop_and : OpR X (inplaceOp .BitAnd) (rI0 fun i j => .int (Builtin.bitAnd i j)) := opI0 fun _ _ _ _ _ _ _ q => iand_int q
theorem iop_or : OpR X (inplaceOp .BitOr) (rI0 fun i j => .int (Builtin.bitOr i j)) := opI0 fun _ _ _ _ _ _ _ q => ior_int q
theorem iop_xor : OpR X (inplaceOp .BitXor) (rI0 fun i j => .int (Builtin.bitXor i j)) := opI0 fun _ _ _ _ _ _ _ q => ixor_int q

theorem unI {f : Value → Sem Value} {g : Int → Int}
    (rule : ∀ (i : Int) (t : Tok) (s : Shared) (Q : Value → Shared → Prop) (E : Value → Shared → Prop), Q (.int (g i) s.toks) { s with toks := s.toks + 1 } → wpAny (model X.prog X.w) X.A (f (.int i t)) Q E s) :
    UnR X f (rU fun i => .int (g i)) := by
  intro pins s σ H x v Q I rx h
  obtain ⟨i, rfl, q⟩ := h
  obtain ⟨t, rfl⟩ := rx
  exact rule i t s _ _ ⟨.int (g i), H, I.tok _, ⟨_, rfl⟩, q⟩
theorem un_neg : UnR X (unaryOp .USub) (rU fun i => .int (-i)) := unI fun _ _ _ _ _ q => neg_int q
theorem un_inv : UnR X (unaryOp .Invert) (rU fun i => .int (Builtin.bitNot i)) := unI fun _ _ _ _ _ q => invert_int q

/-! ### bools among ints: n += (a < b) -/
theorem op_add_ib : OpR X (binaryOp .Add) (fun x y H Q => ∃ i k, x = .int i ∧ y = .bl k ∧ Q (.int (i + b2i k)) H) := by
  intro pins s σ H x y v u Q I rx ry h
  obtain ⟨i, k, rfl, rfl, q⟩ := h
  obtain ⟨t, rfl⟩ := rx
  cases ry
  exact add_int_bool ⟨.int (i + b2i k), H, I.tok _, ⟨_, rfl⟩, q⟩
end

/-! ### comparisons -/
/-- the scalars that == tells apart as data does -/
def scal : V → V → Bool
  | .non, .non => true | .non, .int _ => true | .int _, .non => true | .non, .bl _ => true | .bl _, .non => true | .non, .str _ => true | .str _, .non => true
  | .int _, .int _ => true | .bl _, .bl _ => true | .str _, .str _ => true | .byt _, .byt _ => true
  | .int _, .str _ => true | .str _, .int _ => true | .bl _, .str _ => true | .str _, .bl _ => true
  | _, _ => false
def rEq : R2 := fun x y H Q => scal x y = true ∧ Q (.bl (decide (x = y))) H
def rNe : R2 := fun x y H Q => scal x y = true ∧ Q (.bl (!decide (x = y))) H

theorem dec_int {i j : Int} : decide (V.int i = V.int j) = (i == j) := by
  rw [Bool.eq_iff_iff]
  simp
theorem dec_bl {i j : Bool} : decide (V.bl i = V.bl j) = (i == j) := by
  rw [Bool.eq_iff_iff]
  simp
theorem dec_str {i j : Str} : decide (V.str i = V.str j) = (i == j) := by
  rw [Bool.eq_iff_iff]
  simp
theorem dec_byt {i j : Array UInt8} : decide (V.byt i = V.byt j) = (i.toList == j.toList) := by
  rw [Bool.eq_iff_iff]
  cases i
  cases j
  simp

section
variable {X : Cx} {a b c : Expr} {ta tb tc : TE} {pos : Pos}
theorem fin_bl {pins : List (Addr × Obj)} {σ : St} {H : Hp} {s : Shared} {Q : VK} {k k' : Bool} (I : Inv X pins σ H s) (q : Q (.bl k) H) (e : k = k') : EP X pins σ Q (.bool k') s := by
  subst e
  exact ⟨.bl k, H, I, rfl, q⟩
theorem op_eq : OpR X (compareOp .Eq) rEq := by
  intro pins s σ H x y v u Q I rx ry h
  obtain ⟨hs, q⟩ := h
  cases x with
  | non =>
    cases rx
    cases y with
    | non => cases ry; exact PySem.EqNone.eq_none_none (fin_bl I q (by simp))
    | bl j => cases ry; exact PySem.EqNone.eq_none_bool (fin_bl I q (by simp))
    | int j => obtain ⟨t', rfl⟩ := ry; exact PySem.EqNone.eq_none_int (fin_bl I q (by simp))
    | str j => obtain ⟨t', rfl⟩ := ry; exact PySem.EqNone.eq_none_str (fin_bl I q (by simp))
    | _ => exact absurd (show false = true from hs) Bool.false_ne_true
  | bl i =>
    cases rx
    cases y with
    | non => cases ry; exact PySem.EqNone.eq_bool_none (fin_bl I q (by simp))
    | bl j => cases ry; exact eq_bool (fin_bl I q dec_bl)
    | str j => obtain ⟨t', rfl⟩ := ry; exact PySem.EqMixed.eq_bool_str (fin_bl I q (by simp))
    | _ => exact absurd (show false = true from hs) Bool.false_ne_true
  | int i =>
    obtain ⟨t, rfl⟩ := rx
    cases y with
    | non => cases ry; exact PySem.EqNone.eq_int_none (fin_bl I q (by simp))
    | int j => obtain ⟨t', rfl⟩ := ry; exact eq_int (fin_bl I q dec_int)
    | str j => obtain ⟨t', rfl⟩ := ry; exact PySem.EqMixed.eq_int_str (fin_bl I q (by simp))
    | _ => exact absurd (show false = true from hs) Bool.false_ne_true
  | str i =>
    obtain ⟨t, rfl⟩ := rx
    cases y with
    | non => cases ry; exact PySem.EqNone.eq_str_none (fin_bl I q (by simp))
    | bl j => cases ry; exact PySem.EqMixed.eq_str_bool (fin_bl I q (by simp))
    | int j => obtain ⟨t', rfl⟩ := ry; exact PySem.EqMixed.eq_str_int (fin_bl I q (by simp))
    | str j => obtain ⟨t', rfl⟩ := ry; exact eq_str (fin_bl I q dec_str)
    | _ => exact absurd (show false = true from hs) Bool.false_ne_true
  | byt i =>
    obtain ⟨t, rfl⟩ := rx
    cases y with
    | byt j => obtain ⟨t', rfl⟩ := ry; exact PySem.W.eq_bytes (fin_bl I q dec_byt)
    | _ => exact absurd (show false = true from hs) Bool.false_ne_true
  | _ => cases y <;> exact absurd (show false = true from hs) Bool.false_ne_true
theorem op_ne : OpR X (compareOp .NotEq) rNe := by
  intro pins s σ H x y v u Q I rx ry h
  obtain ⟨hs, q⟩ := h
  cases x with
  | non =>
    cases rx
    cases y with
    | non => cases ry; exact PySem.EqNone.ne_none_none (fin_bl I q (by simp))
    | bl j => cases ry; exact PySem.EqNone.ne_none_bool (fin_bl I q (by simp))
    | int j => obtain ⟨t', rfl⟩ := ry; exact PySem.EqNone.ne_none_int (fin_bl I q (by simp))
    | str j => obtain ⟨t', rfl⟩ := ry; exact PySem.EqNone.ne_none_str (fin_bl I q (by simp))
    | _ => exact absurd (show false = true from hs) Bool.false_ne_true
  | bl i =>
    cases rx
    cases y with
    | non => cases ry; exact PySem.EqNone.ne_bool_none (fin_bl I q (by simp))
    | bl j => cases ry; exact ne_bool (fin_bl I q (congrArg not dec_bl))
    | str j => obtain ⟨t', rfl⟩ := ry; exact PySem.EqMixed.ne_bool_str (fin_bl I q (by simp))
    | _ => exact absurd (show false = true from hs) Bool.false_ne_true
  | int i =>
    obtain ⟨t, rfl⟩ := rx
    cases y with
    | non => cases ry; exact PySem.EqNone.ne_int_none (fin_bl I q (by simp))
    | int j => obtain ⟨t', rfl⟩ := ry; exact ne_int (fin_bl I q (congrArg not dec_int))
    | str j => obtain ⟨t', rfl⟩ := ry; exact PySem.EqMixed.ne_int_str (fin_bl I q (by simp))
    | _ => exact absurd (show false = true from hs) Bool.false_ne_true
  | str i =>
    obtain ⟨t, rfl⟩ := rx
    cases y with
    | non => cases ry; exact PySem.EqNone.ne_str_none (fin_bl I q (by simp))
    | bl j => cases ry; exact PySem.EqMixed.ne_str_bool (fin_bl I q (by simp))
    | int j => obtain ⟨t', rfl⟩ := ry; exact PySem.EqMixed.ne_str_int (fin_bl I q (by simp))
    | str j => obtain ⟨t', rfl⟩ := ry; exact ne_str (fin_bl I q (congrArg not dec_str))
    | _ => exact absurd (show false = true from hs) Bool.false_ne_true
  | byt i =>
    obtain ⟨t, rfl⟩ := rx
    cases y with
    | byt j => obtain ⟨t', rfl⟩ := ry; exact PySem.W.ne_bytes (fin_bl I q (congrArg not dec_byt))
    | _ => exact absurd (show false = true from hs) Bool.false_ne_true
  | _ => cases y <;> exact absurd (show false = true from hs) Bool.false_ne_true

theorem op_lt : OpR X (compareOp .Lt) (rI0 fun i j => .bl (decide (i < j))) := opB0 fun _ _ _ _ _ _ _ q => lt_int q
theorem op_le : OpR X (compareOp .LtE) (rI0 fun i j => .bl (decide (i ≤ j))) := opB0 fun _ _ _ _ _ _ _ q => le_int q
theorem op_gt : OpR X (compareOp .Gt) (rI0 fun i j => .bl (decide (j < i))) := opB0 fun _ _ _ _ _ _ _ q => gt_int q
theorem op_ge : OpR X (compareOp .GtE) (rI0 fun i j => .bl (decide (j ≤ i))) := opB0 fun _ _ _ _ _ _ _ q => ge_int q
theorem op_lt_str : OpR X (compareOp .Lt) (fun x y H Q => ∃ i j, x = .str i ∧ y = .str j ∧ Q (.bl (decide (i.cps.toList < j.cps.toList))) H) := by
  intro pins s σ H x y v u Q I rx ry h
  obtain ⟨i, j, rfl, rfl, q⟩ := h
  obtain ⟨t, rfl⟩ := rx
  obtain ⟨t', rfl⟩ := ry
  exact lt_str (fin_bl I q rfl)
/-- the one string within the other -/
theorem op_in_str : OpR X (compareOp .In) (fun x y H Q => ∃ i j, x = .str i ∧ y = .str j ∧ Q (.bl (!(Builtin.Str.occurrences j i 0 j.length 1).isEmpty)) H) := by
  intro pins s σ H x y v u Q I rx ry h
  obtain ⟨i, j, rfl, rfl, q⟩ := h
  obtain ⟨t, rfl⟩ := rx
  obtain ⟨t', rfl⟩ := ry
  exact in_str (fin_bl I q rfl)

/-- is None, is not None: the right side a value none -/
theorem op_isN : OpR X (compareOp .Is) (fun x y H Q => y = .non ∧ Q (.bl (decide (x = .non))) H) := by
  intro pins s σ H x y v u Q I rx ry h
  obtain ⟨rfl, q⟩ := h
  cases ry
  refine is_none_gen (fin_bl I q ?_)
  cases x <;> first
    | (cases rx; rfl)
    | (obtain ⟨t, rfl⟩ := rx; rfl)
theorem op_notN : OpR X (compareOp .IsNot) (fun x y H Q => y = .non ∧ Q (.bl (!decide (x = .non))) H) := by
  intro pins s σ H x y v u Q I rx ry h
  obtain ⟨rfl, q⟩ := h
  cases ry
  refine isnot_none_gen (fin_bl I q ?_)
  cases x <;> first
    | (cases rx; rfl)
    | (obtain ⟨t, rfl⟩ := rx; rfl)

theorem op_notin_str : OpR X (compareOp .NotIn) (fun x y H Q => ∃ i j, x = .str i ∧ y = .str j ∧ Q (.bl (!(!(Builtin.Str.occurrences j i 0 j.length 1).isEmpty))) H) := by
  intro pins s σ H x y v u Q I rx ry h
  obtain ⟨i, j, rfl, rfl, q⟩ := h
  obtain ⟨t, rfl⟩ := rx
  obtain ⟨t', rfl⟩ := ry
  exact notIn_str (fin_bl I q rfl)
/-- is, is not of two objects that are tracked lists or instances -/
def isObj : HO → Bool
  | .lst _ => true
  | .ins _ _ _ => true
  | _ => false
theorem obj_there {pins : List (Addr × Obj)} {s : Shared} {σ : St} {H : Hp} {a : Addr} {o : HO} (I : Inv X pins σ H s) (h : H a = some o) (p : isObj o = true) : ∃ ob, s.heap.get? a = some ob ∧ ob.cls ≠ .type "tuple" := by
  cases o with
  | lst xs =>
    obtain ⟨_, its, n, _, e⟩ : xs.length ≤ sizeLine ∧ ∃ (its : List Value) (n : Nat), Vals xs its ∧ s.heap.get? a = some { cls := .type "list", data := .seq its.toArray n } := I.hok a _ h
    exact ⟨_, e, (by show Value.type "list" ≠ .type "tuple"; decide +kernel)⟩
  | ins C dx fs =>
    have x := I.hok a _ h
    obtain ⟨_, _, _, e, _⟩ := x
    exact ⟨_, e, (by show Value.ref C ≠ .type "tuple"; exact fun z => by cases z)⟩
  | _ => exact absurd (show false = true from p) Bool.false_ne_true
theorem op_is_ref : OpR X (compareOp .Is) (fun x y H Q => ∃ a b oa ob, x = .ref a ∧ y = .ref b ∧ H a = some oa ∧ isObj oa = true ∧ H b = some ob ∧ isObj ob = true ∧ Q (.bl (decide (a = b))) H) := by
  intro pins s σ H x y v u Q I rx ry h
  obtain ⟨a, b, oa, ob, rfl, rfl, ha, pa, hb, pb, q⟩ := h
  cases rx
  cases ry
  obtain ⟨o1, e1, n1⟩ := obj_there I ha pa
  obtain ⟨o2, e2, _⟩ := obj_there I hb pb
  by_cases z : a = b
  · subst z
    exact wpAny_is_ref_self (fin_bl I q (by simp))
  · exact wpAny_is_ref_other z e1 e2 n1 (fin_bl I q (by simp [z]))
theorem op_isnot_ref : OpR X (compareOp .IsNot) (fun x y H Q => ∃ a b oa ob, x = .ref a ∧ y = .ref b ∧ H a = some oa ∧ isObj oa = true ∧ H b = some ob ∧ isObj ob = true ∧ Q (.bl (!decide (a = b))) H) := by
  intro pins s σ H x y v u Q I rx ry h
  obtain ⟨a, b, oa, ob, rfl, rfl, ha, pa, hb, pb, q⟩ := h
  cases rx
  cases ry
  obtain ⟨o1, e1, n1⟩ := obj_there I ha pa
  obtain ⟨o2, e2, _⟩ := obj_there I hb pb
  by_cases z : a = b
  · subst z
    exact wpAny_isNot_ref_self (fin_bl I q (by simp))
  · exact wpAny_isNot_ref_other z e1 e2 n1 (fin_bl I q (by simp [z]))

/-- two rules for one operation: by cases -/
theorem OpR.or {f : Value → Value → Sem Value} {r r' : R2} (h : OpR X f r) (h' : OpR X f r') : OpR X f (fun x y H Q => r x y H Q ∨ r' x y H Q) := by
  intro pins s σ H x y v u Q I rx ry q
  rcases q with q | q
  · exact h pins s σ H x y v u Q I rx ry q
  · exact h' pins s σ H x y v u Q I rx ry q

theorem nomark (b : Expr) {op : CmpOp} (h : op ≠ .In := by decide) (h2 : op ≠ .NotIn := by decide) : behindInMarks op b = false := by
  have e1 : (op == CmpOp.In) = false := by cases op <;> first | rfl | exact absurd rfl h
  have e2 : (op == CmpOp.NotIn) = false := by cases op <;> first | rfl | exact absurd rfl h2
  cases b <;> simp [behindInMarks, e1, e2]
/-- a comparison as a value; hm: nomark b, or (for in, not in) by with_unfolding_all rfl -/
theorem pe_cmpR {op : CmpOp} {r : R2} (ho : OpR X (compareOp op) r) (ha : PE X a ta) (hb : PE X b tb) (hm : behindInMarks op b = false) : PE X (.Compare a [op] [b] pos) (tOp r ta tb) := by
  intro pins s σ H Q I h
  exact wpAny_Compare1 (binT ha hb I h fun v u s2 x y H2 I2 rx ry q => ho pins s2 σ H2 x y v u Q I2 rx ry q) hm
/-- a reading of a value as a test -/
def tTest (t : TE) : TT := fun σ H Q => t σ H fun x H' => ∃ k, x = .bl k ∧ Q k H'
theorem pt_cmpR {op : CmpOp} {r : R2} (ho : OpR X (compareOp op) r) (ha : PE X a ta) (hb : PE X b tb) (hm : behindInMarks op b = false) : PT X (.Compare a [op] [b] pos) (tTest (tOp r ta tb)) := by
  intro pins s σ H Q I h
  refine wpAny_isTrue_Compare1 (thn (ha pins s σ H _ I h) fun v s1 ⟨x, H1, I1, r1, q1⟩ => thn (hb pins s1 σ H1 _ I1 q1) fun u s2 ⟨y, H2, I2, r2, q2⟩ =>
    thn (ho pins s2 σ H2 x y v u _ I2 r1 r2 q2) fun c s3 ⟨z, H3, I3, r3, k, e, q3⟩ => ?_) hm
  subst e
  cases r3
  exact wpAny_truthy_bool ⟨H3, I3, q3⟩
/-- a op1 b op2 c -/
def tChain (r r' : R2) (ta tb tc : TE) : TE := fun σ H Q => ta σ H fun x H1 => tb σ H1 fun y H2 => r x y H2 fun z H3 => ∃ k, z = .bl k ∧
  (if k = true then tc σ H3 fun w' H4 => r' y w' H4 Q else Q (.bl false) H3)
theorem pe_chain {op op' : CmpOp} {r r' : R2} (ho : OpR X (compareOp op) r) (ho' : OpR X (compareOp op') r') (ha : PE X a ta) (hb : PE X b tb) (hc : PE X c tc)
    (hm : lastMarks [op, op'] [b, c] = false := by with_unfolding_all rfl) : PE X (.Compare a [op, op'] [b, c] pos) (tChain r r' ta tb tc) := by
  intro pins s σ H Q I h
  refine Compare_chain (thn (ha pins s σ H _ I h) fun v s1 ⟨x, H1, I1, r1, q1⟩ => chain_link (thn (hb pins s1 σ H1 _ I1 q1) fun u s2 ⟨y, H2, I2, r2, q2⟩ =>
    thn (ho pins s2 σ H2 x y v u _ I2 r1 r2 q2) fun d s3 ⟨z, H3, I3, r3, k, e, q3⟩ => ?_)) hm
  subst e
  cases r3
  refine wpAny_truthy_bool ?_
  cases k with
  | false => exact ite_ff ⟨.bl false, H3, I3, rfl, q3⟩
  | true => exact ite_tt (chain_last (thn (hc pins s3 σ H3 _ I3 q3) fun w' s4 ⟨z', H4, I4, r4, q4⟩ => ho' pins s4 σ H4 y z' u w' Q I4 r2 r4 q4))
theorem pt_chain {op op' : CmpOp} {r r' : R2} (ho : OpR X (compareOp op) r) (ho' : OpR X (compareOp op') r') (ha : PE X a ta) (hb : PE X b tb) (hc : PE X c tc)
    (hm : lastMarks [op, op'] [b, c] = false := by with_unfolding_all rfl) : PT X (.Compare a [op, op'] [b, c] pos) (tTest (tChain r r' ta tb tc)) := by
  intro pins s σ H Q I h
  refine isTrue_chain (thn (ha pins s σ H _ I h) fun v s1 ⟨x, H1, I1, r1, q1⟩ => test_link (thn (hb pins s1 σ H1 _ I1 q1) fun u s2 ⟨y, H2, I2, r2, q2⟩ =>
    thn (ho pins s2 σ H2 x y v u _ I2 r1 r2 q2) fun d s3 ⟨z, H3, I3, r3, k, e, q3⟩ => ?_)) hm
  subst e
  cases r3
  refine wpAny_truthy_bool ?_
  cases k with
  | false =>
    obtain ⟨k', e', q'⟩ := q3
    cases e'
    exact ite_ff ⟨H3, I3, q'⟩
  | true =>
    refine ite_tt (test_last (thn (hc pins s3 σ H3 _ I3 q3) fun w' s4 ⟨z', H4, I4, r4, q4⟩ => thn (ho' pins s4 σ H4 y z' u w' _ I4 r2 r4 q4) fun d' s5 ⟨z2, H5, I5, r5, k2, e2, q5⟩ => ?_))
    subst e2
    cases r5
    exact wpAny_truthy_bool ⟨H5, I5, q5⟩

/-! ### truth -/
/-- a value's truth by the abstract heap -/
def TruV (K : PySem.W.Frag) (x : V) (H : Hp) (k : Bool) : Prop :=
  match x with
  | .non => k = false
  | .bl b => k = b
  | .int i => k = (i != 0)
  | .str y => y.length ≤ sizeLine ∧ k = ((y.length : Int) != 0)
  | .byt y => y.size ≤ sizeLine ∧ k = ((y.size : Int) != 0)
  | .ref p => (∃ xs, SqL K H p xs ∧ k = !xs.isEmpty) ∨ (∃ xs, SqT K H p xs ∧ k = !xs.isEmpty) ∨ ∃ kvs, H p = some (.dK kvs) ∧ k = !kvs.isEmpty
  | _ => False
theorem isEmpty_kv {κ : Type} {kvs : List (κ × V)} {vs : List (κ × Value)} (r : KV kvs vs) : (!vs.isEmpty) = !kvs.isEmpty := by
  cases r <;> rfl
theorem isEmpty_of {xs : List V} {its : List Value} (r : Vals xs its) : (!its.toArray.isEmpty) = !xs.isEmpty := by
  cases r <;> simp
theorem line63 : (sizeLine : Nat) < 2 ^ 63 := by rw [sizeLine_eq]; decide
theorem tru_ok : TruR X (fun x H Q => ∃ k, TruV X.K x H k ∧ Q k H) := by
  intro pins s σ H x v Q I rx h
  obtain ⟨k, e, q⟩ := h
  have hl := line63
  have hs : sizeLine = 16777216 := sizeLine_eq
  cases x with
  | non =>
    cases rx
    have e' : k = false := e
    subst e'
    exact truthy_none ⟨H, I, q⟩
  | bl b =>
    cases rx
    have e' : k = b := e
    subst e'
    exact wpAny_truthy_bool ⟨H, I, q⟩
  | int i =>
    obtain ⟨t, rfl⟩ := rx
    have e' : k = (i != 0) := e
    subst e'
    exact PySem.P.truthy_int ⟨H, I, q⟩
  | str y =>
    obtain ⟨t, rfl⟩ := rx
    obtain ⟨hy, e'⟩ : y.length ≤ sizeLine ∧ k = ((y.length : Int) != 0) := e
    subst e'
    exact PySem.P.truthy_str (by omega) ⟨H, I.tok _, q⟩
  | byt y =>
    obtain ⟨t, rfl⟩ := rx
    obtain ⟨hy, e'⟩ : y.size ≤ sizeLine ∧ k = ((y.size : Int) != 0) := e
    subst e'
    exact PySem.W.truthy_bytes (by omega) ⟨H, I.tok _, q⟩
  | ref p =>
    cases rx
    have e' : (∃ xs, SqL X.K H p xs ∧ k = !xs.isEmpty) ∨ (∃ xs, SqT X.K H p xs ∧ k = !xs.isEmpty) ∨ ∃ kvs, H p = some (.dK kvs) ∧ k = !kvs.isEmpty := e
    rcases e' with ⟨xs, hx, e'⟩ | ⟨xs, hx, e'⟩ | ⟨kvs, hx, e'⟩
    · subst e'
      obtain ⟨its, r, pl, hz⟩ := I.list hx
      have hlen := r.length
      exact wpAny_truthy_list pl.isList (by simp only [List.size_toArray]; omega) ⟨H, I.tok _, by rw [isEmpty_of r]; exact q⟩
    · subst e'
      obtain ⟨its, r, pl, hz⟩ := I.tuple hx
      have hlen := r.length
      exact truthy_tuple pl (by simp only [List.size_toArray]; omega) ⟨H, I.tok _, by rw [isEmpty_of r]; exact q⟩
    · subst e'
      obtain ⟨hz, hS, vs, r, m⟩ : kvs.length ≤ sizeLine ∧ (p == sysModules) = false ∧ ∃ vs, KV kvs vs ∧ s.heap.DictOf (mixKind X.prog X.w) p vs := I.hok p _ hx
      have hlen : kvs.length = vs.length := Paired.length r
      exact wpAny_truthy_dict hS m (by omega) ⟨H, I.tok _, by rw [isEmpty_kv r]; exact q⟩
  | _ => exact (show False from e).elim
/-- any expression whose test is its value's truth (a name, a call, a subscript, a field ..: he by fun _ => rfl) -/
theorem pt_truth (ha : PE X a ta) (he : ∀ whole, isTrue a X.env whole = (do let v ← whole; standAt a.pos; holding [v] (truthy v))) :
    PT X a (fun σ H Q => ta σ H fun x H' => ∃ k, TruV X.K x H' k ∧ Q k H') := by
  intro pins s σ H Q I h
  exact isTrue_plain (thn (ha pins s σ H _ I h) fun v s1 ⟨x, H1, I1, r1, q1⟩ => tru_ok pins s1 σ H1 x v Q I1 r1 q1) (he _)

/-! ### strs and bytes -/
theorem pe_byt {x : List UInt8} {k : Nat} : PE X (.Constant (.bytes x) k pos) (fun _ H Q => Q (.byt x.toArray) H) := fun _ _ _ H _ I h => PySem.W.Constant_bytes ⟨.byt x.toArray, H, I.tok _, ⟨_, rfl⟩, h⟩
theorem op_add_str : OpR X (binaryOp .Add) (fun x y H Q => ∃ i j, x = .str i ∧ y = .str j ∧ i.length + j.length ≤ sizeLine ∧ Q (.str (i ++ j)) H) := by
  intro pins s σ H x y v u Q I rx ry h
  obtain ⟨i, j, rfl, rfl, hz, q⟩ := h
  obtain ⟨t, rfl⟩ := rx
  obtain ⟨t', rfl⟩ := ry
  exact add_str (fun t' tk => ⟨.str (i ++ j), H, I.tok _, ⟨_, rfl⟩, q⟩) hz
theorem iop_add_str : OpR X (inplaceOp .Add) (fun x y H Q => ∃ i j, x = .str i ∧ y = .str j ∧ i.length + j.length ≤ sizeLine ∧ Q (.str (i ++ j)) H) := by
  intro pins s σ H x y v u Q I rx ry h
  obtain ⟨i, j, rfl, rfl, hz, q⟩ := h
  obtain ⟨t, rfl⟩ := rx
  obtain ⟨t', rfl⟩ := ry
  exact iadd_str (fun t' tk => ⟨.str (i ++ j), H, I.tok _, ⟨_, rfl⟩, q⟩) hz
theorem op_add_byt : OpR X (binaryOp .Add) (fun x y H Q => ∃ i j, x = .byt i ∧ y = .byt j ∧ i.size + j.size ≤ 16777216 ∧ Q (.byt (i ++ j)) H) := by
  intro pins s σ H x y v u Q I rx ry h
  obtain ⟨i, j, rfl, rfl, hz, q⟩ := h
  obtain ⟨t, rfl⟩ := rx
  obtain ⟨t', rfl⟩ := ry
  exact PySem.W.KBy.add_bytes hz (fun t' tk => ⟨.byt (i ++ j), H, I.tok _, ⟨_, rfl⟩, q⟩)

def PlainIxT (b : Expr) : Prop := ∀ o i, subscripted b false o i = operate [o, i] (getItem o i)
/-- s[i], 0 ≤ i < len -/
theorem pe_item_str (ha : PE X a ta) (hb : PE X b tb) (hs : PlainIxT b) :
    PE X (.Subscript a b pos) (tOp (fun x y H Q => ∃ z i c, x = .str z ∧ y = .int i ∧ 0 ≤ i ∧ i < 2 ^ 63 ∧ i < z.length ∧ z.cps[i.toNat]? = some c ∧ Q (.str ⟨#[c]⟩) H) ta tb) := by
  intro pins s σ H Q I h
  refine Subscript_ (binT ha hb I h fun v u s2 x y H2 I2 rx ry q => ?_)
  obtain ⟨z, i, c, rfl, rfl, h0, h63, h1, hc, q⟩ := q
  obtain ⟨t, rfl⟩ := rx
  obtain ⟨t', rfl⟩ := ry
  have e : seqIndex? i z.length = some i.toNat := PySem.StrLaws.seqIndex_nonneg h0 h1
  exact tail_any (typeIs_str s2 z t) slot_str_getitem.lookup (getItem_str (c := c) (by
    have e1 : decide (i < -(2 ^ 63 : Int)) = false := decide_eq_false (by omega)
    have e2 : decide (i ≥ 2 ^ 63) = false := decide_eq_false (by omega)
    rw [e1, e2] <;> rfl) (by rw [e]; exact hc) ⟨.str ⟨#[c]⟩, H2, I2.tok _, ⟨_, rfl⟩, q⟩) (hs _ _)
/-- b[i], 0 ≤ i < len -/
theorem pe_item_byt (ha : PE X a ta) (hb : PE X b tb) (hs : PlainIxT b) :
    PE X (.Subscript a b pos) (tOp (fun x y H Q => ∃ (z : List UInt8) (i : Int), x = .byt z.toArray ∧ y = .int i ∧ z.length ≤ sizeLine ∧ 0 ≤ i ∧ i < z.length ∧ Q (.int ((z.getD i.toNat 0).toNat : Nat)) H) ta tb) := by
  intro pins s σ H Q I h
  refine Subscript_ (binT ha hb I h fun v u s2 x y H2 I2 rx ry q => ?_)
  obtain ⟨z, i, rfl, rfl, hz, h0, h1, q⟩ := q
  obtain ⟨t, rfl⟩ := rx
  obtain ⟨t', rfl⟩ := ry
  have hl : sizeLine = 16777216 := sizeLine_eq
  exact tail_any (PySem.W.typeIs_bytes s2 z.toArray t) PySem.W.FB.slot_bytes_getitem.lookup (PySem.W.getItem_bytes (by omega) h0 h1 ⟨.int ((z.getD i.toNat 0).toNat : Nat), H2, I2.tok _, ⟨_, rfl⟩, q⟩) (hs _ _)

/-! ### scalar builtins, by CallR -/
theorem vals1 {x : V} {us : List Value} (r : Vals [x] us) : ∃ u, us = [u] ∧ RelV x u := by
  cases r with
  | cons r1 r2 => cases r2; exact ⟨_, rfl, r1⟩
theorem vals2 {x y : V} {us : List Value} (r : Vals [x, y] us) : ∃ u w', us = [u, w'] ∧ RelV x u ∧ RelV y w' := by
  cases r with
  | cons r1 r2 =>
    cases r2 with
    | cons r3 r4 => cases r4; exact ⟨_, _, rfl, r1, r3⟩
theorem call_abs : CallR X (.builtin "abs") (fun xs H Q => ∃ i, xs = [.int i] ∧ Q (.int (if i < 0 then -i else i)) H) := by
  intro pins s σ H xs us Q I r h
  obtain ⟨i, rfl, q⟩ := h
  obtain ⟨u, rfl, t, rfl⟩ := vals1 r
  exact call_abs_int fun u tk => ⟨.int (if i < 0 then -i else i), H, I.tok _, ⟨_, rfl⟩, q⟩
theorem call_max2 (hc : X.calm = true) : CallR X (.builtin "max") (fun xs H Q => ∃ i j, xs = [.int i, .int j] ∧ Q (.int (if j > i then j else i)) H) := by
  intro pins s σ H xs us Q I r h
  obtain ⟨i, j, rfl, q⟩ := h
  obtain ⟨u, w', rfl, ⟨t, rfl⟩, ⟨t', rfl⟩⟩ := vals2 r
  refine max_two_ints (I.ok.hd hc) fun h' tk k => ⟨_, H, I.kept k, ?_, q⟩
  by_cases hj : j > i
  · rw [if_pos hj, if_pos hj]; exact ⟨_, rfl⟩
  · rw [if_neg hj, if_neg hj]; exact ⟨_, rfl⟩
theorem call_min2 (hc : X.calm = true) : CallR X (.builtin "min") (fun xs H Q => ∃ i j, xs = [.int i, .int j] ∧ Q (.int (if j < i then j else i)) H) := by
  intro pins s σ H xs us Q I r h
  obtain ⟨i, j, rfl, q⟩ := h
  obtain ⟨u, w', rfl, ⟨t, rfl⟩, ⟨t', rfl⟩⟩ := vals2 r
  refine min_two_ints (I.ok.hd hc) fun h' tk k => ⟨_, H, I.kept k, ?_, q⟩
  by_cases hj : j < i
  · rw [if_pos hj, if_pos hj]; exact ⟨_, rfl⟩
  · rw [if_neg hj, if_neg hj]; exact ⟨_, rfl⟩
theorem call_int1 : CallR X (.type "int") (fun xs H Q => (∃ i, xs = [.int i] ∧ Q (.int i) H) ∨ ∃ k, xs = [.bl k] ∧ Q (.int (if k then 1 else 0)) H) := by
  intro pins s σ H xs us Q I r h
  rcases h with ⟨i, rfl, q⟩ | ⟨k, rfl, q⟩
  · obtain ⟨u, rfl, t, rfl⟩ := vals1 r
    exact call_int_int ⟨.int i, H, I, ⟨_, rfl⟩, q⟩
  · obtain ⟨u, rfl, r1⟩ := vals1 r
    cases r1
    exact call_int_bool ⟨.int (if k then 1 else 0), H, I.tok _, ⟨_, rfl⟩, q⟩
theorem call_bool1 : CallR X (.type "bool") (fun xs H Q => (∃ i, xs = [.int i] ∧ Q (.bl (i != 0)) H) ∨ ∃ k, xs = [.bl k] ∧ Q (.bl k) H) := by
  intro pins s σ H xs us Q I r h
  rcases h with ⟨i, rfl, q⟩ | ⟨k, rfl, q⟩
  · obtain ⟨u, rfl, t, rfl⟩ := vals1 r
    exact call_bool_int ⟨.bl (i != 0), H, I, rfl, q⟩
  · obtain ⟨u, rfl, r1⟩ := vals1 r
    cases r1
    exact call_bool_bool ⟨.bl k, H, I, rfl, q⟩
theorem call_str_int : CallR X (.type "str") (fun xs H Q => ∃ i, xs = [.int i] ∧ i.natAbs.log2 < 1920 ∧ Q (.str (toString i)) H) := by
  intro pins s σ H xs us Q I r h
  obtain ⟨i, rfl, hz, q⟩ := h
  obtain ⟨u, rfl, t, rfl⟩ := vals1 r
  exact PySem.P.str_of_int hz ⟨.str _, H, I.tok _, ⟨_, rfl⟩, q⟩
theorem call_ord : CallR X (.builtin "ord") (fun xs H Q => ∃ x, xs = [.str x] ∧ x.length = 1 ∧ Q (.int (x.cps.getD 0 0 : Nat)) H) := by
  intro pins s σ H xs us Q I r h
  obtain ⟨x, rfl, hz, q⟩ := h
  obtain ⟨u, rfl, t, rfl⟩ := vals1 r
  exact ord_of_one hz ⟨.int _, H, I.tok _, ⟨_, rfl⟩, q⟩
theorem call_chr : CallR X (.builtin "chr") (fun xs H Q => ∃ i, xs = [.int i] ∧ 0 ≤ i ∧ i ≤ 1114111 ∧ Q (.str ⟨#[i.toNat]⟩) H) := by
  intro pins s σ H xs us Q I r h
  obtain ⟨i, rfl, h0, h1, q⟩ := h
  obtain ⟨u, rfl, t, rfl⟩ := vals1 r
  exact chr_of_range h0 h1 ⟨.str _, H, I.tok _, ⟨_, rfl⟩, q⟩
/-- len of a str, a bytes, a list, a tuple -/
def LenV (K : PySem.W.Frag) (x : V) (H : Hp) (n : Nat) : Prop :=
  match x with
  | .str y => y.length ≤ sizeLine ∧ n = y.length
  | .byt y => y.size ≤ sizeLine ∧ n = y.size
  | .ref p => (∃ xs, SqL K H p xs ∧ n = xs.length) ∨ ∃ xs, SqT K H p xs ∧ n = xs.length
  | _ => False
theorem call_len : CallR X (.builtin "len") (fun xs H Q => ∃ x n, xs = [x] ∧ LenV X.K x H n ∧ Q (.int n) H) := by
  intro pins s σ H xs us Q I r h
  obtain ⟨x, n, rfl, e, q⟩ := h
  obtain ⟨u, rfl, rx⟩ := vals1 r
  have hl := line63
  have hs : sizeLine = 16777216 := sizeLine_eq
  cases x with
  | str y =>
    obtain ⟨t, rfl⟩ := rx
    obtain ⟨hy, e'⟩ : y.length ≤ sizeLine ∧ n = y.length := e
    subst e'
    exact len_str (by omega) ⟨.int _, H, I.tok _, ⟨_, rfl⟩, q⟩
  | byt y =>
    obtain ⟨t, rfl⟩ := rx
    obtain ⟨hy, e'⟩ : y.size ≤ sizeLine ∧ n = y.size := e
    subst e'
    exact PySem.W.len_bytes (by omega) ⟨.int _, H, I.tok _, ⟨_, rfl⟩, q⟩
  | ref p =>
    cases rx
    have e' : (∃ xs, SqL X.K H p xs ∧ n = xs.length) ∨ ∃ xs, SqT X.K H p xs ∧ n = xs.length := e
    rcases e' with ⟨xs, hx, e'⟩ | ⟨xs, hx, e'⟩
    · subst e'
      obtain ⟨its, r', pl, hz⟩ := I.list hx
      have hlen := r'.length
      exact Calls.call_len_list pl.isList (by simp only [List.size_toArray]; omega) ⟨.int xs.length, H, I.tok _, ⟨_, by simp only [List.size_toArray]; rw [hlen]⟩, q⟩
    · subst e'
      obtain ⟨its, r', pl, hz⟩ := I.tuple hx
      have hlen := r'.length
      exact len_tuple pl (by simp only [List.size_toArray]; omega) ⟨.int xs.length, H, I.tok _, ⟨_, by simp only [List.size_toArray]; rw [hlen]⟩, q⟩
  | _ => exact (show False from e).elim
/-- divmod: a new tuple -/
theorem call_divmod : CallR X (.builtin "divmod") (fun xs H Q => ∃ i j, xs = [.int i, .int j] ∧ CDiv i j ∧ ∀ p, H p = none → Q (.ref p) (upd H p (.tup [.int (i / j), .int (i % j)]))) := by
  intro pins s σ H xs us Q I r h
  obtain ⟨i, j, rfl, ⟨h1, h2⟩, q⟩ := h
  obtain ⟨u, w', rfl, ⟨t, rfl⟩, ⟨t', rfl⟩⟩ := vals2 r
  refine divmod_int (by omega) ?_ (.inl (PyProof.noPylong_small (by omega)))
  rw [Int.fdiv_eq_ediv_of_nonneg i (by omega), Int.fmod_eq_emod_of_nonneg i (by omega)]
  have hn : H s.heap.objs.size = none := I.hok.fresh (Nat.le_refl _)
  refine ⟨.ref s.heap.objs.size, _, ?_, rfl, q _ hn⟩
  refine I.laid (fun b o e => Heap.get?_push_of_some _ e) (Nat.le_refl _) ⟨by simp only [List.length_cons, List.length_nil]; rw [sizeLine_eq]; decide, [.int (i / j) s.toks, .int (i % j) (s.toks + 1)], .cons ⟨_, rfl⟩ (.cons ⟨_, rfl⟩ .nil), ?_⟩
  exact ⟨_, Heap.get?_push_size s.heap rfl, rfl, 0, rfl⟩
end
end L2

namespace L2
open PySem PySem.Spec PyProof.Rows

/-! ### an instance, its attributes a map -/
structure ObjM (h : Heap) (x dx C : Addr) (mA : Str → Option Value) : Prop where
  obj : h.get? x = some (PySem.W.instObj C dx)
  ns : h.Ns1 dx mA
  ne : dx ≠ x

theorem lookIn_ns {h : Heap} {dx : Addr} {mA : Str → Option Value} (n : h.Ns1 dx mA) : ∃ od, h.get? dx = some od ∧ ∀ name, PySem.W.lookIn name od = some (mA name) := by
  obtain ⟨o, es, ep, ho, hd, hk, _, hm⟩ := n
  refine ⟨o, ho, fun name => ?_⟩
  have e := hm name
  unfold nsFind findBy at e
  rw [← Array.find?_toList] at e
  unfold PySem.W.lookIn
  rw [hd]
  dsimp only
  split
  · rename_i y q
    rw [q] at e
    exact congrArg some e
  · rename_i q
    rw [q] at e
    have a : es.toList.any (·.refKey) = false := by
      rw [List.any_eq_false]
      intro y hy
      obtain ⟨z, t, hkey⟩ := hk y (Array.mem_toList_iff.mp hy)
      simp [DictEntry.refKey, hkey]
    have a' : ¬ es.toList.any (·.refKey) = true := by rw [a]; exact Bool.false_ne_true
    rw [if_neg a']
    exact congrArg some e

theorem ObjM.look {h : Heap} {x dx C : Addr} {mA : Str → Option Value} (I : ObjM h x dx C mA) : ∃ od, PySem.W.InstAt h x (PySem.W.instObj C dx) C (some od) ∧ ∀ name, PySem.W.lookIn name od = some (mA name) :=
  let ⟨od, ho, hl⟩ := lookIn_ns I.ns
  ⟨od, ⟨I.obj, rfl, rfl, ho⟩, hl⟩

section
variable {prog : Program} {w : World} {A : Around} {E : Value → Shared → Prop} {s : Shared} {K : PySem.W.Frag} {x dx C f : Addr} {mA : Str → Option Value} {name : Str} {v : Value}

theorem get_map {expr : Bool} {Q : Value → Shared → Prop} (X : K.In s.heap) (I : ObjM s.heap x dx C mA) (hg : PySem.W.plainGet K C name = true) (hh : PySem.W.hasDictIn K C = true)
    (ha : PySem.W.findIn K (.ref C) name = some none) (hv : mA name = some v) (hv' : PySem.W.handedIn v = true) (h : Q v { s with toks := s.toks + 1 }) :
    wpAny (model prog w) A (getAttr (.ref x) name expr) Q E s := by
  obtain ⟨od, J, hl⟩ := I.look
  exact PySem.W.get_value X J (PySem.W.plainGet_of hg).1 (PySem.W.findObj_own hh ha rfl (by rw [hl, hv])) hv' h

theorem get_const {expr : Bool} {a : Value} {Q : Value → Shared → Prop} (X : K.In s.heap) (I : ObjM s.heap x dx C mA) (hg : PySem.W.plainGet K C name = true) (hh : PySem.W.hasDictIn K C = true)
    (ha : PySem.W.findIn K (.ref C) name = some (some a)) (hn : PySem.W.specialIn K a "__get__" = some none) (hc : PySem.W.copiedNames.contains name = false) (hv : mA name = none) (hv' : PySem.W.handedIn a = true)
    (h : Q a { s with toks := s.toks + 1 }) : wpAny (model prog w) A (getAttr (.ref x) name expr) Q E s := by
  obtain ⟨od, J, hl⟩ := I.look
  exact PySem.W.get_value X J (PySem.W.plainGet_of hg).1 (PySem.W.findObj_cls hh ha hn hv' hc (by rw [hl, hv])) hv' h

theorem get_meth {pl : Sem Bool} {Q : Value × List Value → Shared → Prop} (X : K.In s.heap) (I : ObjM s.heap x dx C mA) (hg : PySem.W.plainGet K C name = true)
    (hf : PySem.W.findIn K (.ref C) name = some (some (.ref f))) (ht : PySem.W.isFn K (.ref f) = true) (hv : mA name = none) (h : Q (.ref f, [.ref x]) s) :
    wpAny (model prog w) A (getMethod (.ref x) name pl) Q E s := by
  obtain ⟨od, J, hl⟩ := I.look
  exact PySem.W.method_fn X J (PySem.W.plainGet_of hg).1 (PySem.W.plainGet_of hg).2 hf (beq_iff_eq.mp ht) (by show (PySem.W.lookIn name od).map (·.isSome) = some false; rw [hl, hv]; rfl) h

theorem set_map {ns : List Str} {Q : Unit → Shared → Prop} (X : K.In s.heap) (I : ObjM s.heap x dx C mA)
    (hs : PySem.W.findIn K (.ref C) "__setattr__" = some (some (.builtin "object.__setattr__"))) (hp : PySem.W.plainOver K C = true) (ht : PySem.W.takerIn K C name = some none) (hh : PySem.W.hasDictIn K C = true)
    (hw : PySem.Within mA ns) (hsz : ns.length ≤ sizeLine)
    (h : ∀ h', ObjM h' x dx C (fun y => if y = name then some v else mA y) → Heap.SameBut dx s.heap h' → Q () { s with heap := h', toks := s.toks + 2 }) :
    wpAny (model prog w) A (setAttr (.ref x) name v) Q E s := by
  obtain ⟨od, J, hl⟩ := I.look
  refine PySem.W.set_plain X J hs (PySem.W.osa_open (s := { s with toks := s.toks + 1 }) (r := none) X J hp ht fun b => ?_)
  obtain ⟨cd, hc, hd'⟩ := PySem.W.any_some hh
  have hx : s.heap.get? x = some ⟨.ref C, some dx, .plain, #[]⟩ := I.obj
  refine wpAny_bind (wpAny_pure (wpAny_bind (wpAny_bind (wpAny_loadPart hx (wpAny_bind (PySem.W.Looks.here (s := { s with toks := s.toks + 1 }) (PySem.W.looks_clsIn X hc) ?_))))))
  rw [hd']
  refine wpAny_pure (a := some dx) (wpAny_bind (wpAny_pure (wpAny_bind ?_)))
  refine wpAny_nsSet1 (s := { s with toks := s.toks + 1 }) I.ns fun h' hn2 hs2 => ?_
  obtain ⟨oD, esD, epD, hoD, hdD, hcD⟩ := hn2.count (PySem.Within.cons name v hw)
  refine wpAny_bind (wpAny_lookBehind hoD (by rw [hdD]; exact pastItsLine_dict (Nat.le_trans hcD (by rw [List.length_cons]; omega))) ?_)
  exact wpAny_pure (h _ ⟨(hs2.2 _ (Ne.symm I.ne)).trans I.obj, hn2, I.ne⟩ hs2)

/-- C(..): the dict at the heap's end, the instance behind it; then its __init__ -/
theorem make_map {R : Result → Shared → Prop} {vs : List Value} {kw : List (Str × Value)} (X : K.In s.heap) (hm : PySem.W.makesIn K C = true)
    (hi : PySem.W.findIn K (.ref C) "__init__" = some (some (.ref f))) (hf : PySem.W.typeIn K (.ref f) = some (.type "function"))
    (h : codeAny (model prog w) (A.under (.builtin "type.__call__" ⟨.ref C :: vs, kw⟩)) (.call (.ref f) ⟨.ref (s.heap.objs.size + 1) :: vs, kw⟩) (PySem.W.InitBack (s.heap.objs.size + 1) R)
      { s with heap := (s.heap.push PySem.W.emptyDict).push (PySem.W.instObj C s.heap.objs.size) }) :
    codeAny (model prog w) A (.call (.ref C) ⟨vs, kw⟩) R s := by
  obtain ⟨hh, g, d, t, os⟩ := s
  exact PySem.W.make_core (PySem.W.makes_of X hm) (PySem.W.looks_findIn X hi) (fun self => PySem.W.bind_fn X self hf) (.inl rfl) h
/-- C() where there is no __init__ but object's -/
theorem make_map0 {R : Result → Shared → Prop} (X : K.In s.heap) (hm : PySem.W.makesIn K C = true)
    (hi : PySem.W.findIn K (.ref C) "__init__" = some (some (.builtin "object.__init__")))
    (hb : ∀ self, PySem.W.Looks (model prog w) s.heap (bindSpecial (.builtin "object.__init__") self) (.builtin "object.__init__", [self]))
    (h : codeAny (model prog w) (A.under (.builtin "type.__call__" ⟨[.ref C], []⟩)) (.call (.builtin "object.__init__") ⟨[.ref (s.heap.objs.size + 1)], []⟩) (PySem.W.InitBack (s.heap.objs.size + 1) R)
      { s with heap := (s.heap.push PySem.W.emptyDict).push (PySem.W.instObj C s.heap.objs.size) }) :
    codeAny (model prog w) A (.call (.ref C) ⟨[], []⟩) R s := by
  obtain ⟨hh, g, d, t, os⟩ := s
  exact PySem.W.make_core (PySem.W.makes_of X hm) (PySem.W.looks_findIn X hi) hb (.inr ⟨rfl, rfl⟩) h
end

/-! ### the attributes as a list of pairs -/
def putF (f : Str) (v : V) : List (Str × V) → List (Str × V)
  | [] => [(f, v)]
  | (g, x) :: r => if g = f then (g, v) :: r else (g, x) :: putF f v r
theorem lookup_putF (f g : Str) (v : V) : ∀ fs : List (Str × V), (putF f v fs).lookup g = if g = f then some v else fs.lookup g
  | [] => by
    show List.lookup g [(f, v)] = _
    by_cases h : g = f
    · have hb : (g == f) = true := beq_iff_eq.mpr h
      simp only [List.lookup, hb, if_pos h]
    · have hb : (g == f) = false := beq_eq_false_iff_ne.mpr h
      simp only [List.lookup, hb, if_neg h]
  | (k, x) :: r => by
    have ih := lookup_putF f g v r
    rw [show putF f v ((k, x) :: r) = (if k = f then (k, v) :: r else (k, x) :: putF f v r) from rfl]
    by_cases hk : k = f
    · rw [if_pos hk]
      by_cases h : g = k
      · have hb : (g == k) = true := beq_iff_eq.mpr h
        simp only [List.lookup, hb, if_pos (h.trans hk)]
      · have hb : (g == k) = false := beq_eq_false_iff_ne.mpr h
        simp only [List.lookup, hb, if_neg (fun e : g = f => h (e.trans hk.symm))]
    · rw [if_neg hk]
      by_cases h : g = k
      · have hb : (g == k) = true := beq_iff_eq.mpr h
        simp only [List.lookup, hb, if_neg (fun e : g = f => hk (h.symm.trans e))]
      · have hb : (g == k) = false := beq_eq_false_iff_ne.mpr h
        simp only [List.lookup, hb]
        exact ih
theorem keys_putF (f : Str) (v : V) : ∀ fs : List (Str × V), f ∈ (putF f v fs).map (·.1) ∧ ∀ g, g ∈ fs.map (·.1) → g ∈ (putF f v fs).map (·.1)
  | [] => ⟨by simp [putF], fun g h => by simp at h⟩
  | (k, x) :: r => by
    obtain ⟨i1, i2⟩ := keys_putF f v r
    rw [show putF f v ((k, x) :: r) = (if k = f then (k, v) :: r else (k, x) :: putF f v r) from rfl]
    by_cases hk : k = f
    · rw [if_pos hk]
      subst hk
      exact ⟨by simp, fun g h => by simpa using h⟩
    · rw [if_neg hk]
      refine ⟨?_, fun g h => ?_⟩
      · rw [List.map_cons]
        exact List.mem_cons_of_mem _ i1
      · rw [List.map_cons] at h ⊢
        rcases List.mem_cons.mp h with e | e
        · exact List.mem_cons.mpr (.inl e)
        · exact List.mem_cons_of_mem _ (i2 g e)
theorem length_putF (f : Str) (v : V) : ∀ fs : List (Str × V), (putF f v fs).length ≤ fs.length + 1
  | [] => by simp [putF]
  | (k, x) :: r => by
    have ih := length_putF f v r
    rw [show putF f v ((k, x) :: r) = (if k = f then (k, v) :: r else (k, x) :: putF f v r) from rfl]
    by_cases hk : k = f
    · rw [if_pos hk, List.length_cons, List.length_cons]; omega
    · rw [if_neg hk, List.length_cons, List.length_cons]; omega

theorem RelO.some_of {v : V} {o : Option Value} (r : RelO (some v) o) : ∃ u, o = some u ∧ RelV v u := by
  cases o with
  | none => exact (show False from r).elim
  | some u => exact ⟨u, rfl, r⟩
theorem RelO.none_of {o : Option Value} (r : RelO none o) : o = none := by
  cases o with
  | none => rfl
  | some u => exact (show False from r).elim
theorem handed_of {v : V} {u : Value} (r : RelV v u) : PySem.W.handedIn u = true := by
  cases v with
  | non => cases (show u = Value.none from r); rfl
  | bl b => cases (show u = Value.bool b from r); rfl
  | int i => obtain ⟨t, e⟩ := (show ∃ t, u = Value.int i t from r); cases e; rfl
  | str x => obtain ⟨t, e⟩ := (show ∃ t, u = Value.str x t from r); cases e; rfl
  | byt b => obtain ⟨t, e⟩ := (show ∃ t, u = Value.bytes b t from r); cases e; rfl
  | flt b => obtain ⟨t, e⟩ := (show ∃ t, u = Value.float b t from r); cases e; rfl
  | ref a => cases (show u = Value.ref a from r); rfl
  | ty n => cases (show u = Value.type n from r); rfl

section
variable {P : Program} {w : World} {H H' : Hp} {h h' : Heap} {a C dx : Addr} {fs fs' : List (Str × V)}
theorem ins_get (hok : HOk P w H h) (e : H a = some (.ins C dx fs)) : ∃ mA, ObjM h a dx C mA ∧ (∀ f, RelO (fs.lookup f) (mA f)) ∧ PySem.Within mA (fs.map (·.1)) ∧ fs.length ≤ 1000 ∧ H dx = some (.own a) := by
  obtain ⟨d, z, ne, ob, mA, n, r, q⟩ := (show ObjOk P w H h a (.ins C dx fs) from hok a _ e)
  exact ⟨mA, ⟨ob, n, ne⟩, r, q, z, d⟩
end

/-! ### what of the text a class must have -/
structure Cls (K : PySem.W.Frag) (C : Addr) : Prop where
  pg : PySem.W.plainGet K C Str.empty = true
  hd : PySem.W.hasDictIn K C = true
  po : PySem.W.plainOver K C = true
  sa : PySem.W.findIn K (.ref C) "__setattr__" = some (some (.builtin "object.__setattr__"))
theorem Cls.get {K : PySem.W.Frag} {C : Addr} (c : Cls K C) (f : Str) : PySem.W.plainGet K C f = true := c.pg
/-- no class of it has the name -/
def NoAttr (K : PySem.W.Frag) (C : Addr) (f : Str) : Prop := PySem.W.findIn K (.ref C) f = some none
theorem NoAttr.taker {K : PySem.W.Frag} {C : Addr} {f : Str} (n : NoAttr K C f) : PySem.W.takerIn K C f = some none := by
  unfold PySem.W.takerIn
  rw [show PySem.W.findIn K (.ref C) f = some none from n]
  rfl
/-- a constant of the class -/
structure Con (K : PySem.W.Frag) (C : Addr) (f : Str) (v : V) (u : Value) : Prop where
  at_ : PySem.W.findIn K (.ref C) f = some (some u)
  rel : RelV v u
  get : PySem.W.specialIn K u "__get__" = some none
  cp : PySem.W.copiedNames.contains f = false
/-- a method: a plain def of the class or of one above it -/
structure Meth (K : PySem.W.Frag) (C : Addr) (m : Str) (f : Addr) : Prop where
  at_ : PySem.W.findIn K (.ref C) m = some (some (.ref f))
  fn : PySem.W.isFn K (.ref f) = true
  kp : PySem.W.keepIn K (.ref f) = true

section
variable {X : Cx} {pins : List (Addr × Obj)} {σ : St} {H : Hp} {s : Shared} {a C dx : Addr} {fs : List (Str × V)} {f : Str} {v : V} {A : Around} {E : Value → Shared → Prop}

theorem getattr_ok {b : Bool} {Q : Value → Shared → Prop} (I : Inv X pins σ H s) (e : H a = some (.ins C dx fs)) (c : Cls X.K C) (n : NoAttr X.K C f) (l : fs.lookup f = some v)
    (h : ∀ u s', Inv X pins σ H s' → RelV v u → Q u s') : wpAny (model X.prog X.w) A (getAttr (.ref a) f b) Q E s := by
  obtain ⟨mA, O, r, _, _, _⟩ := ins_get I.hok e
  obtain ⟨u, hu, ru⟩ := RelO.some_of (v := v) (o := mA f) (by rw [← l]; exact r f)
  exact get_map I.kIn O (c.get f) c.hd n hu (handed_of ru) (h u _ (I.tok _) ru)

theorem getcon_ok {b : Bool} {u : Value} {Q : Value → Shared → Prop} (I : Inv X pins σ H s) (e : H a = some (.ins C dx fs)) (c : Cls X.K C) (k : Con X.K C f v u) (l : fs.lookup f = none)
    (h : ∀ s', Inv X pins σ H s' → Q u s') : wpAny (model X.prog X.w) A (getAttr (.ref a) f b) Q E s := by
  obtain ⟨mA, O, r, _, _, _⟩ := ins_get I.hok e
  have hn : mA f = none := RelO.none_of (by rw [← l]; exact r f)
  exact get_const I.kIn O (c.get f) c.hd k.at_ k.get k.cp hn (handed_of k.rel) (h _ (I.tok _))

theorem getmeth_ok {m : Str} {g : Addr} {pl : Sem Bool} {Q : Value × List Value → Shared → Prop} (I : Inv X pins σ H s) (e : H a = some (.ins C dx fs)) (c : Cls X.K C) (k : Meth X.K C m g) (l : fs.lookup m = none)
    (h : Q (.ref g, [.ref a]) s) : wpAny (model X.prog X.w) A (getMethod (.ref a) m pl) Q E s := by
  obtain ⟨mA, O, r, _, _, _⟩ := ins_get I.hok e
  have hn : mA m = none := RelO.none_of (by rw [← l]; exact r m)
  exact get_meth I.kIn O (c.get m) k.at_ k.fn hn h

theorem setattr_ok {y : V} {u : Value} {Q : Unit → Shared → Prop} (I : Inv X pins σ H s) (e : H a = some (.ins C dx fs)) (c : Cls X.K C) (n : NoAttr X.K C f) (hl : fs.length < 1000) (ry : RelV y u)
    (h : ∀ s', Inv X pins σ (upd H a (.ins C dx (putF f y fs))) s' → Q () s') : wpAny (model X.prog X.w) A (setAttr (.ref a) f u) Q E s := by
  obtain ⟨mA, O, r, wi, _, ho⟩ := ins_get I.hok e
  have hz : (fs.map (·.1)).length ≤ sizeLine := by rw [List.length_map, sizeLine_eq]; omega
  refine set_map I.kIn O c.sa c.po n.taker c.hd wi hz fun h' O' sb => h _ ?_
  have hd : ∃ o, h'.get? dx = some o := let ⟨o, _, _, e', _⟩ := O'.ns; ⟨o, e'⟩
  refine I.write (x := a) (e := dx) (by rw [e]; exact True.intro) (.inr ho) (fun b q hb z => (sb.2 b hb).trans z) hd ?_
  refine ⟨by rw [upd_ne O.ne]; exact ho, ?_, O.ne, O'.obj, _, O'.ns, fun g => ?_, fun g hg => ?_⟩
  · have := length_putF f y fs; omega
  · show RelO ((putF f y fs).lookup g) (if g = f then some u else mA g)
    rw [lookup_putF]
    by_cases q : g = f
    · rw [if_pos q, if_pos q]; exact ry
    · rw [if_neg q, if_neg q]; exact r g
  · by_cases q : g = f
    · rw [q]; exact (keys_putF f y fs).1
    · refine (keys_putF f y fs).2 g (wi g fun z => hg ?_)
      show (if g = f then some u else mA g) = none
      rw [if_neg q]; exact z

/-- a new instance, tracked, without attributes -/
theorem Inv.made (I : Inv X pins σ H s) : Inv X pins σ (upd (upd H s.heap.objs.size (.own (s.heap.objs.size + 1))) (s.heap.objs.size + 1) (.ins C s.heap.objs.size []))
    { s with heap := (s.heap.push PySem.W.emptyDict).push (PySem.W.instObj C s.heap.objs.size) } := by
  have e1 : (s.heap.push PySem.W.emptyDict).get? s.heap.objs.size = some PySem.W.emptyDict := Heap.get?_push_size s.heap rfl
  have e2 : ((s.heap.push PySem.W.emptyDict).push (PySem.W.instObj C s.heap.objs.size)).get? (s.heap.objs.size + 1) = some (PySem.W.instObj C s.heap.objs.size) := by
    have := Heap.get?_push_size (s.heap.push PySem.W.emptyDict) (o := PySem.W.instObj C s.heap.objs.size) rfl
    rwa [Heap.size_push] at this
  have e3 : (s.heap.push PySem.W.emptyDict).Ns s.heap.objs.size (fun _ => none) := ⟨PySem.W.emptyDict, #[], _, e1, rfl, (fun e he => absurd he (by simp)), fun _ => rfl⟩
  have I1 := I.laid (a := s.heap.objs.size) (o := .own (s.heap.objs.size + 1)) (h' := s.heap.push PySem.W.emptyDict) (t' := s.toks) (fun b u q => Heap.get?_push_of_some _ q) (Nat.le_refl _) ⟨_, e1⟩
  refine I1.laid (a := s.heap.objs.size + 1) (o := .ins C s.heap.objs.size []) (t' := s.toks) (fun b u q => Heap.get?_push_of_some _ q) (Nat.le_of_eq (Heap.size_push _ _)) ?_
  have ne : s.heap.objs.size ≠ s.heap.objs.size + 1 := Nat.ne_of_lt (Nat.lt_succ_self _)
  refine ⟨by rw [upd_ne ne, upd_same], Nat.zero_le _, ne, e2, fun _ => none, (Heap.Ns1.of_empty e3).at fun o q => Heap.get?_push_of_some _ q, fun _ => True.intro, fun y hy => absurd rfl hy⟩

/-- e.f where nothing but the object is asked: through attributeBase (super) and the last hold -/
theorem attr_of {prog : Program} {w : World} {env : Env} {e : Expr} {f : Str} {pos : Pos} {s : Shared} {Q : Value → Shared → Prop} (hb : attributeBase e f env (eval e env) = eval e env)
    (h : wpAny (model prog w) A (eval e env) (fun o s₁ => wpAny (model prog w) A (getAttr o f true) Q E s₁) E s) : wpAny (model prog w) A (eval (.Attribute e f pos) env) Q E s :=
  Attribute_any_ h (by rw [arm_eval_Attribute, hb])
end

/-! ### readings and rules -/
/-- e.f, an attribute of the instance -/
def tFld (K : PySem.W.Frag) (ta : TE) (f : Str) : TE := fun σ H Q => ta σ H fun x H1 => ∃ a C dx fs v, x = .ref a ∧ H1 a = some (.ins C dx fs) ∧ Cls K C ∧ NoAttr K C f ∧ fs.lookup f = some v ∧ Q v H1
/-- e.f, a constant of the class -/
def tCon (K : PySem.W.Frag) (ta : TE) (f : Str) : TE := fun σ H Q => ta σ H fun x H1 => ∃ a C dx fs v u, x = .ref a ∧ H1 a = some (.ins C dx fs) ∧ Cls K C ∧ Con K C f v u ∧ fs.lookup f = none ∧ Q v H1
/-- e.f = value -/
def sFld (K : PySem.W.Frag) (ta tv : TE) (f : Str) : TS := fun D σ H => tv σ H fun y H1 => ta σ H1 fun x H2 => ∃ a C dx fs, x = .ref a ∧ H2 a = some (.ins C dx fs) ∧ Cls K C ∧ NoAttr K C f ∧ fs.length < 1000 ∧
  D.nx σ (upd H2 a (.ins C dx (putF f y fs)))
/-- an augmented operator on two values -/
def InOp (X : Cx) (op : Operator) (rd : V → V → Hp → VK → Prop) : Prop :=
  ∀ (pins : List (Addr × Obj)) (s : Shared) (σ : St) (H : Hp) (x y : V) (u v : Value) (Q : VK), Inv X pins σ H s → RelV x u → RelV y v → rd x y H Q → wpAny (model X.prog X.w) X.A (inplaceOp op u v) (EP X pins σ Q) X.xe s
/-- e.f op= value -/
def sFldAug (K : PySem.W.Frag) (ta tv : TE) (rd : V → V → Hp → VK → Prop) (f : Str) : TS := fun D σ H => ta σ H fun x H1 => ∃ a C dx fs v, x = .ref a ∧ H1 a = some (.ins C dx fs) ∧ Cls K C ∧ NoAttr K C f ∧ fs.lookup f = some v ∧
  tv σ H1 fun y H2 => rd v y H2 fun z H3 => ∃ dx' fs', H3 a = some (.ins C dx' fs') ∧ fs'.length < 1000 ∧ D.nx σ (upd H3 a (.ins C dx' (putF f z fs')))

section
variable {X : Cx} {o e value : Expr} {f : Str} {pos pos' tpos : Pos} {ta tv : TE}
theorem pe_fld (he : PE X e ta) (hb : attributeBase e f X.env (eval e X.env) = eval e X.env) : PE X (.Attribute e f pos) (tFld X.K ta f) := by
  intro pins s σ H Q I h
  refine attr_of hb (thn (he pins s σ H _ I h) fun u s1 ⟨x, H1, I1, rx, a, C, dx, fs, v, ex, ea, c, n, l, q⟩ => ?_)
  subst ex
  obtain rfl : u = Value.ref a := rx
  exact getattr_ok I1 ea c n l fun u' s2 I2 ru => ⟨v, H1, I2, ru, q⟩
theorem pe_con (he : PE X e ta) (hb : attributeBase e f X.env (eval e X.env) = eval e X.env) : PE X (.Attribute e f pos) (tCon X.K ta f) := by
  intro pins s σ H Q I h
  refine attr_of hb (thn (he pins s σ H _ I h) fun u s1 ⟨x, H1, I1, rx, a, C, dx, fs, v, u0, ex, ea, c, k, l, q⟩ => ?_)
  subst ex
  obtain rfl : u = Value.ref a := rx
  exact getcon_ok I1 ea c k l fun s2 I2 => ⟨v, H1, I2, k.rel, q⟩
theorem ps_fld (ha : PE X o ta) (hv : PE X value tv) (hs : swapsWith value (some (.Attribute o f pos')) pos.line X.env = pure false) : PS X (.Assign [.Attribute o f pos'] value pos) (sFld X.K ta tv f) := by
  intro pins s σ H D I h
  refine plainObj_wpAny_Assign_Attribute (thn (hv pins s σ H _ I h) fun u s1 ⟨y, H1, I1, ry, q⟩ => thn (ha pins s1 σ H1 _ I1 q) fun ov s2 ⟨x, H2, I2, rx, a, C, dx, fs, ex, ea, c, n, l, q2⟩ => ?_) hs
  subst ex
  obtain rfl : ov = Value.ref a := rx
  exact setattr_ok I2 ea c n l ry fun s3 I3 => ⟨σ, _, I3, q2⟩
theorem ps_fldaug {op : Operator} {rd : V → V → Hp → VK → Prop} (ha : PE X o ta) (hv : PE X value tv) (hop : InOp X op rd) : PS X (.AugAssign (.Attribute o f tpos) op value pos) (sFldAug X.K ta tv rd f) := by
  intro pins s σ H D I h
  refine wpAny_AugAssign_AttributeAny (thn (ha pins s σ H _ I h) fun ov s1 ⟨x, H1, I1, rx, a, C, dx, fs, v, ex, ea, c, n, l, q⟩ => ?_)
  subst ex
  obtain rfl : ov = Value.ref a := rx
  refine getattr_ok I1 ea c n l fun u s2 I2 ru => thn (hv pins s2 σ H1 _ I2 q) fun w3 s3 ⟨y, H2, I3, ry, q3⟩ => thn (hop pins s3 σ H2 v y u w3 _ I3 ru ry q3) fun w4 s4 ⟨z, H3, I4, rz, dx', fs', ea', l', q4⟩ => ?_
  exact setattr_ok I4 ea' c n l' rz fun s5 I5 => ⟨σ, _, I5, q4⟩
def rAdd : V → V → Hp → VK → Prop := fun x y H Q => ∃ i j, x = .int i ∧ y = .int j ∧ Q (.int (i + j)) H
def rSub : V → V → Hp → VK → Prop := fun x y H Q => ∃ i j, x = .int i ∧ y = .int j ∧ Q (.int (i - j)) H
theorem in_add : InOp X .Add rAdd := by
  rintro pins s σ H x y u v Q I rx ry ⟨i, j, rfl, rfl, q⟩
  obtain ⟨t, rfl⟩ := (show ∃ t, u = Value.int i t from rx)
  obtain ⟨t', rfl⟩ := (show ∃ t', v = Value.int j t' from ry)
  exact PyProof.Rows.iadd_int ⟨.int (i + j), H, I.tok _, ⟨_, rfl⟩, q⟩
theorem in_sub : InOp X .Sub rSub := by
  rintro pins s σ H x y u v Q I rx ry ⟨i, j, rfl, rfl, q⟩
  obtain ⟨t, rfl⟩ := (show ∃ t, u = Value.int i t from rx)
  obtain ⟨t', rfl⟩ := (show ∃ t', v = Value.int j t' from ry)
  exact PyProof.Rows.isub_int ⟨.int (i - j), H, I.tok _, ⟨_, rfl⟩, q⟩

/-- what is between an instance and its method: the tree of a method call -/
theorem methcall_of {pl : Sem Bool} {m : Str} {apos : Pos} {args : List Expr} {pins : List (Addr × Obj)} {s : Shared} {σ : St} {H : Hp} {Q : Value → Shared → Prop} {te : TE} (he : PE X e te) (I : Inv X pins σ H s)
    (h : te σ H fun x H1 => ∃ a C dx fs g, x = .ref a ∧ H1 a = some (.ins C dx fs) ∧ Cls X.K C ∧ Meth X.K C m g ∧ fs.lookup m = none ∧
      ∀ s1, Inv X pins σ H1 s1 → wpAny (model X.prog X.w) X.A (callWith pos (.ref g) [.ref a] (backTo pos (starEach args X.env)) (backToKw pos (keywordEach [] X.env))) Q X.xe s1)
    (ht : eval (.Call (.Attribute e m apos) args [] pos) X.env = (do
      let ov ← eval e X.env
      standAt apos.atName
      let (f, first) ← holding [ov] (getMethod ov m pl)
      callWith pos f first (backTo pos (starEach args X.env)) (backToKw pos (keywordEach [] X.env)))) :
    wpAny (model X.prog X.w) X.A (eval (.Call (.Attribute e m apos) args [] pos) X.env) Q X.xe s := by
  refine PySem.W.methodCall_KW (pl := pl) (thn (he pins s σ H _ I h) fun u s1 ⟨x, H1, I1, rx, a, C, dx, fs, g, ex, ea, c, k, l, q⟩ => ?_) ht
  subst ex
  obtain rfl : u = Value.ref a := rx
  exact getmeth_ok I1 ea c k l (q s1 I1)
end

/-! ### isinstance -/
section
variable {X : Cx} {pins : List (Addr × Obj)} {σ : St} {H : Hp} {s : Shared} {A : Around} {E : Value → Shared → Prop} {Q : Value → Shared → Prop} {c : Value} {b : Bool}
/-- the type of a value, as the fragment's deciders take it; for an instance its class -/
inductive TyOf (K : PySem.W.Frag) (H : Hp) : V → Value → Prop where
  | non : TyOf K H .non (.type "NoneType")
  | bl (x : Bool) : TyOf K H (.bl x) (.type "bool")
  | int (i : Int) : TyOf K H (.int i) (.type "int")
  | str (x : Str) : TyOf K H (.str x) (.type "str")
  | flt (x : UInt64) : TyOf K H (.flt x) (.type "float")
  | lst {a : Addr} {xs : List V} (e : H a = some (.lst xs)) : TyOf K H (.ref a) (.type "list")
  | frz {a : Addr} {o : Obj} {xs : List V} (e : H a = some (.frz o (.lst xs))) : TyOf K H (.ref a) (.type "list")
  | tup {a : Addr} {xs : List V} (e : H a = some (.tup xs)) : TyOf K H (.ref a) (.type "tuple")
  | dK {a : Addr} {kvs : List (Key × V)} (e : H a = some (.dK kvs)) : TyOf K H (.ref a) (.type "dict")
  | dT {a : Addr} {kvs : List (List Key × V)} (e : H a = some (.dT kvs)) : TyOf K H (.ref a) (.type "dict")
  | ins {a C dx : Addr} {fs : List (Str × V)} (e : H a = some (.ins C dx fs)) (cl : Cls K C) (ha : PySem.W.findIn K (.ref C) "__class__" = some (some (.builtin "object.__class__")))
      (hn : PySem.W.specialIn K (.builtin "object.__class__") "__get__" = some (some (.builtin "getset_descriptor.__get__"))) (htk : PySem.W.takesIn K (.builtin "object.__class__") = some true)
      (hm : PySem.W.mroIn K C (.type "object") = some true) : TyOf K H (.ref a) (.ref C)
/-- isinstance(x, c) for one class c, a built-in or an own one: kitOne's answer -/
theorem isinst_ok {x : V} {u t : Value} (I : Inv X pins σ H s) (rx : RelV x u) (ty : TyOf X.K H x t) (e : PySem.W.kitOne X.K t c = some b) (h : ∀ tk, Q (.bool b) { s with toks := tk }) :
    wpAny (model X.prog X.w) A (call (.builtin "isinstance") [u, c]) Q E s := by
  cases ty with
  | non => cases (show u = Value.none from rx); exact PySem.W.kia_one PySem.W.kitx_none I.kIn True.intro e (fun z => nomatch z) h
  | bl y => cases (show u = Value.bool y from rx); exact PySem.W.kia_one PySem.W.kitx_bool I.kIn True.intro e (fun z => nomatch z) h
  | int i => obtain ⟨t, q⟩ := (show ∃ t, u = Value.int i t from rx); cases q; exact PySem.W.kia_one PySem.W.kitx_int I.kIn True.intro e (fun z => nomatch z) h
  | str y => obtain ⟨t, q⟩ := (show ∃ t, u = Value.str y t from rx); cases q; exact PySem.W.kia_one PySem.W.kitx_str I.kIn True.intro e (fun z => nomatch z) h
  | flt y => obtain ⟨t, q⟩ := (show ∃ t, u = Value.float y t from rx); cases q; exact PySem.W.kia_one PySem.W.kitx_float I.kIn True.intro e (fun z => nomatch z) h
  | @lst a xs ea =>
    cases (show u = Value.ref a from rx)
    obtain ⟨_, _, n, _, h1⟩ := (show ObjOk X.prog X.w H s.heap a (.lst xs) from I.hok a _ ea)
    exact PySem.W.kia_one PySem.W.kitx_list I.kIn ⟨_, h1, rfl⟩ e (fun z => nomatch z) h
  | @frz a ob xs ea =>
    cases (show u = Value.ref a from rx)
    obtain ⟨_, _, _, n, _, h1⟩ := (show ObjOk X.prog X.w H s.heap a (.frz ob (.lst xs)) from I.hok a _ ea)
    exact PySem.W.kia_one PySem.W.kitx_list I.kIn ⟨_, h1, rfl⟩ e (fun z => nomatch z) h
  | @tup a xs ea =>
    cases (show u = Value.ref a from rx)
    obtain ⟨_, _, _, p⟩ := (show ObjOk X.prog X.w H s.heap a (.tup xs) from I.hok a _ ea)
    obtain ⟨o, h1, h2, _⟩ := p
    exact PySem.W.kia_one PySem.W.kitx_tuple I.kIn ⟨o, h1, h2⟩ e (fun z => nomatch z) h
  | @dK a kvs ea =>
    cases (show u = Value.ref a from rx)
    obtain ⟨_, _, vs, _, p⟩ := (show ObjOk X.prog X.w H s.heap a (.dK kvs) from I.hok a _ ea)
    obtain ⟨o, es, ep, h1, h2, _⟩ := p
    exact PySem.W.kia_one PySem.W.kitx_dict I.kIn ⟨o, h1, h2.1⟩ e (fun z => nomatch z) h
  | @dT a kvs ea =>
    cases (show u = Value.ref a from rx)
    obtain ⟨_, _, xs, _, o, es, ep, h1, h2, _⟩ := (show ObjOk X.prog X.w H s.heap a (.dT kvs) from I.hok a _ ea)
    exact PySem.W.kia_one PySem.W.kitx_dict I.kIn ⟨o, h1, h2.1⟩ e (fun z => nomatch z) h
  | @ins a C dx fs ea cl ha hn htk hm =>
    cases (show u = Value.ref a from rx)
    obtain ⟨mA, O, _⟩ := ins_get I.hok ea
    obtain ⟨od, J, _⟩ := O.look
    exact PySem.W.kia_one (PySem.W.kitx_own (cl.get _) cl.hd ha hn htk hm) I.kIn J e (fun z => nomatch z) h
end
end L2

namespace L2
open PySem PySem.Spec PyProof.Rows

/-! ### room -/
structure Room (k : Nat) (A : Around) : Prop where
  hd : A.handled = none
  dp : A.depth + 3 * k + 5 < recursionLimit
  un : A.units + 16 * k + 200 < cLine
theorem Room.mono {j k : Nat} {A : Around} (r : Room k A) (h : j ≤ k) : Room j A := ⟨r.hd, by have := r.dp; omega, by have := r.un; omega⟩
theorem Room.deeper {k : Nat} {A : Around} (r : Room (k + 1) A) (env : Env) : Room k (A.deeper env) :=
  ⟨r.hd, by have := r.dp; show A.depth + 1 + 3 * k + 5 < _; omega, by have := r.un; show A.units + 3 + 16 * k + 200 < _; omega⟩
theorem Room.in1 {k : Nat} {A : Around} (r : Room (k + 1) A) : Room k A.in1 :=
  ⟨r.hd, by have := r.dp; show A.depth + 3 * k + 5 < _; omega, by have := r.un; show A.units + 1 + 16 * k + 200 < _; omega⟩
theorem make_depth {A : Around} {C : Addr} {us : List Value} {kw : List (Str × Value)} : (A.under (.builtin "type.__call__" ⟨.ref C :: us, kw⟩)).depth = A.depth + 1 := by
  first | rfl | simp [Around.under, Code.weight, Code.isCreation, Code.isGuard, Code.isCaller, Code.frames, Code.isFrame, guardIds]
theorem make_units {A : Around} {C : Addr} {us : List Value} {kw : List (Str × Value)} : (A.under (.builtin "type.__call__" ⟨.ref C :: us, kw⟩)).units = A.units + 1 := by
  first | rfl | simp [Around.under, Code.cUnits, Code.frames, Code.isFrame]
theorem Room.make {k : Nat} {A : Around} (r : Room (k + 1) A) (C : Addr) (us : List Value) (kw : List (Str × Value)) : Room k (A.under (.builtin "type.__call__" ⟨.ref C :: us, kw⟩)) :=
  ⟨r.hd, by have := r.dp; rw [make_depth]; omega, by have := r.un; rw [make_units]; omega⟩
theorem Room.depth {k : Nat} {A : Around} (r : Room k A) : A.depth < recursionLimit := by have := r.dp; omega
theorem Room.units {k : Nat} {A : Around} (r : Room k A) : A.units + 64 < cLine := by have := r.un; omega
theorem Room.units0 {k : Nat} {A : Around} (r : Room k A) : A.units < cLine := by have := r.un; omega

/-! ### argument lists and displays -/
def tNil : TA := fun _ H Q => Q [] H
def tCons (ta : TE) (tr : TA) : TA := fun σ H Q => ta σ H fun x H1 => tr σ H1 fun xs H2 => Q (x :: xs) H2
section
variable {X : Cx} {e : Expr} {es : List Expr} {te : TE} {t : TA} {pos : Pos}
theorem pa_nil : PA X [] tNil := fun _ _ _ _ H Q I h => Calls.spliced_nil ⟨[], H, I, .nil, h⟩
theorem pa_cons (ha : PE X e te) (hr : PA X es t) (hs : starEach (e :: es) X.env = (false, eval e X.env) :: starEach es X.env := by rfl) : PA X (e :: es) (tCons te t) := by
  intro pos pins s σ H Q I h
  rw [hs]
  show wpAny _ _ (spliced ((false, eval e X.env) :: backTo pos (starEach es X.env))) _ _ s
  refine Calls.spliced_cons (thn (ha pins s σ H _ I h) fun u s1 ⟨x, H1, I1, r1, q1⟩ => ?_)
  exact thn (hr pos pins s1 σ H1 _ I1 q1) fun us s2 ⟨xs, H2, I2, r2, q2⟩ => ⟨x :: xs, H2, I2, .cons r1 r2, q2⟩

/-- a tuple, a list of written items -/
def tTup (t : TA) : TE := fun σ H Q => t σ H fun xs H1 => xs.length ≤ sizeLine ∧ ∀ p, H1 p = none → Q (.ref p) (upd H1 p (.tup xs))
def tLst (t : TA) : TE := fun σ H Q => t σ H fun xs H1 => xs.length ≤ sizeLine ∧ ∀ p, H1 p = none → Q (.ref p) (upd H1 p (.lst xs))
theorem pe_tup {x1} (h : PA X es t) : PE X (.Tuple es x1 pos) (tTup t) := by
  intro pins s σ H Q I hq
  refine wpAny_Tuple_spliced (thn (h pos pins s σ H _ I hq) fun us s1 ⟨xs, H1, I1, r, z, q⟩ => ⟨by rw [← r.length]; exact z, ?_⟩)
  have hf : H1 s1.heap.objs.size = none := I1.hok.fresh (Nat.le_refl _)
  refine ⟨.ref s1.heap.objs.size, upd H1 s1.heap.objs.size (.tup xs), I1.laid (t' := s1.toks) (fun b u e => Heap.get?_push_of_some _ e) (Nat.le_refl _) ?_, rfl, q _ hf⟩
  exact ⟨z, us, r, ⟨_, Heap.get?_push_size _ rfl, rfl, _, rfl⟩⟩
theorem pe_lst (h : PA X es t) : PE X (.List es pos) (tLst t) := by
  intro pins s σ H Q I hq
  refine wpAny_List_spliced (thn (h pos pins s σ H _ I hq) fun us s1 ⟨xs, H1, I1, r, z, q⟩ => ⟨by rw [← r.length]; exact z, ?_⟩)
  have hf : H1 s1.heap.objs.size = none := I1.hok.fresh (Nat.le_refl _)
  refine ⟨.ref s1.heap.objs.size, upd H1 s1.heap.objs.size (.lst xs), I1.laid (t' := s1.toks) (fun b u e => Heap.get?_push_of_some _ e) (Nat.le_refl _) ?_, rfl, q _ hf⟩
  exact ⟨z, us, 0, r, Heap.get?_push_size _ rfl⟩
end

/-! ### what a def promises -/
/-- a def's promise: the bound arguments in the parameters' order, the heap, the wanted end, the wanted exception -/
abbrev Sp := List V → Hp → VK → XK → Prop
/-- how an exception lies behind a call (file 08 gives it): the callers' frames, abstract heap and state ahead of the call, the wish, the exception, the state -/
abbrev CXT := List Env → Hp → Shared → XK → Value → Shared → Prop

/-- the state at a call -/
structure Env0 (P : Program) (w : World) (K : PySem.W.Frag) (mg : Str → Option Value) (base : Heap) (A : Around) (outer : List Env) (s : Shared) (H : Hp) : Prop where
  frames : A.frames = some outer
  mod : Mod K mg base
  bs : ∀ b o, base.get? b = some o → s.heap.get? b = some o ∧ H b = none
  bsz : base.objs.size ≤ s.heap.objs.size
  funs : s.heap.FunFrames base outer
  frf : ∀ b ∈ frs outer, H b = none
  hok : HOk P w H s.heap
  bare : AllBare s.gens
/-- a call's end -/
def CE (outer : List Env) (P : Program) (w : World) (H : Hp) (s : Shared) (Q : VK) (u : Value) (s' : Shared) : Prop :=
  ∃ v H', s'.os = s.os ∧ AllBare s'.gens ∧ Un (frs outer) [] H H' s.heap s'.heap ∧ HOk P w H' s'.heap ∧ RelV v u ∧ Q v H'
def CR (CX : CXT) (outer : List Env) (P : Program) (w : World) (H : Hp) (s : Shared) (Q : VK) (E : XK) (r : Result) (s' : Shared) : Prop :=
  match r with
  | .ok (.ret u) => CE outer P w H s Q u s'
  | .ok _ => False
  | .error e => CX outer H s E e s'
structure FnOk (P : Program) (w : World) (K : PySem.W.Frag) (mg : Str → Option Value) (base : Heap) (CX : CXT) (k : Nat) (f : Addr) (fd : FuncData) (ps : List Str) (sp : Sp) : Prop where
  len : ∀ vs H Q E, sp vs H Q E → vs.length = ps.length
  run : ∀ (A : Around) (outer : List Env) (s : Shared) (H : Hp) (args : Args) (us : List Value) (vs : List V) (Q : VK) (E : XK), Room k A → Env0 P w K mg base A outer s H → BindsTo s fd args (ps.zip us) → Vals vs us → sp vs H Q E →
    codeAny (model P w) A (.call (.ref f) args) (CR CX outer P w H s Q E) s
theorem FnOk.mono {P : Program} {w : World} {K : PySem.W.Frag} {mg : Str → Option Value} {base : Heap} {CX : CXT} {j k : Nat} {f : Addr} {fd : FuncData} {ps : List Str} {sp : Sp} (F : FnOk P w K mg base CX j f fd ps sp) (h : j ≤ k) :
    FnOk P w K mg base CX k f fd ps sp := ⟨F.len, fun A outer s H args us vs Q E hr => F.run A outer s H args us vs Q E (hr.mono h)⟩
/-- a weaker promise -/
theorem FnOk.imp {P : Program} {w : World} {K : PySem.W.Frag} {mg : Str → Option Value} {base : Heap} {CX : CXT} {k : Nat} {f : Addr} {fd : FuncData} {ps : List Str} {sp sp' : Sp} (F : FnOk P w K mg base CX k f fd ps sp)
    (h : ∀ vs H Q E, sp' vs H Q E → sp vs H Q E) : FnOk P w K mg base CX k f fd ps sp' :=
  ⟨fun vs H Q E q => F.len vs H Q E (h _ _ _ _ q), fun A outer s H args us vs Q E hr he hb hv hs => F.run A outer s H args us vs Q E hr he hb hv (h _ _ _ _ hs)⟩

theorem Env0.make {P : Program} {w : World} {K : PySem.W.Frag} {mg : Str → Option Value} {base : Heap} {A : Around} {outer : List Env} {s : Shared} {H : Hp} (e : Env0 P w K mg base A outer s H) (C : Addr) (us : List Value) (kw : List (Str × Value)) :
    Env0 P w K mg base (A.under (.builtin "type.__call__" ⟨.ref C :: us, kw⟩)) outer s H := ⟨by first | exact e.frames | (simpa [Around.under, Code.envs, Code.isFrame, pushEnvs] using e.frames), e.mod, e.bs, e.bsz, e.funs, e.frf, e.hok, e.bare⟩
theorem Env0.in1 {P : Program} {w : World} {K : PySem.W.Frag} {mg : Str → Option Value} {base : Heap} {A : Around} {outer : List Env} {s : Shared} {H : Hp} (e : Env0 P w K mg base A outer s H) :
    Env0 P w K mg base A.in1 outer s H := ⟨e.frames, e.mod, e.bs, e.bsz, e.funs, e.frf, e.hok, e.bare⟩

section
variable {X : Cx} {pins : List (Addr × Obj)} {σ : St} {H : Hp} {s s' : Shared}
/-- from a body: what a callee wants -/
theorem Inv.env0 (I : Inv X pins σ H s) : Env0 X.prog X.w X.K X.mg X.base X.A X.stack s H :=
  ⟨I.ok.frames, I.ok.mod, I.bs, Nat.le_trans I.ok.bsz I.sz, I.stack, I.stkFree, I.hok, I.bare⟩
/-- behind a call -/
theorem Inv.after {Q : VK} {u : Value} (I : Inv X pins σ H s) (h : CE X.stack X.prog X.w H s Q u s') : EP X pins σ Q u s' := by
  obtain ⟨v, H', os, bare, un, hok, r, q⟩ := h
  obtain ⟨hh, g, d, t, os'⟩ := s'
  obtain rfl : os' = s.os := os
  exact ⟨v, H', I.call (h' := hh) (g' := g) (d' := d) (t' := t) (ch := []) un hok bare (fun b z => absurd z (by simp)), r, q⟩
end

/-! ### calls -/
/-- f(..): the written arguments, then the defaults dvs; E: what is wanted of an exception -/
def tCall (sp : Sp) (dvs : List V) (E : XK) (t : TA) : TE := fun σ H Q => t σ H fun vs H1 => sp (vs ++ dvs) H1 Q E
/-- o.m(..) of an instance of the class at C -/
def tMeth (C : Addr) (m : Str) (sp : Sp) (dvs : List V) (E : XK) (ta : TE) (t : TA) : TE := fun σ H Q => ta σ H fun x H1 => ∃ a dx fs, x = .ref a ∧ H1 a = some (.ins C dx fs) ∧ fs.lookup m = none ∧
  t σ H1 fun vs H2 => sp (x :: (vs ++ dvs)) H2 Q E
/-- C(..): a new instance and its dict, then __init__ -/
def tMake (C : Addr) (sp : Sp) (dvs : List V) (E : XK) (t : TA) : TE := fun σ H Q => t σ H fun vs H1 => ∀ x dx, H1 x = none → H1 dx = none → dx ≠ x →
  sp (.ref x :: (vs ++ dvs)) (upd (upd H1 dx (.own x)) x (.ins C dx [])) (fun v H2 => v = .non ∧ Q (.ref x) H2) E

/-- how the parameters are bound: us the positional arguments, kw the keywords' values by name, ds the defaults that fill up -/
def Binds (K : PySem.W.Frag) (fd : FuncData) (ps : List Str) (ds : List Value) : Prop :=
  ∀ (s : Shared) (us : List Value), K.In s.heap → (us ++ ds).length = ps.length → BindsTo s fd ⟨us, []⟩ (ps.zip (us ++ ds))
/-- every parameter is given -/
theorem Binds.all {K : PySem.W.Frag} {fd : FuncData} {ps : List Str} (h : ∀ us : List Value, us.length = ps.length → bindArgs fd ⟨us, []⟩ = pure (ps.zip us)) : Binds K fd ps [] := fun s us _ hl => by
  rw [List.append_nil] at hl ⊢
  exact .of_eq (h us hl)

/-- an exception of a callee reaches what this body wants of exceptions -/
def Passes (CX : CXT) (X : Cx) (E : XK) : Prop := ∀ (pins : List (Addr × Obj)) (σ : St) (H : Hp) (s : Shared) (e : Value) (s' : Shared), Inv X pins σ H s → CX X.stack H s E e s' → X.xe e s'

section
variable {X : Cx} {CX : CXT} {k : Nat} {f C : Addr} {fd : FuncData} {ps : List Str} {sp : Sp} {dvs : List V} {ds : List Value} {E : XK} {x m : Str} {p pos apos : Pos} {e o : Expr} {es : List Expr} {ta : TE} {t : TA}

/-- the callee runs -/
theorem run_fn {pins : List (Addr × Obj)} {σ : St} {H : Hp} {s : Shared} {Q : VK} {us : List Value} {vs : List V} (F : FnOk X.prog X.w X.K X.mg X.base CX k f fd ps sp) (hr : Room k X.A) (hb : Binds X.K fd ps ds) (hd : Vals dvs ds) (hx : Passes CX X E)
    (I : Inv X pins σ H s) (r : Vals vs us) (h : sp (vs ++ dvs) H Q E) : wpAny (model X.prog X.w) X.A (call (.ref f) us) (EP X pins σ Q) X.xe s := by
  have r2 : Vals (vs ++ dvs) (us ++ ds) := r.append hd
  have hl : (us ++ ds).length = ps.length := by rw [← r2.length]; exact F.len _ _ _ _ h
  refine wpAny_call (codeAny_mono (F.run X.A X.stack s H ⟨us, []⟩ (us ++ ds) (vs ++ dvs) Q E hr I.env0 (hb s us I.kIn hl) r2 h) fun r s' hq => ?_)
  cases r with
  | error e => exact hx pins σ H s e s' I hq
  | ok fl =>
    cases fl with
    | ret u => exact I.after hq
    | next => exact False.elim hq
    | brk => exact False.elim hq
    | cont => exact False.elim hq

theorem pe_call (F : FnOk X.prog X.w X.K X.mg X.base CX k f fd ps sp) (hr : Room k X.A) (hg : Gl X x) (hm : X.mg x = some (.ref f)) (hk : PySem.W.keepIn X.K (.ref f) = true) (hb : Binds X.K fd ps ds) (hd : Vals dvs ds) (hx : Passes CX X E)
    (ha : PA X (e :: es) t) (hdb : (x == ("__debug__" : Str)) = false := by decide) (he : starEach (e :: es) X.env = (false, eval e X.env) :: starEach es X.env := by rfl) (hpl : (backTo pos (starEach es X.env)).any (·.1) = false := by rfl) :
    PE X (.Call (.Name x p) (e :: es) [] pos) (tCall sp dvs E t) := by
  intro pins s σ H Q I h
  refine wpAny_Call_Name_kw (ld_glob I hg hm ?_ hdb)
  refine PySem.W.callWith_K (h₀ := X.base) I.ok.mod.kin hk (thn (ha pos pins s σ H _ I h) fun us s1 ⟨vs, H1, I1, r, q⟩ => ⟨I1.kIn, ?_⟩) he hpl
  exact run_fn F hr hb hd hx I1 r q
theorem pe_call0 (F : FnOk X.prog X.w X.K X.mg X.base CX k f fd ps sp) (hr : Room k X.A) (hg : Gl X x) (hm : X.mg x = some (.ref f)) (hk : PySem.W.keepIn X.K (.ref f) = true) (hb : Binds X.K fd ps ds) (hd : Vals dvs ds) (hx : Passes CX X E)
    (hdb : (x == ("__debug__" : Str)) = false := by decide) : PE X (.Call (.Name x p) [] [] pos) (tCall sp dvs E tNil) := by
  intro pins s σ H Q I h
  refine wpAny_Call_Name_kw (ld_glob I hg hm ?_ hdb)
  exact PySem.W.callWith_K0 I.kIn hk (run_fn (us := []) F hr hb hd hx I .nil h)

/-- o.m(e, ..) -/
theorem pe_meth {pl : Sem Bool} (he : PE X o ta) (c : Cls X.K C) (hm : Meth X.K C m f) (F : FnOk X.prog X.w X.K X.mg X.base CX k f fd ps sp) (hr : Room k X.A) (hb : Binds X.K fd ps ds) (hd : Vals dvs ds) (hx : Passes CX X E) (ha : PA X (e :: es) t)
    (hst : starEach (e :: es) X.env = (false, eval e X.env) :: starEach es X.env := by rfl) (hpl : (backTo pos (starEach es X.env)).any (·.1) = false := by rfl)
    (ht : eval (.Call (.Attribute o m apos) (e :: es) [] pos) X.env = (do
      let ov ← eval o X.env
      standAt apos.atName
      let (f, first) ← holding [ov] (getMethod ov m pl)
      callWith pos f first (backTo pos (starEach (e :: es) X.env)) (backToKw pos (keywordEach [] X.env))) := by rfl) :
    PE X (.Call (.Attribute o m apos) (e :: es) [] pos) (tMeth C m sp dvs E ta t) := by
  intro pins s σ H Q I h
  refine PySem.W.methodCall_KW (pl := pl) (thn (he pins s σ H _ I h) fun u s1 ⟨x, H1, I1, rx, a, dx, fs, ex, ea, l, q⟩ => ?_) ht
  subst ex
  obtain rfl : u = Value.ref a := rx
  refine getmeth_ok I1 ea c hm l ?_
  refine PySem.W.callWith_K (first := [.ref a]) (h₀ := X.base) I.ok.mod.kin hm.kp (thn (ha pos pins s1 σ H1 _ I1 q) fun us s2 ⟨vs, H2, I2, r, q2⟩ => ⟨I2.kIn, ?_⟩) hst hpl
  exact run_fn (us := .ref a :: us) (vs := .ref a :: vs) F hr hb hd hx I2 (.cons rfl r) q2
/-- o.m() -/
theorem pe_meth0 {pl : Sem Bool} (he : PE X o ta) (c : Cls X.K C) (hm : Meth X.K C m f) (F : FnOk X.prog X.w X.K X.mg X.base CX k f fd ps sp) (hr : Room k X.A) (hb : Binds X.K fd ps ds) (hd : Vals dvs ds) (hx : Passes CX X E)
    (ht : eval (.Call (.Attribute o m apos) [] [] pos) X.env = (do
      let ov ← eval o X.env
      standAt apos.atName
      let (f, first) ← holding [ov] (getMethod ov m pl)
      callWith pos f first (backTo pos (starEach [] X.env)) (backToKw pos (keywordEach [] X.env))) := by rfl) :
    PE X (.Call (.Attribute o m apos) [] [] pos) (tMeth C m sp dvs E ta tNil) := by
  intro pins s σ H Q I h
  refine PySem.W.methodCall_KW (pl := pl) (thn (he pins s σ H _ I h) fun u s1 ⟨x, H1, I1, rx, a, dx, fs, ex, ea, l, q⟩ => ?_) ht
  subst ex
  obtain rfl : u = Value.ref a := rx
  refine getmeth_ok I1 ea c hm l ?_
  exact PySem.W.callWith_K0 (first := [.ref a]) I1.kIn hm.kp (run_fn (us := [.ref a]) (vs := [.ref a]) F hr hb hd hx I1 (.cons rfl .nil) q)

/-- what a class must have to be made -/
structure Mk (K : PySem.W.Frag) (C f : Addr) : Prop where
  makes : PySem.W.makesIn K C = true
  init : PySem.W.findIn K (.ref C) "__init__" = some (some (.ref f))
  fn : PySem.W.isFn K (.ref f) = true
  kp : PySem.W.keepIn K (.ref C) = true

theorem run_make {pins : List (Addr × Obj)} {σ : St} {H : Hp} {s : Shared} {Q : VK} {us : List Value} {vs : List V} (M : Mk X.K C f) (F : FnOk X.prog X.w X.K X.mg X.base CX k f fd ps sp) (hr : Room (k + 1) X.A) (hb : Binds X.K fd ps ds) (hd : Vals dvs ds)
    (hx : Passes CX X E) (I : Inv X pins σ H s) (r : Vals vs us)
    (h : ∀ x dx, H x = none → H dx = none → dx ≠ x → sp (.ref x :: (vs ++ dvs)) (upd (upd H dx (.own x)) x (.ins C dx [])) (fun v H2 => v = .non ∧ Q (.ref x) H2) E) :
    wpAny (model X.prog X.w) X.A (call (.ref C) us) (EP X pins σ Q) X.xe s := by
  have hq := h (s.heap.objs.size + 1) s.heap.objs.size (I.hok.fresh (Nat.le_succ _)) (I.hok.fresh (Nat.le_refl _)) (Nat.ne_of_lt (Nat.lt_succ_self _))
  have I2 := Inv.made (C := C) I
  have r2 : Vals (V.ref (s.heap.objs.size + 1) :: (vs ++ dvs)) (Value.ref (s.heap.objs.size + 1) :: (us ++ ds)) := .cons rfl (r.append hd)
  have hl : (Value.ref (s.heap.objs.size + 1) :: us ++ ds).length = ps.length := by
    have e := r2.length
    rw [F.len _ _ _ _ hq] at e
    exact e.symm
  refine wpAny_call (make_map (f := f) I.kIn M.makes M.init (beq_iff_eq.mp M.fn) (codeAny_mono (F.run _ X.stack _ _ ⟨Value.ref (s.heap.objs.size + 1) :: us, []⟩ (Value.ref (s.heap.objs.size + 1) :: (us ++ ds)) _ _ E (hr.make C us [])
    (I2.env0.make C us []) (hb _ (Value.ref (s.heap.objs.size + 1) :: us) I2.kIn hl) r2 hq) fun r s' hq' => ?_))
  cases r with
  | error e => exact hx pins σ _ _ e s' I2 hq'
  | ok fl =>
    cases fl with
    | ret u =>
      obtain ⟨v, H', I3, rv, ev, q3⟩ := I2.after hq'
      subst ev
      exact ⟨rv, ⟨V.ref (s.heap.objs.size + 1), H', I3, rfl, q3⟩⟩
    | next => exact False.elim hq'
    | brk => exact False.elim hq'
    | cont => exact False.elim hq'
theorem pe_make (M : Mk X.K C f) (F : FnOk X.prog X.w X.K X.mg X.base CX k f fd ps sp) (hr : Room (k + 1) X.A) (hg : Gl X x) (hm : X.mg x = some (.ref C)) (hb : Binds X.K fd ps ds) (hd : Vals dvs ds) (hx : Passes CX X E)
    (ha : PA X (e :: es) t) (hdb : (x == ("__debug__" : Str)) = false := by decide) (he : starEach (e :: es) X.env = (false, eval e X.env) :: starEach es X.env := by rfl) (hpl : (backTo pos (starEach es X.env)).any (·.1) = false := by rfl) :
    PE X (.Call (.Name x p) (e :: es) [] pos) (tMake C sp dvs E t) := by
  intro pins s σ H Q I h
  refine wpAny_Call_Name_kw (ld_glob I hg hm ?_ hdb)
  refine PySem.W.callWith_K (h₀ := X.base) I.ok.mod.kin M.kp (thn (ha pos pins s σ H _ I h) fun us s1 ⟨vs, H1, I1, r, q⟩ => ⟨I1.kIn, ?_⟩) he hpl
  exact run_make M F hr hb hd hx I1 r q
theorem pe_make0 (M : Mk X.K C f) (F : FnOk X.prog X.w X.K X.mg X.base CX k f fd ps sp) (hr : Room (k + 1) X.A) (hg : Gl X x) (hm : X.mg x = some (.ref C)) (hb : Binds X.K fd ps ds) (hd : Vals dvs ds) (hx : Passes CX X E)
    (hdb : (x == ("__debug__" : Str)) = false := by decide) : PE X (.Call (.Name x p) [] [] pos) (tMake C sp dvs E tNil) := by
  intro pins s σ H Q I h
  refine wpAny_Call_Name_kw (ld_glob I hg hm ?_ hdb)
  exact PySem.W.callWith_K0 I.kIn M.kp (run_make (us := []) M F hr hb hd hx I .nil h)
end

/-! ### keywords -/
/-- the values of the keywords, from the left -/
def PK (X : Cx) (kws : List Keyword) (t : TA) : Prop :=
  ∀ (pos : Pos) (pins : List (Addr × Obj)) (s : Shared) (σ : St) (H : Hp) (Q : List V → Hp → Prop), Inv X pins σ H s → t σ H Q → wpAny (model X.prog X.w) X.A (evalAll ((backToKw pos (keywordEach kws X.env)).map (·.2))) (AP X pins σ Q) X.xe s
section
variable {X : Cx} {CX : CXT} {k : Nat} {f C : Addr} {fd : FuncData} {ps ks : List Str} {sp : Sp} {E : XK} {x m : Str} {p pos apos kpos : Pos} {e o : Expr} {es : List Expr} {kws : List Keyword} {te ta : TE} {t tk : TA} {nm : Option Str}
theorem pk_nil : PK X [] tNil := fun _ _ _ _ H Q I h => wpAny_evalAll_nil ⟨[], H, I, .nil, h⟩
theorem pk_cons (ha : PE X e te) (hr : PK X kws t) : PK X (⟨nm, e, kpos⟩ :: kws) (tCons te t) := by
  intro pos pins s σ H Q I h
  show wpAny _ _ (evalAll ((do let v ← eval e X.env; standAt pos; pure v) :: (backToKw pos (keywordEach kws X.env)).map (·.2))) _ _ s
  refine wpAny_evalAll_cons (wpAny_bind (thn (ha pins s σ H _ I h) fun u s1 ⟨x, H1, I1, r1, q1⟩ => wpAny_bind (wpAny_standAt (wpAny_pure ?_))))
  exact thn (hr pos pins s1 σ H1 _ I1 q1) fun us s2 ⟨xs, H2, I2, r2, q2⟩ => ⟨x :: xs, H2, I2, .cons r1 r2, q2⟩

/-- how a call with keywords binds: g puts the positional values us and the keywords' values ws (names ks) in the parameters' order, defaults among them -/
structure KBinds (K : PySem.W.Frag) (fd : FuncData) (ps ks : List Str) (g : List Value → List Value → List Value) (gV : List V → List V → List V) : Prop where
  to : ∀ (s : Shared) (us ws : List Value), K.In s.heap → (g us ws).length = ps.length → BindsTo s fd ⟨us, ks.zip ws⟩ (ps.zip (g us ws))
  rel : ∀ {vs : List V} {us : List Value} {zs : List V} {ws : List Value}, Vals vs us → Vals zs ws → Vals (gV vs zs) (g us ws)
def tCallK (sp : Sp) (gV : List V → List V → List V) (E : XK) (t tk : TA) : TE := fun σ H Q => t σ H fun vs H1 => tk σ H1 fun zs H2 => sp (gV vs zs) H2 Q E
variable {g : List Value → List Value → List Value} {gV : List V → List V → List V}
theorem run_fnk {pins : List (Addr × Obj)} {σ : St} {H : Hp} {s : Shared} {Q : VK} {us ws : List Value} {vs zs : List V} (F : FnOk X.prog X.w X.K X.mg X.base CX k f fd ps sp) (hr : Room k X.A) (hb : KBinds X.K fd ps ks g gV) (hx : Passes CX X E)
    (I : Inv X pins σ H s) (r : Vals vs us) (rz : Vals zs ws) (h : sp (gV vs zs) H Q E) : wpAny (model X.prog X.w) X.A (call (.ref f) us (ks.zip ws)) (EP X pins σ Q) X.xe s := by
  have r2 := hb.rel r rz
  have hl : (g us ws).length = ps.length := by rw [← r2.length]; exact F.len _ _ _ _ h
  refine wpAny_call (codeAny_mono (F.run X.A X.stack s H ⟨us, ks.zip ws⟩ (g us ws) (gV vs zs) Q E hr I.env0 (hb.to s us ws I.kIn hl) r2 h) fun r s' hq => ?_)
  cases r with
  | error e => exact hx pins σ H s e s' I hq
  | ok fl =>
    cases fl with
    | ret u => exact I.after hq
    | next => exact False.elim hq
    | brk => exact False.elim hq
    | cont => exact False.elim hq
/-- f(e, .., k = v, ..) -/
theorem pe_callK (F : FnOk X.prog X.w X.K X.mg X.base CX k f fd ps sp) (hr : Room k X.A) (hg : Gl X x) (hm : X.mg x = some (.ref f)) (hk : PySem.W.keepIn X.K (.ref f) = true) (hb : KBinds X.K fd ps ks g gV) (hx : Passes CX X E)
    (ha : PA X (e :: es) t) (hkw : PK X kws tk) (hall : (backToKw pos (keywordEach kws X.env)).all (·.1.isSome) = true := by rfl) (hks : (backToKw pos (keywordEach kws X.env)).filterMap (·.1) = ks := by rfl)
    (hdb : (x == ("__debug__" : Str)) = false := by decide) (he : starEach (e :: es) X.env = (false, eval e X.env) :: starEach es X.env := by rfl)
    (hpl : ((backTo pos (starEach (e :: es) X.env)).any (·.1) || (backToKw pos (keywordEach kws X.env)).any (·.1.isNone)) = false := by rfl) :
    PE X (.Call (.Name x p) (e :: es) kws pos) (tCallK sp gV E t tk) := by
  intro pins s σ H Q I h
  refine wpAny_Call_Name_kw (ld_glob I hg hm ?_ hdb)
  refine PySem.W.callWith_KW (h₀ := X.base) I.ok.mod.kin hk hall (thn (ha pos pins s σ H _ I h) fun us s1 ⟨vs, H1, I1, r, q⟩ => ?_) hpl he
  refine thn (hkw pos pins s1 σ H1 _ I1 q) fun ws s2 ⟨zs, H2, I2, rz, q2⟩ => ⟨I2.kIn, ?_⟩
  rw [hks]
  exact run_fnk F hr hb hx I2 r rz q2
end

/-! ### a def's body keeps its promise -/
/-- names: the parameters first -/
structure FnScope (N P : List Str) (sc : Scope) : Prop where
  kind : sc.kind = .function
  co : sc.isCoroutine = false
  gen : sc.isGenerator = false
  nd : N.Nodup
  pre : N.take P.length = P
  par : ∀ x ∈ P, sc.names.lookup x = some .local ∨ sc.names.lookup x = some .cell
  nofree : ∀ y ∈ sc.names, y.2 ≠ .free

theorem bindL_out {kindOf : Str → Option NameKind} {x : Str} : ∀ {binds : List (Str × Value)} {m : Str → Option Value}, (∀ v, (x, v) ∉ binds) → bindL kindOf binds m x = m x
  | [], _, _ => rfl
  | (n, v) :: r, m, h => by
    unfold bindL
    rw [bindL_out fun w hw => h w (List.mem_cons_of_mem _ hw)]
    split
    · have : x ≠ n := by rintro rfl; exact h v List.mem_cons_self
      simp [this]
    · rfl
theorem bindC_out {kindOf : Str → Option NameKind} {x : Str} : ∀ {binds : List (Str × Value)} {m : Str → Option Value}, (∀ v, (x, v) ∉ binds) → bindC kindOf binds m x = m x
  | [], _, _ => rfl
  | (n, v) :: r, m, h => by
    unfold bindC
    rw [bindC_out fun w hw => h w (List.mem_cons_of_mem _ hw)]
    split
    · rfl
    · have : x ≠ n := by rintro rfl; exact h v List.mem_cons_self
      simp [this]
theorem bindL_get {kindOf : Str → Option NameKind} {x : Str} {v : Value} : ∀ {P : List Str} {vs : List Value} {i : Nat} {m : Str → Option Value}, P.Nodup → P[i]? = some x → vs[i]? = some v → kindOf x = some .local →
    bindL kindOf (P.zip vs) m x = some v
  | [], _, _, _, _, h, _, _ => by simp at h
  | _ :: _, [], _, _, _, _, h, _ => by simp at h
  | p :: P, w :: vs, 0, m, nd, h1, h2, hk => by
    simp at h1 h2; subst h1; subst h2
    show bindL kindOf ((p, w) :: P.zip vs) m p = _
    unfold bindL
    rw [bindL_out fun v hv => (List.nodup_cons.mp nd).1 (List.of_mem_zip hv).1, if_pos hk]
    simp
  | p :: P, w :: vs, i + 1, m, nd, h1, h2, hk => by
    show bindL kindOf ((p, w) :: P.zip vs) m x = _
    unfold bindL
    exact bindL_get (i := i) (List.nodup_cons.mp nd).2 (by simpa using h1) (by simpa using h2) hk
theorem bindC_get {kindOf : Str → Option NameKind} {x : Str} {v : Value} : ∀ {P : List Str} {vs : List Value} {i : Nat} {m : Str → Option Value}, P.Nodup → P[i]? = some x → vs[i]? = some v → kindOf x ≠ some .local →
    bindC kindOf (P.zip vs) m x = some v
  | [], _, _, _, _, h, _, _ => by simp at h
  | _ :: _, [], _, _, _, _, h, _ => by simp at h
  | p :: P, w :: vs, 0, m, nd, h1, h2, hk => by
    simp at h1 h2; subst h1; subst h2
    show bindC kindOf ((p, w) :: P.zip vs) m p = _
    unfold bindC
    rw [bindC_out fun v hv => (List.nodup_cons.mp nd).1 (List.of_mem_zip hv).1, if_neg hk]
    simp
  | p :: P, w :: vs, i + 1, m, nd, h1, h2, hk => by
    show bindC kindOf ((p, w) :: P.zip vs) m x = _
    unfold bindC
    exact bindC_get (i := i) (List.nodup_cons.mp nd).2 (by simpa using h1) (by simpa using h2) hk

/-- the names' values at the entry -/
def start (N : List Str) (vs : List V) : St := vs.map some ++ List.replicate (N.length - vs.length) none

/-- the context of a def's body, at its entry; an exception leaves the frame, then lies as CX says -/
def cxOf (CX : CXT) (P : Program) (w : World) (K : PySem.W.Frag) (mg : Str → Option Value) (base : Heap) (N : List Str) (qual : Str) (scope : Scope) (f : Addr) (cd : Value) (A : Around) (outer : List Env) (s : Shared) (H : Hp) (E : XK) : Cx where
  prog := P
  w := w
  K := K
  mg := mg
  base := base
  A := A.deeper (envOfC qual scope s.heap.objs.size f cd)
  N := N
  s₀ := s
  H₀ := H
  env := envOfC qual scope s.heap.objs.size f cd
  outer := outer
  stack := envOfC qual scope s.heap.objs.size f cd :: outer
  ex := []
  calm := true
  fn := fun _ => true
  pn := []
  xe := fun e s' => wpAny (model P w) (A.deeper (envOfC qual scope s.heap.objs.size f cd)) (leaving (envOfC qual scope s.heap.objs.size f cd) e) (fun _ s'' => CX outer H s E e s'') (fun e' s'' => CX outer H s E e' s'') s'

theorem cell_has {sc : Scope} {n : Nat} {x : Str} (h : sc.names.lookup x = some .cell) : ∃ c, (cellsFrom n sc.names []).lookup x = some c := by
  have q := PySem.W.cellsFrom_some sc.names n [] (.inl h)
  exact Option.isSome_iff_exists.mp q

theorem inv_start {CX : CXT} {P : Program} {w : World} {K : PySem.W.Frag} {mg : Str → Option Value} {base : Heap} {N ps : List Str} {qual : Str} {scope : Scope} {f : Addr} {cd : Value} {A : Around} {outer : List Env} {s s1 : Shared} {H : Hp} {E : XK} {us : List Value} {vs : List V}
    (S : FnScope N ps scope) (hd : A.handled = none) (e0 : Env0 P w K mg base A outer s H) (hl : vs.length = ps.length) (r : Vals vs us)
    (x : InCallC s s.heap.objs.size (bindL (envOfC qual scope s.heap.objs.size f cd).kindOf (ps.zip us) fun _ => none) (cellsFrom (s.heap.objs.size + 1) scope.names []) (bindC (envOfC qual scope s.heap.objs.size f cd).kindOf (ps.zip us) fun _ => none) s1) :
    Inv (cxOf CX P w K mg base N qual scope f cd A outer s H E) [] (start N vs) H s1 := by
  have hpl : ps.length ≤ N.length := by have := congrArg List.length S.pre; rw [List.length_take] at this; omega
  obtain ⟨h1, tk, rfl, hk⟩ := x.done
  have noA : ∀ b : Addr, b ∉ (cxOf CX P w K mg base N qual scope f cd A outer s H E).ex := fun b z => absurd (show b ∈ ([] : List Addr) from z) (by simp)
  refine ⟨⟨e0.mod, S.kind, rfl, rfl, Nat.le_refl _, fun y z c h1 h2 => ?_, fun y hy => ?_, fun y c _ h => ?_, fun _ => hd, Around.frames_deeper e0.frames, .inr ⟨rfl, rfl⟩, fun b z => absurd z (noA b), e0.bs, e0.bsz, fun b _ _ => noA b, fun b z => absurd z (noA b), e0.funs, e0.frf⟩,
    rfl, e0.bare, Un.kept hk, ⟨_, x.toInCall.ns, fun i y v h1 h2 h3 => ?_⟩, fun y c h => ⟨_, x.cell y c h⟩, e0.hok.fresh (Nat.le_refl _), fun y c h => ?_, fun p hp => absurd (show p ∈ ([] : List (Addr × Obj)) from hp) (by simp), e0.hok.kept hk, ?_⟩
  · exact name_of_addr x.apart (PySem.mem_of_lookup h1) (PySem.mem_of_lookup h2)
  · have hy : scope.names.lookup y = some .cell ∨ scope.names.lookup y = some .free := hy
    rcases hy with hy | hy
    · exact cell_has hy
    · exact absurd rfl (S.nofree _ (PySem.mem_of_lookup hy))
  · exact Nat.le_of_lt (x.above y c (PySem.mem_of_lookup h))
  · have hi : i < vs.length := by
      unfold start at h2
      by_cases hi : i < vs.length
      · exact hi
      · rw [List.getElem?_append_right (by simpa using hi)] at h2
        rw [List.getElem?_replicate] at h2
        split at h2 <;> cases h2
    have ha : vs[i]? = some v := by
      unfold start at h2
      rw [List.getElem?_append_left (by simpa using hi), List.getElem?_map] at h2
      cases e : vs[i]? with
      | none => rw [e] at h2; cases h2
      | some a => rw [e] at h2; cases h2; rfl
    obtain ⟨u, hu, rv⟩ := r.get ha
    have hp : ps[i]? = some y := by
      rw [← S.pre, List.getElem?_take_of_lt (by omega)]; exact h1
    have ndP : ps.Nodup := by rw [← S.pre]; exact S.nd.sublist (List.take_sublist _ _)
    refine ⟨u, rv, ?_⟩
    rcases S.par y (List.mem_of_getElem? hp) with k | k
    · exact .inl ⟨k, bindL_get ndP hp hu k⟩
    · obtain ⟨c, e⟩ := cell_has (n := s.heap.objs.size + 1) k
      refine .inr ⟨.inl k, c, e, ?_⟩
      have q := x.cell y c e
      rw [bindC_get ndP hp hu (by show scope.names.lookup y ≠ _; rw [k]; decide)] at q
      exact q
  · exact e0.hok.fresh (Nat.le_of_lt (x.above y c (PySem.mem_of_lookup h)))
  · unfold start
    show _ = N.length
    rw [List.length_append, List.length_map, List.length_replicate]
    omega

/-- THE RULE: a def (or a method) of the text, by its body. The body's reading t is chosen for each entry; it is run at the parameters' values -/
theorem fn_of {CX : CXT} {P : Program} {w : World} {K : PySem.W.Frag} {mg : Str → Option Value} {base : Heap} {k : Nat} {f : Addr} {name qual : Str} {params : Arguments} {body : List Stmt} {scope : Scope} {dV kV doc pm cdv ct oc : Value} {an od : Option Addr}
    {osl : Array (Option Value)} {N ps : List Str} {sp : Sp} (lk : K.lookup f = some ⟨oc, od, .func (PySem.W.fnOf name qual params body scope dV kV doc pm an cdv ct), osl⟩) (hcd : PySem.W.codeIn K cdv qual = true) (S : FnScope N ps scope)
    (len : ∀ vs H Q E, sp vs H Q E → vs.length = ps.length)
    (hbody : ∀ (A : Around) (outer : List Env) (s : Shared) (H : Hp) (vs : List V) (Q : VK) (E : XK), Room k (A.deeper (envOfC qual scope s.heap.objs.size f cdv)) → sp vs H Q E →
      ∃ t, PSs (cxOf CX P w K mg base N qual scope f cdv A outer s H E) body t ∧ t { nx := fun _ H' => Q .non H', rt := Q } (start N vs) H) :
    FnOk P w K mg base CX (k + 1) f (PySem.W.fnOf name qual params body scope dV kV doc pm an cdv ct) ps sp := by
  refine ⟨len, fun A outer s H args us vs Q E hr e0 hb r hsp => ?_⟩
  have hl := len _ _ _ _ hsp
  have KX : K.In s.heap := e0.mod.kin.keeps fun b o e => (e0.bs b o e).1
  have lim : s.heap.NoLimit := e0.mod.nolimit.keeps fun b o e => (e0.bs b o e).1
  have hkind : ∀ y ∈ ps.zip us, scope.names.lookup y.1 = some .local ∨ (scope.names.lookup y.1 = some .cell ∧ ((cellsFrom (s.heap.objs.size + 1) scope.names []).lookup y.1).isSome = true) := fun ⟨n, v⟩ hy => by
    rcases S.par n (List.of_mem_zip hy).1 with q | q
    · exact .inl q
    · exact .inr ⟨q, PySem.W.cellsFrom_some _ _ _ (.inl q)⟩
  refine codeAny_call_function hr.depth (KX _ _ lk) rfl S.co S.gen rfl (PySem.W.codeRec_of KX hcd) (hb _ _ _ _ ?_)
  refine wpAny_newFunctionEnv_cells S.kind hkind fun env he s1 x => ?_
  subst he
  refine ⟨lim.keeps x.toInCall.keep, codeAny_func ?_⟩
  obtain ⟨t, ht, hq⟩ := hbody A outer s H vs Q E (hr.deeper _) hsp
  have I : Inv (cxOf CX P w K mg base N qual scope f cdv A outer s H E) [] (start N vs) H s1 := inv_start S hr.hd e0 hl r x
  refine wpAny_mono (ht [] s1 (start N vs) H _ I hq) (fun fl s' hs => ?_) fun e s' hs => hs
  have fin : ∀ {σ' : St} {H' : Hp} {v : V} {u : Value}, Inv (cxOf CX P w K mg base N qual scope f cdv A outer s H E) [] σ' H' s' → RelV v u → Q v H' → CE outer P w H s Q u s' :=
    fun {σ' H' v u} J rv q => ⟨v, H', J.os, J.bare, J.base, J.hok, rv, q⟩
  cases fl with
  | ret u =>
    obtain ⟨v, σ', H', J, rv, q⟩ := hs
    exact fin J rv q
  | next =>
    obtain ⟨σ', H', J, q⟩ := hs
    exact fin (v := V.non) (u := Value.none) J rfl q
  | brk =>
    obtain ⟨_, _, _, q⟩ := hs
    exact False.elim q
  | cont =>
    obtain ⟨_, _, _, q⟩ := hs
    exact False.elim q
end L2

namespace L2
open PySem PySem.Spec PyProof.Rows
section
variable {X : Cx} {x : Str} {p pos : Pos} {e : Expr} {es : List Expr} {t : TA} {id T : String} {r : List V → Hp → VK → Prop}

def tCB (r : List V → Hp → VK → Prop) (t : TA) : TE := fun σ H Q => t σ H fun vs H1 => r vs H1 Q
/-- f(e, ..), f a built-in function -/
theorem pe_callB (hc : CallR X (.builtin id) r) (hg : Gl X x) (hm : X.mg x = none) (hv : bootBuiltins x = some (.builtin id)) (ha : PA X (e :: es) t) (hn : x ≠ "__name__" := by decide) (hdb : (x == ("__debug__" : Str)) = false := by decide)
    (he : starEach (e :: es) X.env = (false, eval e X.env) :: starEach es X.env := by rfl) (hpl : (backTo pos (starEach es X.env)).any (·.1) = false := by rfl) : PE X (.Call (.Name x p) (e :: es) [] pos) (tCB r t) := by
  intro pins s σ H Q I h
  refine wpAny_Call_Name_kw (ld_blt I hg hm hv ?_ hn hdb)
  exact PyProof.Rows.callWith_builtin1 (thn (ha pos pins s σ H _ I h) fun us s1 ⟨vs, H1, I1, r1, q1⟩ => hc pins s1 σ H1 vs us Q I1 r1 q1) he hpl
/-- T(e, ..), T a built-in type -/
theorem pe_callTy (hc : CallR X (.type T) r) (hg : Gl X x) (hm : X.mg x = none) (hv : bootBuiltins x = some (.type T)) (ha : PA X (e :: es) t) (hn : x ≠ "__name__" := by decide) (hdb : (x == ("__debug__" : Str)) = false := by decide)
    (he : starEach (e :: es) X.env = (false, eval e X.env) :: starEach es X.env := by rfl) (hpl : (backTo pos (starEach es X.env)).any (·.1) = false := by rfl) : PE X (.Call (.Name x p) (e :: es) [] pos) (tCB r t) := by
  intro pins s σ H Q I h
  refine wpAny_Call_Name_kw (ld_blt I hg hm hv ?_ hn hdb)
  exact PyProof.Rows.callWith_type1 (thn (ha pos pins s σ H _ I h) fun us s1 ⟨vs, H1, I1, r1, q1⟩ => hc pins s1 σ H1 vs us Q I1 r1 q1) he hpl
/-- T() -/
theorem pe_callTy0 (hc : CallR X (.type T) r) (hg : Gl X x) (hm : X.mg x = none) (hv : bootBuiltins x = some (.type T)) (hn : x ≠ "__name__" := by decide) (hdb : (x == ("__debug__" : Str)) = false := by decide) :
    PE X (.Call (.Name x p) [] [] pos) (tCB r tNil) := by
  intro pins s σ H Q I h
  refine wpAny_Call_Name_kw (ld_blt I hg hm hv ?_ hn hdb)
  exact PyProof.Rows.callWith_type0 (hc pins s σ H [] [] Q I .nil h)
end
end L2

namespace HT
open PySem PyProof.Rows

/-- t < u of tuples of ints -/
def lexLt : List Int → List Int → Bool
  | [], [] => false
  | [], _ :: _ => true
  | _ :: _, [] => false
  | x :: xs, y :: ys => if x = y then lexLt xs ys else decide (x < y)
theorem lexLt_cons (x y : Int) (xs ys : List Int) : lexLt (x :: xs) (y :: ys) = if x = y then lexLt xs ys else decide (x < y) := rfl
theorem lexLt_nil_nil : lexLt [] [] = false := rfl
theorem lexLt_nil_cons (y : Int) (ys : List Int) : lexLt [] (y :: ys) = true := rfl
theorem lexLt_cons_nil (x : Int) (xs : List Int) : lexLt (x :: xs) [] = false := rfl

theorem eqAt_int (A : Around) (s : Shared) (a : Int) (t : Tok) (c : Int) (u : Tok) : ∃ e, SeqAt.EqAt A s (.int a t) (.int c u) e ∧ (e = true ↔ a = c) :=
  ⟨(a == c), SeqAt.EqAt.int_int a t c u, by simp⟩
theorem rcLt_int (A : Around) (s : Shared) (a : Int) (t : Tok) (c : Int) (u : Tok) (prog : Program) (w : World) (E : Value → Shared → Prop) (Q : Value → Shared → Prop) (h : Q (.bool (decide (a < c))) s) :
    wpAny (model prog w) A (richCompare .Lt (.int a t) (.int c u)) Q E s :=
  (PyProof.Rows.lt_int h : wpAny (model prog w) A (compareOp .Lt (.int a t) (.int c u)) Q E s)

section
open PySem.SeqAt
open PySem.AutoSeq1 (wpAny_loadPart')
open PySem.MeetsSeq PySem.MeetsSeq2 PySem.MeetsSeq3

theorem tuple_lt_ints (l b : Addr) (items items2 : Array Value) (n n2 : Nat) (dd dd2 : Option Addr) (sl sl2 : Array (Option Value)) (ns ms : List Int) (hi : IntsAre items.toList ns) (hj : IntsAre items2.toList ms) :
    Meets (Builtin.«tuple.__lt__» ⟨[.ref l, .ref b], []⟩)
      (fun _ R s => s.heap.get? l = some { cls := .type "tuple", dict := dd, data := .seq items n, slots := sl } ∧ s.heap.get? b = some { cls := .type "tuple", dict := dd2, data := .seq items2 n2, slots := sl2 } ∧
        R (.ok (.ret (.bool (lexLt ns ms)))) s) :=
  .of_wp fun prog w A R s h => by
    obtain ⟨hp, g, d, tk, os⟩ := s; obtain ⟨hl, hb, h⟩ := h
    have f2 := AutoSeq1.sub_tuple_tuple
    have z1 : items.size = ns.length := by rw [← hi.length]; simp
    have z2 : items2.size = ms.length := by rw [← hj.length]; simp
    wp_walk using wpAny_loadPart' hl, wpAny_loadPart' hb, wpAny_forIn_list _ (fun rest b s' => b.1 = none ∧ s' = ⟨hp, g, d, tk, os⟩ ∧ ∃ (vs ws : List Value) (ns' ms' : List Int), rest = vs.zip ws ∧
      IntsAre vs ns' ∧ IntsAre ws ms' ∧ ns'.length + items2.size = ms'.length + items.size ∧ R (.ok (.ret (.bool (lexLt ns' ms')))) ⟨hp, g, d, tk, os⟩) _
    case turn =>
      rintro ⟨y, x⟩ rest b s' ⟨hb', rfl, vs, ws, ns', ms', hz, hvi, hwi, hlen, hR⟩
      cases hvi with
      | nil => rw [List.zip_nil_left] at hz; cases hz
      | cons a t hvi' =>
        cases hwi with
        | nil => rw [List.zip_nil_right] at hz; cases hz
        | cons c u hwi' =>
          rw [List.zip_cons_cons] at hz
          injection hz with hyx hrest
          injection hyx with hy hx
          subst hy hx
          rw [lexLt_cons] at hR
          simp only [List.length_cons] at hlen
          obtain ⟨e, he, hiff⟩ := eqAt_int A.in1 ⟨hp, g, d, tk, os⟩ a t c u
          refine wpAny_bind (he prog w _ _ ?_)
          cases e with
          | true =>
            rw [if_pos (hiff.mp rfl)] at hR
            wp_walk
            exact ⟨rfl, rfl, _, _, _, _, hrest, hvi', hwi', by omega, hR⟩
          | false =>
            rw [if_neg (fun q => absurd (hiff.mpr q) Bool.false_ne_true)] at hR
            have hri := rcLt_int A.in1 ⟨hp, g, d, tk, os⟩ a t c u prog w
            wp_walk using hri
            exact ⟨_, rfl, by simpa using hR⟩
    case fin =>
      rintro ⟨b1, b2⟩ s' ⟨hb', rfl, vs, ws, ns', ms', hz, hvi, hwi, hlen, hR⟩
      simp only at hb'
      subst hb'
      have hv : lexLt ns' ms' = decide (items.size < items2.size) := by
        cases hvi with
        | nil =>
          cases hwi with
          | nil =>
            simp only [List.length_nil] at hlen
            rw [lexLt_nil_nil]
            exact (decide_eq_false (by omega)).symm
          | cons c u hw =>
            simp only [List.length_nil, List.length_cons] at hlen
            rw [lexLt_nil_cons]
            exact (decide_eq_true (by omega)).symm
        | cons a t hv =>
          cases hwi with
          | nil =>
            simp only [List.length_nil, List.length_cons] at hlen
            rw [lexLt_cons_nil]
            exact (decide_eq_false (by omega)).symm
          | cons c u hw =>
            rw [List.zip_cons_cons] at hz
            cases hz
      rw [hv] at hR
      wp_walk
      exact ⟨_, rfl, by simpa [Builtin.Tuple.tupleCompareSizes] using hR⟩
    case h =>
      exact ⟨rfl, rfl, items.toList, items2.toList, ns, ms, rfl, hi, hj, by omega, h⟩
end

section
variable {prog : Program} {w : World} {A : Around} {E : Value → Shared → Prop} {s : Shared}

theorem lt_tupInts {l b : Addr} {items items2 : Array Value} {ns ms : List Int} {Q : Value → Shared → Prop} (hl : IsTup s.heap l items) (hb : IsTup s.heap b items2) (hi : IntsAre items.toList ns) (hj : IntsAre items2.toList ms)
    (hu : A.units < cLine) (h : Q (.bool (lexLt ns ms)) s) : wpAny (model prog w) A (compareOp .Lt (.ref l) (.ref b)) Q E s := by
  obtain ⟨⟨cls, dd, data, sl⟩, ho, hc, n, hd⟩ := id hl
  obtain ⟨⟨cls2, dd2, data2, sl2⟩, ho2, hc2, n2, hd2⟩ := id hb
  simp only at hc hd hc2 hd2
  subst hc hd hc2 hd2
  exact richCompare_meets_room (op := .Lt) ⟨_, ho, rfl⟩ ⟨_, ho2, rfl⟩ PySem.F.slot_tuple_lt PySem.F.entry_tuple_lt (PySem.F.args_tuple_lt_2 _ _) (tuple_lt_ints l b items items2 n n2 dd dd2 sl sl2 ns ms hi hj)
    ⟨ho, ho2, show Value.bool (lexLt ns ms) ≠ Value.notImplemented ∧ Q (.bool (lexLt ns ms)) s from ⟨(fun x => nomatch x), h⟩⟩ hu

/-- t + u, t not empty -/
theorem cat_tup {t b : Addr} {vs ws : List Value} {Q : Value → Shared → Prop} (ht : IsTup s.heap t vs.toArray) (hb : IsTup s.heap b ws.toArray) (hv : vs ≠ [])
    (h1 : ws = [] → Q (.ref t) s) (h2 : ws ≠ [] → Q (.ref s.heap.objs.size) { s with heap := s.heap.push { cls := .type "tuple", data := .seq (vs ++ ws).toArray } })
    (hsz : vs.length + ws.length ≤ sizeLine) : wpAny (model prog w) A (binaryOp .Add (.ref t) (.ref b)) Q E s := by
  obtain ⟨⟨cls, dd, data, sl⟩, ho, hc, n, hd⟩ := id ht
  obtain ⟨⟨cls2, dd2, data2, sl2⟩, ho2, hc2, n2, hd2⟩ := id hb
  simp only at hc hd hc2 hd2
  subst hc hd hc2 hd2
  have e : vs.toArray ++ ws.toArray = (vs ++ ws).toArray := by simp
  by_cases hw : ws = []
  · exact concat_meets ⟨_, ho, rfl⟩ ⟨_, ho2, rfl⟩ noFill_tuple_add seq_tuple_add PySem.F.slot_tuple_add PySem.F.entry_tuple_add (PySem.F.args_tuple_add_2 _ _)
      (tuple_addW1 t b vs.toArray ws.toArray n n2 dd dd2 sl sl2 (by simpa using hv) (by simp [hw])) ⟨ho, ho2, h1 hw⟩
  · refine concat_meets ⟨_, ho, rfl⟩ ⟨_, ho2, rfl⟩ noFill_tuple_add seq_tuple_add PySem.F.slot_tuple_add PySem.F.entry_tuple_add (PySem.F.args_tuple_add_2 _ _)
      (tuple_addW2 t b vs.toArray ws.toArray n n2 dd dd2 sl sl2 (by simpa using hv) (by simpa using hw) (by rw [List.size_toArray, List.size_toArray]; exact hsz)) ⟨ho, ho2, ?_⟩
    rw [e]
    exact h2 hw

/-! ### t[a:b], not the whole -/
/-- a slice's bound as a place among n (d where it is left out) -/
def sIx (n d : Nat) : Option Int → Nat
  | none => d
  | some v => if v < 0 then (v + (n : Int)).toNat else min v.toNat n
theorem sIx_none (n d : Nat) : sIx n d none = d := rfl
theorem sIx_nat (n d k : Nat) : sIx n d (some (k : Int)) = min k n := by
  show (if (k : Int) < 0 then ((k : Int) + (n : Int)).toNat else min (k : Int).toNat n) = min k n
  rw [if_neg (by omega), Int.toNat_natCast]
theorem sIx_le (n d : Nat) (hd : d ≤ n) (o : Option Int) : sIx n d o ≤ n := by
  cases o with
  | none => exact hd
  | some v =>
    show (if v < 0 then (v + (n : Int)).toNat else min v.toNat n) ≤ n
    by_cases hv : v < 0
    · rw [if_pos hv]; omega
    · rw [if_neg hv]; exact Nat.min_le_right _ _
theorem clip_eq (v : Int) (n d : Nat) : (if v < 0 then max (v + (n : Int)) 0 else min v (n : Int)) = ((sIx n d (some v) : Nat) : Int) := by
  show (if v < 0 then max (v + (n : Int)) 0 else min v (n : Int)) = (((if v < 0 then (v + (n : Int)).toNat else min v.toNat n) : Nat) : Int)
  by_cases hv : v < 0
  · simp only [if_pos hv]; omega
  · simp only [if_neg hv]; omega
theorem adjust_gen (lo hi : Option Int) (n : Nat) : Builtin.Slice.sliceAdjust lo hi 1 (n : Int) = (((sIx n 0 lo : Nat) : Int), ((sIx n n hi : Nat) : Int)) := by
  have h1 : ¬ ((1 : Int) < 0) := by omega
  unfold Builtin.Slice.sliceAdjust
  simp only [h1, if_false]
  refine Prod.ext ?_ ?_
  · cases lo with
    | none => rfl
    | some v => exact clip_eq v n 0
  · cases hi with
    | none => rfl
    | some v => exact clip_eq v n n
theorem places_gen (i j : Nat) : Builtin.Slice.slicePlaces (i : Int) (j : Int) 1 = j - i := by
  unfold Builtin.Slice.slicePlaces
  have h1 : (1 : Int) > 0 := by omega
  simp only [h1, if_true, Int.ediv_one]
  split <;> omega
theorem slicePart_ {v : Value} {o : Option Int} {Q : Option Int → Shared → Prop} (p : IsPart v o) (h : Q o s) : wpAny (model prog w) A (Builtin.Slice.slicePartIndex v) Q E s := by
  cases p with
  | none => exact slicePart_none h
  | int i t => exact slicePart_int h
theorem sliceApplied_gen {sl : Addr} {vl vu : Value} {lo hi : Option Int} {n : Nat} {Q : Int × Int × Nat → Shared → Prop} (hs : s.heap.IsSliceOf sl vl vu .none) (pl : IsPart vl lo) (pu : IsPart vu hi)
    (h : Q (((sIx n 0 lo : Nat) : Int), 1, sIx n n hi - sIx n 0 lo) s) : wpAny (model prog w) A (Builtin.Slice.sliceApplied (.ref sl) (pure (n : Int))) Q E s := by
  obtain ⟨os, hos, hcs, hds⟩ := id hs
  unfold Builtin.Slice.sliceApplied Builtin.Slice.sliceFields
  refine wpAny_bind (wpAny_bind (wpAny_field hos hds (x := vl) rfl (wpAny_bind (wpAny_field hos hds (x := vu) rfl (wpAny_bind (wpAny_field hos hds (x := .none) rfl (wpAny_pure ?_)))))))
  refine wpAny_bind (slicePart_none ?_)
  show wpAny _ _ (if ((1 : Int) == 0) = true then _ else _) _ _ s
  rw [if_neg (by decide)]
  refine wpAny_bind (slicePart_ pl (wpAny_bind (slicePart_ pu (wpAny_bind (wpAny_pure ?_)))))
  show wpAny _ _ (match Builtin.Slice.sliceAdjust lo hi 1 (n : Int) with | (lo, hi) => pure (lo, (1 : Int), Builtin.Slice.slicePlaces lo hi 1)) _ _ s
  rw [adjust_gen lo hi n]
  show wpAny _ _ (pure (((sIx n 0 lo : Nat) : Int), (1 : Int), Builtin.Slice.slicePlaces ((sIx n 0 lo : Nat) : Int) ((sIx n n hi : Nat) : Int) 1)) _ _ s
  rw [places_gen]
  exact wpAny_pure h
theorem pick_gen (xs : Array Value) (i k : Nat) : ((List.range k).filterMap fun (m : Nat) => xs[((i : Int) + (m : Int) * 1).toNat]?).toArray = ((xs.toList.drop i).take k).toArray := by
  have e : (fun (m : Nat) => xs[((i : Int) + (m : Int) * 1).toNat]?) = fun m => xs[i + m]? := by
    funext m
    have : ((i : Int) + (m : Int) * 1).toNat = i + m := by omega
    rw [this]
  rw [e]
  have := pick_run xs i k
  rw [List.filterMap_map] at this
  have e2 : ((fun x => xs[x]?) ∘ fun x => i + x) = fun m => xs[i + m]? := rfl
  rw [e2] at this
  rw [this]

theorem getItem_tuple_cut {t sl : Addr} {items : Array Value} {vl vu : Value} {lo hi : Option Int} {Q : Value → Shared → Prop} (ht : IsTup s.heap t items) (hs : s.heap.IsSliceOf sl vl vu .none) (pl : IsPart vl lo) (pu : IsPart vu hi)
    (hw : ¬ (sIx items.size 0 lo = 0 ∧ sIx items.size items.size hi = items.size))
    (h : Q (.ref s.heap.objs.size) { s with heap := s.heap.push { cls := .type "tuple", data := .seq ((items.toList.drop (sIx items.size 0 lo)).take (sIx items.size items.size hi - sIx items.size 0 lo)).toArray } })
    (hsz : items.size ≤ sizeLine) : wpAny (model prog w) A (getItem (.ref t) (.ref sl)) Q E s := by
  have htake : sizeOk (.seq ((items.toList.drop (sIx items.size 0 lo)).take (sIx items.size items.size hi - sIx items.size 0 lo)).toArray) := by
    show ((items.toList.drop (sIx items.size 0 lo)).take (sIx items.size items.size hi - sIx items.size 0 lo)).toArray.size ≤ sizeLine
    rw [List.size_toArray, List.length_take, List.length_drop, Array.length_toList]
    omega
  have hj : sIx items.size items.size hi ≤ items.size := sIx_le _ _ (Nat.le_refl _) hi
  obtain ⟨os, hos, hcs, hds⟩ := id hs
  have hTs : s.TypeIs (.ref sl) "slice" := ⟨os, hos, hcs⟩
  unfold getItem
  try with_reducible refine wpAny_holding ?_
  first | refine wpAny_bind (wpAny_pure ?_) | skip
  refine wpAny_bind (wpAny_sequenceKey ht.typeIs (by decide) ?_)
  refine wpAny_bind (wpAny_callSpecial?_slot (name := Str.ofString "__getitem__") ht.typeIs PyProof.Rows.slot_tuple_getitem
    (wpAny_call_entry PyProof.Rows.slot_tuple_getitem ht.typeIs entry_tuple_getitem ?_ (args_tuple_getitem _ _)))
  show wpAny _ _ (Builtin.Tuple.tupleItemsOf (.ref t) >>= _) _ _ s
  refine wpAny_bind (tupleItemsOf_ ht ?_)
  refine wpAny_bind (wpAny_typeOf hTs ?_)
  rw [if_pos (by decide)]
  refine wpAny_bind (sliceApplied_gen hs pl pu ?_)
  have hno : ¬ ((((sIx items.size 0 lo : Nat) : Int) == 0 && (1 : Int) == 1 && (sIx items.size items.size hi - sIx items.size 0 lo) == items.size) = true) := by
    intro q
    rw [Bool.and_eq_true, Bool.and_eq_true] at q
    have q1 : ((sIx items.size 0 lo : Nat) : Int) = 0 := eq_of_beq q.1.1
    have q2 : sIx items.size items.size hi - sIx items.size 0 lo = items.size := eq_of_beq q.2
    exact hw ⟨by omega, by omega⟩
  show wpAny _ _ (if (((sIx items.size 0 lo : Nat) : Int) == 0 && (1 : Int) == 1 && (sIx items.size items.size hi - sIx items.size 0 lo) == items.size) = true then _ else _) _ _ s
  rw [if_neg hno, pick_gen]
  first
    | exact wpAny_bind (m := Builtin.Tuple.tupleExact _) (wpAny_newObj_type (wpAny_pure ⟨_, rfl, wpAny_pure h⟩) htake)
    | exact wpAny_bind (m := Builtin.Tuple.tupleExact _) (wpAny_newObj_type (wpAny_bind (wpAny_pure (wpAny_pure ⟨_, rfl, wpAny_pure h⟩))) htake)
    | exact wpAny_bind (wpAny_bind (m := Builtin.Tuple.tupleExact _) (wpAny_newObj_type (wpAny_pure (wpAny_pure ⟨_, rfl, wpAny_pure h⟩)) htake))
    | exact wpAny_bind (wpAny_bind (m := Builtin.Tuple.tupleExact _) (wpAny_newObj_type (wpAny_pure ⟨_, rfl, wpAny_pure h⟩) htake))
end
end HT

namespace L2
open PySem PySem.Spec PyProof.Rows

/-! ### the parts of a slice -/
abbrev TO := St → Hp → (Option Int → Hp → Prop) → Prop
/-- a slice's part (left out, or an int) -/
def PO (X : Cx) (e : Option Expr) (t : TO) : Prop :=
  ∀ (pins : List (Addr × Obj)) (s : Shared) (σ : St) (H : Hp) (Q : Option Int → Hp → Prop), Inv X pins σ H s → t σ H Q →
    wpAny (model X.prog X.w) X.A (evalPart e X.env) (fun u s' => ∃ o H', Inv X pins σ H' s' ∧ IsPart u o ∧ Q o H') X.xe s
def tNoPart : TO := fun _ H Q => Q none H
def tPart (t : TE) : TO := fun σ H Q => t σ H fun x H1 => ∃ i, x = .int i ∧ Q (some i) H1

theorem intsAre_of {ns : List Int} : ∀ {us : List Value}, Vals (ns.map V.int) us → IntsAre us ns := by
  induction ns with
  | nil => intro us r; rw [List.map_nil] at r; cases r; exact .nil
  | cons n ns ih =>
    intro us r
    rw [List.map_cons] at r
    cases r with
    | cons r1 r2 =>
      obtain ⟨t, e⟩ := r1
      subst e
      exact .cons n t (ih r2)

section
variable {X : Cx} {e : Expr} {te : TE} {lo hi : Option Expr} {tl th : TO} {pos p2 : Pos}

theorem po_none : PO X none tNoPart := by
  intro pins s σ H Q I h
  rw [evalPart_none]
  exact wpAny_pure ⟨none, H, I, .none, h⟩
theorem po_some (h : PE X e te) : PO X (some e) (tPart te) := by
  intro pins s σ H Q I hw
  rw [evalPart_some]
  refine thn (h pins s σ H _ I hw) fun u s1 ⟨x, H1, I1, r1, q1⟩ => ?_
  obtain ⟨i, rfl, q⟩ := q1
  obtain ⟨t, rfl⟩ := r1
  exact ⟨some i, H1, I1, .int i t, q⟩

/-- what a slice of a value is, by values: the slice object stands at sl -/
def SlR (X : Cx) (r : V → Option Int → Option Int → Hp → VK → Prop) : Prop :=
  ∀ (pins : List (Addr × Obj)) (s : Shared) (σ : St) (H : Hp) (x : V) (v vl vu : Value) (lo hi : Option Int) (sl : Addr) (Q : VK), Inv X pins σ H s → RelV x v → s.heap.IsSliceOf sl vl vu .none → IsPart vl lo → IsPart vu hi → r x lo hi H Q →
    ∃ T id, typeLookup (.type T) "__getitem__" = pure (some (.builtin id)) ∧ s.TypeIs v T ∧ wpAny (model X.prog X.w) X.A (getItem v (.ref sl)) (EP X pins σ Q) X.xe s
theorem SlR.or {r r' : V → Option Int → Option Int → Hp → VK → Prop} (h : SlR X r) (h' : SlR X r') : SlR X (fun x lo hi H Q => r x lo hi H Q ∨ r' x lo hi H Q) := by
  intro pins s σ H x v vl vu lo hi sl Q I rx hs pl pu q
  rcases q with q | q
  · exact h pins s σ H x v vl vu lo hi sl Q I rx hs pl pu q
  · exact h' pins s σ H x v vl vu lo hi sl Q I rx hs pl pu q
def tSl (r : V → Option Int → Option Int → Hp → VK → Prop) (te : TE) (tl th : TO) : TE := fun σ H Q => te σ H fun x H1 => tl σ H1 fun l H2 => th σ H2 fun u H3 => r x l u H3 Q
/-- a[lo:hi], any a -/
theorem pe_slice {r : V → Option Int → Option Int → Hp → VK → Prop} (hr : SlR X r) (he : PE X e te) (hl : PO X lo tl) (hu : PO X hi th) : PE X (.Subscript e (.Slice lo hi none p2) pos) (tSl r te tl th) := by
  intro pins s σ H Q I h
  refine Subscript_ (thn (he pins s σ H _ I h) fun v s1 ⟨x, H1, I1, r1, q1⟩ => ?_)
  refine wpAny_Slice (thn (hl pins s1 σ H1 _ I1 q1) fun vl s2 ⟨l, H2, I2, pl, q2⟩ => thn (hu pins s2 σ H2 _ I2 q2) fun vu s3 ⟨u, H3, I3, pu, q3⟩ => ?_)
  rw [evalPart_none]
  refine wpAny_pure ?_
  have I4 : Inv X pins σ H3 { s3 with heap := s3.heap.push { cls := .type "slice", data := .fields #[vl, vu, .none] } } := I3.kept (t' := s3.toks) fun b ob q => Heap.get?_push_of_some _ q
  obtain ⟨T, id, hT, ht, hg⟩ := hr pins { s3 with heap := s3.heap.push { cls := .type "slice", data := .fields #[vl, vu, .none] } } σ H3 x v vl vu l u s3.heap.objs.size Q I4 r1 (Heap.IsSliceOf.new ..) pl pu q3
  show wpAny (model X.prog X.w) X.A (subscriptTail e (.Slice lo hi none p2) v (.ref s3.heap.objs.size)) (EP X pins σ Q) X.xe { s3 with heap := s3.heap.push { cls := .type "slice", data := .fields #[vl, vu, .none] } }
  exact tail_any (ops := [.ref s3.heap.objs.size, v]) ht hT hg (by with_unfolding_all rfl)

/-- the items of xs[lo:hi] -/
def cutV (xs : List V) (lo hi : Option Int) : List V := (xs.drop (HT.sIx xs.length 0 lo)).take (HT.sIx xs.length xs.length hi - HT.sIx xs.length 0 lo)
theorem cutV_length (xs : List V) (lo hi : Option Int) : (cutV xs lo hi).length ≤ xs.length := by
  unfold cutV
  rw [List.length_take, List.length_drop]
  omega
/-- t[lo:hi], not the whole of it (the whole would be t itself) -/
def rSlT (K : PySem.W.Frag) : V → Option Int → Option Int → Hp → VK → Prop := fun x lo hi H Q => ∃ a xs, x = .ref a ∧ SqT K H a xs ∧
  ¬ (HT.sIx xs.length 0 lo = 0 ∧ HT.sIx xs.length xs.length hi = xs.length) ∧ ∀ p, H p = none → Q (.ref p) (upd H p (.tup (cutV xs lo hi)))
theorem sl_tup : SlR X (rSlT X.K) := by
  intro pins s σ H x v vl vu lo hi sl Q I rx hs pl pu h
  obtain ⟨a, xs, rfl, hx, hw, q⟩ := h
  cases rx
  obtain ⟨its, r, ht, hz⟩ := I.tuple hx
  have hlen : its.toArray.size = xs.length := by rw [List.size_toArray]; exact r.length.symm
  refine ⟨"tuple", _, PyProof.Rows.slot_tuple_getitem.lookup, ht.typeIs, ?_⟩
  refine HT.getItem_tuple_cut ht hs pl pu (by rw [hlen]; exact hw) ?_ (by rw [hlen]; exact hz)
  rw [hlen]
  refine ⟨.ref s.heap.objs.size, _, I.laid (t' := s.toks) (o := .tup (cutV xs lo hi)) (fun b ob q => Heap.get?_push_of_some _ q) (Nat.le_refl _) ?_, rfl, q _ (I.hok.fresh (Nat.le_refl _))⟩
  exact ⟨Nat.le_trans (cutV_length xs lo hi) hz, _, (r.drop (HT.sIx xs.length 0 lo)).take (HT.sIx xs.length xs.length hi - HT.sIx xs.length 0 lo), IsTup.new _ _⟩

/-! ### t < u, t + u -/
def rLtT (K : PySem.W.Frag) : R2 := fun x y H Q => ∃ a b ns ms, x = .ref a ∧ y = .ref b ∧ SqT K H a (ns.map V.int) ∧ SqT K H b (ms.map V.int) ∧ Q (.bl (HT.lexLt ns ms)) H
theorem op_ltT (hu : X.A.units < cLine) : OpR X (compareOp .Lt) (rLtT X.K) := by
  intro pins s σ H x y v u Q I rx ry h
  obtain ⟨a, b, ns, ms, rfl, rfl, ha, hb, q⟩ := h
  cases rx
  cases ry
  obtain ⟨its, r1, p1, _⟩ := I.tuple ha
  obtain ⟨its2, r2, p2, _⟩ := I.tuple hb
  have i1 : IntsAre its.toArray.toList ns := intsAre_of r1
  have i2 : IntsAre its2.toArray.toList ms := intsAre_of r2
  exact HT.lt_tupInts p1 p2 i1 i2 hu ⟨.bl (HT.lexLt ns ms), H, I, rfl, q⟩
/-- t + u, t not empty: u empty gives t itself -/
def rCatT (K : PySem.W.Frag) : R2 := fun x y H Q => ∃ a b xs ys, x = .ref a ∧ y = .ref b ∧ SqT K H a xs ∧ SqT K H b ys ∧ xs ≠ [] ∧ xs.length + ys.length ≤ sizeLine ∧
  (ys = [] → Q (.ref a) H) ∧ (ys ≠ [] → ∀ p, H p = none → Q (.ref p) (upd H p (.tup (xs ++ ys))))
theorem Vals.nil_iff {xs : List V} {us : List Value} (r : Vals xs us) : us = [] ↔ xs = [] := by
  cases r with
  | nil => simp
  | cons _ _ => simp
theorem op_catT : OpR X (binaryOp .Add) (rCatT X.K) := by
  intro pins s σ H x y v u Q I rx ry h
  obtain ⟨a, b, xs, ys, rfl, rfl, ha, hb, hx, hz, q1, q2⟩ := h
  cases rx
  cases ry
  obtain ⟨its, r1, p1, _⟩ := I.tuple ha
  obtain ⟨its2, r2, p2, _⟩ := I.tuple hb
  refine HT.cat_tup p1 p2 (fun z => hx (r1.nil_iff.mp z)) (fun z => ⟨.ref a, H, I, rfl, q1 (r2.nil_iff.mp z)⟩) (fun z => ?_) (by rw [← r1.length, ← r2.length]; exact hz)
  refine ⟨.ref s.heap.objs.size, _, I.laid (t' := s.toks) (o := .tup (xs ++ ys)) (fun b ob q => Heap.get?_push_of_some _ q) (Nat.le_refl _) ?_, rfl, q2 (fun w => z (r2.nil_iff.mpr w)) _ (I.hok.fresh (Nat.le_refl _))⟩
  exact ⟨by rw [List.length_append]; exact hz, _, r1.append r2, IsTup.new _ _⟩
/-- tuple(t) -/
theorem call_tupleT : CallR X (.type "tuple") (fun xs H Q => ∃ a ys, xs = [.ref a] ∧ SqT X.K H a ys ∧ Q (.ref a) H) := by
  intro pins s σ H xs us Q I r h
  obtain ⟨a, ys, rfl, ha, q⟩ := h
  obtain ⟨u, rfl, ru⟩ := vals1 r
  cases ru
  obtain ⟨its, _, p1, _⟩ := I.tuple ha
  exact call_tuple_same (items := its.toArray) p1 ⟨.ref a, H, I, rfl, q⟩
end
end L2

namespace L2
open PySem PySem.Spec PyProof.Rows

/-! ### places -/
/-- the place that an index of any sign means -/
def ixN (n : Nat) (i : Int) : Option Nat := if 0 ≤ i then (if i < n then some i.toNat else none) else if -(n : Int) ≤ i then some (i + n).toNat else none
def atI {α : Type} (xs : List α) (i : Int) : Option α := (ixN xs.length i).bind fun j => xs[j]?
theorem ixN_seq {n : Nat} {i : Int} {j : Nat} (h : ixN n i = some j) : seqIndex? i n = some j ∧ j < n ∧ -(n : Int) ≤ i ∧ i < n := by
  unfold ixN at h
  by_cases h0 : 0 ≤ i
  · rw [if_pos h0] at h
    by_cases h1 : i < n
    · rw [if_pos h1] at h
      have e : i.toNat = j := Option.some.inj h
      exact ⟨by rw [seqIndex_of h0 h1, e], by omega, by omega, h1⟩
    · rw [if_neg h1] at h; cases h
  · rw [if_neg h0] at h
    by_cases h1 : -(n : Int) ≤ i
    · rw [if_pos h1] at h
      have e : (i + n).toNat = j := Option.some.inj h
      exact ⟨by rw [seqIndex_neg (by omega) h1, e], by omega, h1, by omega⟩
    · rw [if_neg h1] at h; cases h
theorem atI_get {α : Type} {xs : List α} {i : Int} {v : α} (h : atI xs i = some v) : ∃ j, seqIndex? i xs.length = some j ∧ xs[j]? = some v ∧ j < xs.length ∧ -(xs.length : Int) ≤ i ∧ i < xs.length := by
  unfold atI at h
  cases e : ixN xs.length i with
  | none => rw [e] at h; cases h
  | some j =>
    rw [e] at h
    obtain ⟨h1, h2, h3, h4⟩ := ixN_seq e
    exact ⟨j, h1, h, h2, h3, h4⟩
theorem atI_nat {α : Type} {xs : List α} {j : Nat} {v : α} (h : xs[j]? = some v) : atI xs (j : Int) = some v := by
  have hj : j < xs.length := (List.getElem?_eq_some_iff.mp h).1
  have e : ixN xs.length (j : Int) = some j := by
    unfold ixN
    rw [if_pos (by omega), if_pos (by omega)]; simp
  unfold atI; rw [e]; exact h
theorem atI_last {α : Type} (xs : List α) (v : α) : atI (xs ++ [v]) (-1) = some v := by
  have hl : (xs ++ [v]).length = xs.length + 1 := by simp
  have e : ixN (xs ++ [v]).length (-1) = some xs.length := by
    unfold ixN
    rw [hl, if_neg (by decide), if_pos (by omega)]
    congr 1
    omega
  unfold atI
  rw [e]
  show (xs ++ [v])[xs.length]? = some v
  simp

/-! ### what may be subscripted -/
/-- what stands as an index of a plain subscript -/
def PlainIx (b : Expr) : Prop := ∀ o i, subscripted b false o i = operate [o, i] (getItem o i)
/-- a subscript by values -/
def IxR (X : Cx) (r : R2) : Prop :=
  ∀ (value slice : Expr) (pins : List (Addr × Obj)) (s : Shared) (σ : St) (H : Hp) (x y : V) (v u : Value) (Q : VK), Inv X pins σ H s → RelV x v → RelV y u → r x y H Q →
    subscripted slice false v u = operate [v, u] (getItem v u) → wpAny (model X.prog X.w) X.A (subscriptTail value slice v u) (EP X pins σ Q) X.xe s
/-- a call of a builtin's method by values: the receiver, the arguments -/
def MtR (X : Cx) (id : String) (r : V → List V → Hp → VK → Prop) : Prop :=
  ∀ (pins : List (Addr × Obj)) (s : Shared) (σ : St) (H : Hp) (x : V) (xs : List V) (v : Value) (us : List Value) (Q : VK), Inv X pins σ H s → RelV x v → Vals xs us → r x xs H Q →
    wpAny (model X.prog X.w) X.A (call (.builtin id) (v :: us)) (EP X pins σ Q) X.xe s
section
variable {X : Cx} {a b : Expr} {ta tb : TE} {pos : Pos}
theorem IxR.or {r r' : R2} (h : IxR X r) (h' : IxR X r') : IxR X (fun x y H Q => r x y H Q ∨ r' x y H Q) := by
  intro value slice pins s σ H x y v u Q I rx ry q hs
  rcases q with q | q
  · exact h value slice pins s σ H x y v u Q I rx ry q hs
  · exact h' value slice pins s σ H x y v u Q I rx ry q hs
theorem MtR.or {id : String} {r r' : V → List V → Hp → VK → Prop} (h : MtR X id r) (h' : MtR X id r') : MtR X id (fun x xs H Q => r x xs H Q ∨ r' x xs H Q) := by
  intro pins s σ H x xs v us Q I rx rs q
  rcases q with q | q
  · exact h pins s σ H x xs v us Q I rx rs q
  · exact h' pins s σ H x xs v us Q I rx rs q
/-- a[b] -/
theorem pe_ix {r : R2} (hr : IxR X r) (ha : PE X a ta) (hb : PE X b tb) (hs : PlainIx b) : PE X (.Subscript a b pos) (tOp r ta tb) := by
  intro pins s σ H Q I h
  exact Subscript_ (binT ha hb I h fun v u s2 x y H2 I2 rx ry q => hr a b pins s2 σ H2 x y v u Q I2 rx ry q (hs _ _))

def rIxL (K : PySem.W.Frag) : R2 := fun x y H Q => ∃ p xs i v, x = .ref p ∧ y = .int i ∧ SqL K H p xs ∧ atI xs i = some v ∧ Q v H
def rIxT (K : PySem.W.Frag) : R2 := fun x y H Q => ∃ p xs i v, x = .ref p ∧ y = .int i ∧ SqT K H p xs ∧ atI xs i = some v ∧ Q v H
def rIxS : R2 := fun x y H Q => ∃ z i c, x = .str z ∧ y = .int i ∧ z.length ≤ sizeLine ∧ atI z.cps.toList i = some c ∧ Q (.str ⟨#[c]⟩) H
theorem ix_list : IxR X (rIxL X.K) := by
  intro value slice pins s σ H x y v u Q I rx ry h hs
  obtain ⟨p, xs, i, z, rfl, rfl, hq, he, q⟩ := h
  cases rx
  obtain ⟨t, rfl⟩ := ry
  obtain ⟨its, r, pl, hz⟩ := I.list hq
  obtain ⟨j, h1, h2, h3, h4, h5⟩ := atI_get he
  obtain ⟨w, ew, rw'⟩ := r.get h2
  have hl := r.length
  have hn := line63
  have fin : EP X pins σ Q w s := ⟨z, H, I, rw', q⟩
  by_cases h0 : 0 ≤ i
  · have hj : i.toNat = j := by
      rw [seqIndex_of h0 h5] at h1
      exact Option.some.inj h1
    exact item_listR pl.isList h0 (by omega) (by rw [hj]; simpa using ew) fin hs
  · have hj : (i + (its.toArray.size : Int)).toNat = j := by
      rw [seqIndex_neg (by omega) h4] at h1
      rw [List.size_toArray, ← hl]
      exact Option.some.inj h1
    exact subscriptTail_builtinR (x := w) pl.isList.typeIs slot_list_getitem.lookup
      (wpAny_getItem_list_neg (Q := fun r s' => r = w ∧ EP X pins σ Q r s') pl.isList (by omega) (by rw [List.size_toArray] <;> omega) (by omega) (by rw [hj]; simpa using ew) ⟨rfl, fin⟩) hs
theorem ix_tup : IxR X (rIxT X.K) := by
  intro value slice pins s σ H x y v u Q I rx ry h hs
  obtain ⟨p, xs, i, z, rfl, rfl, hq, he, q⟩ := h
  cases rx
  obtain ⟨t, rfl⟩ := ry
  obtain ⟨its, r, pl, hz⟩ := I.tuple hq
  obtain ⟨j, h1, h2, h3, h4, h5⟩ := atI_get he
  obtain ⟨w, ew, rw'⟩ := r.get h2
  have hl := r.length
  have hn := line63
  have fin : EP X pins σ Q w s := ⟨z, H, I, rw', q⟩
  exact subscriptTail_builtinR (x := w) pl.typeIs slot_tuple_getitem.lookup
    (getItem_tuple (j := j) (Q := fun r s' => r = w ∧ EP X pins σ Q r s') pl (by omega) (by omega) (by rw [List.size_toArray, ← hl]; exact h1) (by simpa using ew) ⟨rfl, fin⟩) hs
theorem ix_str : IxR X rIxS := by
  intro value slice pins s σ H x y v u Q I rx ry h hs
  obtain ⟨z, i, c, rfl, rfl, hz, he, q⟩ := h
  obtain ⟨t, rfl⟩ := rx
  obtain ⟨t', rfl⟩ := ry
  obtain ⟨j, h1, h2, h3, h4, h5⟩ := atI_get he
  have hl : z.cps.toList.length = z.length := by simp [Str.length]
  rw [hl] at h1 h4 h5
  have hn := line63
  exact tail_any (typeIs_str s z t) slot_str_getitem.lookup (getItem_str (c := c) (by
    have e1 : decide (i < -(2 ^ 63 : Int)) = false := decide_eq_false (by omega)
    have e2 : decide (i ≥ 2 ^ 63) = false := decide_eq_false (by omega)
    rw [e1, e2, Bool.or_false]) (by rw [h1]; simpa using h2) ⟨.str ⟨#[c]⟩, H, I.tok _, ⟨_, rfl⟩, q⟩) hs
/-- list, tuple or str -/
def rIx (K : PySem.W.Frag) : R2 := fun x y H Q => rIxL K x y H Q ∨ rIxT K x y H Q ∨ rIxS x y H Q
theorem ix_seq : IxR X (rIx X.K) := ix_list.or (ix_tup.or ix_str)

/-! ### xs[i] = v, any sign -/
/-- the list's object behind a store -/
theorem mapSeq_set (its : List Value) (n j : Nat) (u : Value) : Obj.mapSeq (·.setIfInBounds j u) { cls := .type "list", data := .seq its.toArray n } = { cls := .type "list", data := .seq (its.set j u).toArray n } := by
  simp [Obj.mapSeq]
theorem Inv.lst {pins : List (Addr × Obj)} {σ : St} {H : Hp} {s : Shared} {p : Addr} {xs : List V} (I : Inv X pins σ H s) (h : H p = some (.lst xs)) :
    ∃ (its : List Value) (n : Nat), Vals xs its ∧ s.heap.get? p = some { cls := .type "list", data := .seq its.toArray n } ∧ xs.length ≤ sizeLine := by
  obtain ⟨z, its, n, r, e⟩ := I.hok p _ h
  exact ⟨its, n, r, e, z⟩
/-- the list at p is written by an update of its object -/
theorem Inv.lstUpd {pins : List (Addr × Obj)} {σ : St} {H : Hp} {s : Shared} {p : Addr} {xs ys : List V} {its its' : List Value} {n n' : Nat} {f : Obj → Obj} (I : Inv X pins σ H s) (h : H p = some (.lst xs))
    (ho : s.heap.get? p = some { cls := .type "list", data := .seq its.toArray n }) (hf : f { cls := .type "list", data := .seq its.toArray n } = { cls := .type "list", data := .seq its'.toArray n' }) (r : Vals ys its') (hz : ys.length ≤ sizeLine) (t : Nat) :
    Inv X pins σ (upd H p (.lst ys)) { s with heap := s.heap.update p f, toks := t } := by
  have e : (s.heap.update p f).get? p = some { cls := .type "list", data := .seq its'.toArray n' } := by
    rw [Heap.get?_update_self f ho (by rw [hf] <;> rfl), hf]
  refine I.write (x := p) (e := p) (by rw [h]; trivial) (.inl rfl) (fun b u hb q => (Heap.get?_update_other _ _ (Ne.symm hb)).trans q) ⟨_, e⟩ ?_
  exact ⟨hz, its', n', r, e⟩
def rSetL : V → V → V → Hp → (Hp → Prop) → Prop := fun o i v H Q => ∃ p xs k j, o = .ref p ∧ i = .int k ∧ H p = some (.lst xs) ∧ ixN xs.length k = some j ∧ Q (upd H p (.lst (xs.set j v)))
theorem set_list : PSet X rSetL := by
  intro pins s σ H o i v ov iv u Q I ro ri rv h
  obtain ⟨p, xs, k, j, rfl, rfl, hp, hj, q⟩ := h
  cases ro
  obtain ⟨t, rfl⟩ := ri
  obtain ⟨its, n, r, ho, hz⟩ := I.lst hp
  obtain ⟨h1, h2, h3, h4⟩ := ixN_seq hj
  have hl := r.length
  have hn := line63
  have I' : Inv X pins σ (upd H p (.lst (xs.set j v))) { s with heap := s.heap.update p (Obj.mapSeq (·.setIfInBounds j u)) } :=
    I.lstUpd hp ho (mapSeq_set its n j u) (r.set rv j) (by rw [List.length_set]; exact hz) s.toks
  by_cases h0 : 0 ≤ k
  · have hk : k.toNat = j := by
      rw [seqIndex_of h0 h4] at h1
      exact Option.some.inj h1
    exact PySem.W.ki_setAt ho h0 (by omega) (by rw [List.size_toArray, ← hl]; exact h4) (by rw [hk]; exact ⟨_, I', q⟩)
  · have hk : (k + (its.toArray.size : Int)).toNat = j := by
      rw [seqIndex_neg (by omega) h3] at h1
      rw [List.size_toArray, ← hl]
      exact Option.some.inj h1
    exact PySem.W.ki_setBack ho (by omega) (by rw [List.size_toArray, ← hl]; exact h3) (by omega) (by rw [hk]; exact ⟨_, I', q⟩)

/-! ### slices -/
theorem slice_bounds (lo hi : Option Int) (n : Nat) : (sliceBounds lo hi none n).1 = ((HT.sIx n 0 lo : Nat) : Int) ∧ (sliceBounds lo hi none n).2.1 = ((HT.sIx n n hi : Nat) : Int) ∧ (sliceBounds lo hi none n).2.2 = 1 := by
  refine ⟨?_, ?_, rfl⟩
  · cases lo with
    | none => simp [sliceBounds, HT.sIx]
    | some i =>
      simp only [sliceBounds, HT.sIx, Option.getD_none, show (1 : Int) > 0 by decide, if_true]
      by_cases h : i < 0
      · simp only [h, if_true] <;> omega
      · simp only [h, if_false] <;> omega
  · cases hi with
    | none => simp [sliceBounds, HT.sIx]
    | some i =>
      simp only [sliceBounds, HT.sIx, Option.getD_none, show (1 : Int) > 0 by decide, if_true]
      by_cases h : i < 0
      · simp only [h, if_true] <;> omega
      · simp only [h, if_false] <;> omega
theorem slicePick_cut (its : List Value) (lo hi : Option Int) : slicePick its.toArray lo hi none = ((its.drop (HT.sIx its.length 0 lo)).take (HT.sIx its.length its.length hi - HT.sIx its.length 0 lo)).toArray := by
  obtain ⟨h1, h2, h3⟩ := slice_bounds lo hi its.toArray.size
  unfold slicePick
  rw [h1, h2, h3]
  simp only [sliceRange_one, pick_run, List.size_toArray] <;> rfl
/-- xs[lo:hi] of a list: a new list -/
def rSlL (K : PySem.W.Frag) : V → Option Int → Option Int → Hp → VK → Prop := fun x lo hi H Q => ∃ a xs, x = .ref a ∧ SqL K H a xs ∧ ∀ p, H p = none → Q (.ref p) (upd H p (.lst (cutV xs lo hi)))
theorem sl_list : SlR X (rSlL X.K) := by
  intro pins s σ H x v vl vu lo hi sl Q I rx hs pl pu h
  obtain ⟨a, xs, rfl, hx, q⟩ := h
  cases rx
  obtain ⟨its, r, ht, hz⟩ := I.list hx
  have hlen := r.length
  refine ⟨"list", _, slot_list_getitem.lookup, ht.isList.typeIs, ?_⟩
  refine wpAny_getItem_list_slice ht.isList hs pl pu .none (by simp) ?_ (by rw [List.size_toArray] <;> omega)
  rw [slicePick_cut, ← hlen]
  refine ⟨.ref s.heap.objs.size, _, I.laid (t' := s.toks) (o := .lst (cutV xs lo hi)) (fun b ob q => Heap.get?_push_of_some _ q) (Nat.le_refl _) ?_, rfl, q _ (I.hok.fresh (Nat.le_refl _))⟩
  exact ⟨Nat.le_trans (cutV_length xs lo hi) hz, _, 0, (r.drop (HT.sIx xs.length 0 lo)).take (HT.sIx xs.length xs.length hi - HT.sIx xs.length 0 lo), Heap.get?_push_size _ rfl⟩

/-! ### in, not in: flat items -/
def flatV : V → Bool
  | .non => true
  | .bl _ => true
  | .int _ => true
  | .str _ => true
  | _ => false
/-- == of flat values -/
def eqV : V → V → Bool
  | .non, .non => true
  | .bl a, .bl b => a == b
  | .bl a, .int b => (if a then 1 else 0) == b
  | .int a, .bl b => a == (if b then 1 else 0)
  | .int a, .int b => a == b
  | .str a, .str b => a == b
  | _, _ => false
theorem eqAt_V {A : Around} {s : Shared} {y x : V} {u v : Value} (ry : RelV y u) (rx : RelV x v) (fy : flatV y = true) (fx : flatV x = true) : SeqAt.EqAt A s u v (eqV y x) := by
  cases y with
  | non =>
    cases ry
    cases x with
    | non => cases rx; exact SeqAt.EqAt.same _
    | bl b => cases rx; exact SeqAt.EqAt.none_bool b
    | int b => obtain ⟨t, rfl⟩ := rx; exact SeqAt.EqAt.none_int b t
    | str b => obtain ⟨t, rfl⟩ := rx; exact SeqAt.EqAt.none_str b t
    | _ => exact absurd (show false = true from fx) Bool.false_ne_true
  | bl a =>
    cases ry
    cases x with
    | non => cases rx; exact SeqAt.EqAt.bool_none a
    | bl b => cases rx; exact SeqAt.EqAt.bool_bool a b
    | int b => obtain ⟨t, rfl⟩ := rx; exact SeqAt.EqAt.bool_int a b t
    | str b => obtain ⟨t, rfl⟩ := rx; exact SeqAt.EqAt.bool_str a b t
    | _ => exact absurd (show false = true from fx) Bool.false_ne_true
  | int a =>
    obtain ⟨t', rfl⟩ := ry
    cases x with
    | non => cases rx; exact SeqAt.EqAt.int_none a t'
    | bl b => cases rx; exact SeqAt.EqAt.int_bool a t' b
    | int b => obtain ⟨t, rfl⟩ := rx; exact SeqAt.EqAt.int_int a t' b t
    | str b => obtain ⟨t, rfl⟩ := rx; exact SeqAt.EqAt.int_str a t' b t
    | _ => exact absurd (show false = true from fx) Bool.false_ne_true
  | str a =>
    obtain ⟨t', rfl⟩ := ry
    cases x with
    | non => cases rx; exact SeqAt.EqAt.str_none a t'
    | bl b => cases rx; exact SeqAt.EqAt.str_bool a t' b
    | int b => obtain ⟨t, rfl⟩ := rx; exact SeqAt.EqAt.str_int a t' b t
    | str b => obtain ⟨t, rfl⟩ := rx; exact SeqAt.EqAt.str_str a t' b t
    | _ => exact absurd (show false = true from fx) Bool.false_ne_true
  | _ => exact absurd (show false = true from fy) Bool.false_ne_true
/-- the items' answers, read off the values (a value's own answer does not lean on its token) -/
def eqU (x : V) (u : Value) : Bool := match u with
  | .none => eqV .non x
  | .bool b => eqV (.bl b) x
  | .int i _ => eqV (.int i) x
  | .str z _ => eqV (.str z) x
  | _ => false
theorem eqU_of {x y : V} {u : Value} (r : RelV y u) (f : flatV y = true) : eqU x u = eqV y x := by
  cases y with
  | non => cases r; rfl
  | bl b => cases r; rfl
  | int i => obtain ⟨t, rfl⟩ := r; rfl
  | str z => obtain ⟨t, rfl⟩ := r; rfl
  | _ => exact absurd (show false = true from f) Bool.false_ne_true
theorem any_eqU {x : V} : ∀ {xs : List V} {us : List Value}, Vals xs us → xs.all flatV = true → us.any (eqU x) = xs.any fun y => eqV y x
  | _, _, .nil, _ => rfl
  | y :: xs, u :: us, .cons r t, f => by
    rw [List.all_cons, Bool.and_eq_true] at f
    rw [List.any_cons, List.any_cons, eqU_of r f.1, any_eqU t f.2]
theorem mem_eqAt {A : Around} {s : Shared} {x : V} {v : Value} (rx : RelV x v) (fx : flatV x = true) : ∀ {xs : List V} {us : List Value}, Vals xs us → xs.all flatV = true → ∀ u ∈ us, SeqAt.EqAt A s u v (eqU x u)
  | _, _, .nil, _ => fun u hu => by cases hu
  | y :: xs, u :: us, .cons r t, f => fun u' hu => by
    rw [List.all_cons, Bool.and_eq_true] at f
    rcases List.mem_cons.mp hu with rfl | hu
    · rw [eqU_of r f.1]; exact eqAt_V r rx f.1 fx
    · exact mem_eqAt rx fx t f.2 u' hu
def inV (x : V) (xs : List V) : Bool := xs.any fun y => eqV y x
/-- x in a list or tuple of flat items -/
def rIn (K : PySem.W.Frag) (neg : Bool) : R2 := fun x y H Q => ∃ p xs, y = .ref p ∧ (SqL K H p xs ∨ SqT K H p xs) ∧ flatV x = true ∧ xs.all flatV = true ∧ Q (.bl (if neg then !inV x xs else inV x xs)) H
theorem op_in_seq : OpR X (compareOp .In) (rIn X.K false) := by
  intro pins s σ H x y v u Q I rx ry h
  obtain ⟨p, xs, rfl, hq, fx, fs, q⟩ := h
  cases ry
  rcases hq with hq | hq
  · obtain ⟨its, r, pl, hz⟩ := I.list hq
    refine SeqAt.in_listAt (eqU x) pl.isList (fun w hw => mem_eqAt rx fx r fs w (by simpa using hw)) ⟨.bl _, H, I, rfl, ?_⟩
    rw [show its.toArray.any (eqU x) = its.any (eqU x) by simp, any_eqU r fs]
    exact q
  · obtain ⟨its, r, pl, hz⟩ := I.tuple hq
    refine SeqAt.in_tupleAt (eqU x) pl (fun w hw => mem_eqAt rx fx r fs w (by simpa using hw)) ⟨.bl _, H, I, rfl, ?_⟩
    rw [show its.toArray.any (eqU x) = its.any (eqU x) by simp, any_eqU r fs]
    exact q
theorem op_notIn_seq : OpR X (compareOp .NotIn) (rIn X.K true) := by
  intro pins s σ H x y v u Q I rx ry h
  obtain ⟨p, xs, rfl, hq, fx, fs, q⟩ := h
  cases ry
  rcases hq with hq | hq
  · obtain ⟨its, r, pl, hz⟩ := I.list hq
    refine SeqAt.notIn_listAt (eqU x) pl.isList (fun w hw => mem_eqAt rx fx r fs w (by simpa using hw)) ⟨.bl _, H, I, rfl, ?_⟩
    rw [show its.toArray.any (eqU x) = its.any (eqU x) by simp, any_eqU r fs]
    exact q
  · obtain ⟨its, r, pl, hz⟩ := I.tuple hq
    refine SeqAt.notIn_tupleAt (eqU x) pl (fun w hw => mem_eqAt rx fx r fs w (by simpa using hw)) ⟨.bl _, H, I, rfl, ?_⟩
    rw [show its.toArray.any (eqU x) = its.any (eqU x) by simp, any_eqU r fs]
    exact q
theorem op_notIn_str : OpR X (compareOp .NotIn) (fun x y H Q => ∃ i j, x = .str i ∧ y = .str j ∧ Q (.bl (!(!(Builtin.Str.occurrences j i 0 j.length 1).isEmpty))) H) := by
  intro pins s σ H x y v u Q I rx ry h
  obtain ⟨i, j, rfl, rfl, q⟩ := h
  obtain ⟨t, rfl⟩ := rx
  obtain ⟨t', rfl⟩ := ry
  exact notIn_str ⟨.bl _, H, I, rfl, q⟩

/-! ### len, list(x), tuple(x) of any list or tuple that is read -/
theorem call_len_seq : CallR X (.builtin "len") (fun xs H Q => ∃ p ys, xs = [.ref p] ∧ (SqL X.K H p ys ∨ SqT X.K H p ys) ∧ Q (.int ys.length) H) := by
  intro pins s σ H xs us Q I r h
  obtain ⟨p, ys, rfl, hq, q⟩ := h
  obtain ⟨u, rfl, rx⟩ := vals1 r
  cases rx
  have hn := line63
  rcases hq with hq | hq
  · obtain ⟨its, r', pl, hz⟩ := I.list hq
    have hlen := r'.length
    exact Calls.call_len_list pl.isList (by simp only [List.size_toArray] <;> omega) ⟨.int ys.length, H, I.tok _, ⟨s.toks + 1, by rw [List.size_toArray, hlen]⟩, q⟩
  · obtain ⟨its, r', pl, hz⟩ := I.tuple hq
    have hlen := r'.length
    exact len_tuple pl (by simp only [List.size_toArray] <;> omega) ⟨.int ys.length, H, I.tok _, ⟨s.toks + 1, by rw [List.size_toArray, hlen]⟩, q⟩
theorem call_len_str : CallR X (.builtin "len") (fun xs H Q => ∃ z, xs = [.str z] ∧ z.length ≤ sizeLine ∧ Q (.int z.length) H) := by
  intro pins s σ H xs us Q I r h
  obtain ⟨z, rfl, hz, q⟩ := h
  obtain ⟨u, rfl, t, rfl⟩ := vals1 r
  have hn := line63
  exact len_str (by omega) ⟨.int z.length, H, I.tok _, ⟨_, rfl⟩, q⟩
theorem CallR.or {f : Value} {r r' : List V → Hp → VK → Prop} (h : CallR X f r) (h' : CallR X f r') : CallR X f (fun xs H Q => r xs H Q ∨ r' xs H Q) := by
  intro pins s σ H xs us Q I rs q
  rcases q with q | q
  · exact h pins s σ H xs us Q I rs q
  · exact h' pins s σ H xs us Q I rs q
theorem call_list_of : CallR X (.type "list") (fun xs H Q => ∃ p ys, xs = [.ref p] ∧ (SqL X.K H p ys ∨ SqT X.K H p ys) ∧ ∀ l, H l = none → Q (.ref l) (upd H l (.lst ys))) := by
  intro pins s σ H xs us Q I r h
  obtain ⟨p, ys, rfl, hq, q⟩ := h
  obtain ⟨u, rfl, rx⟩ := vals1 r
  cases rx
  have fin : ∀ (its : List Value), Vals ys its → ys.length ≤ sizeLine → ∀ (h' : Heap) (c' : Nat), (∀ b o', s.heap.get? b = some o' → h'.get? b = some o') →
      h'.get? s.heap.objs.size = some { cls := .type "list", dict := none, data := .seq its.toArray c', slots := #[] } → EP X pins σ Q (.ref s.heap.objs.size) { s with heap := h' } := fun its r' hz h' c' kp e =>
    ⟨.ref s.heap.objs.size, _, I.laid (t' := s.toks) kp (Nat.le_refl _) (show ObjOk X.prog X.w _ h' _ (.lst ys) from ⟨hz, its, c', r', e⟩), rfl, q _ (I.hok.fresh (Nat.le_refl _))⟩
  rcases hq with hq | hq
  · obtain ⟨its, r', pl, hz⟩ := I.list hq
    have hlen := r'.length
    obtain ⟨o, ho, hc, n, hd⟩ := pl.isList
    exact call_list_seq p (.inl rfl) ho hc hd (fun h' c' kp e => fin its r' hz h' c' kp e) (by simp only [List.size_toArray] <;> omega)
  · obtain ⟨its, r', pl, hz⟩ := I.tuple hq
    have hlen := r'.length
    obtain ⟨o, ho, hc, n, hd⟩ := pl
    exact call_list_seq p (.inr rfl) ho hc hd (fun h' c' kp e => fin its r' hz h' c' kp e) (by simp only [List.size_toArray] <;> omega)
theorem call_tuple_of : CallR X (.type "tuple") (fun xs H Q => ∃ p ys, xs = [.ref p] ∧ ((SqL X.K H p ys ∧ ∀ l, H l = none → Q (.ref l) (upd H l (.tup ys))) ∨ (SqT X.K H p ys ∧ Q (.ref p) H))) := by
  intro pins s σ H xs us Q I r h
  obtain ⟨p, ys, rfl, h⟩ := h
  obtain ⟨u, rfl, rx⟩ := vals1 r
  cases rx
  rcases h with ⟨hq, q⟩ | ⟨hq, q⟩
  · obtain ⟨its, r', pl, hz⟩ := I.list hq
    have hlen := r'.length
    refine call_tuple_list pl.isList (fun h' kp => ?_) (by simp only [List.size_toArray] <;> omega)
    have I1 : Inv X pins σ H { s with heap := h' } := I.kept (t' := s.toks) kp
    have I2 : Inv X pins σ (upd H h'.objs.size (.tup ys)) { s with heap := h'.push { cls := .type "tuple", data := .seq its.toArray } } :=
      I1.laid (t' := s.toks) (fun b o e => Heap.get?_push_of_some _ e) (Nat.le_refl _) (show ObjOk X.prog X.w _ _ _ (.tup ys) from ⟨hz, its, r', IsTup.new _ _⟩)
    exact ⟨.ref h'.objs.size, _, I2, rfl, q _ (I1.hok.fresh (Nat.le_refl _))⟩
  · obtain ⟨its, r', pl, hz⟩ := I.tuple hq
    exact call_tuple_same pl ⟨.ref p, H, I, rfl, q⟩

/-! ### the call of a builtin's method: o.m(..) -/
/-- the value is of that builtin type -/
def tyV (K : PySem.W.Frag) (T : String) (x : V) (H : Hp) : Prop := match x with
  | .str _ => T = "str"
  | .int _ => T = "int"
  | .ref p => (T = "list" ∧ ∃ xs, SqL K H p xs) ∨ (T = "tuple" ∧ ∃ o, K.lookup p = some o ∧ o.cls = .type "tuple" ∧ o.dict = none) ∨
      (T = "dict" ∧ ((∃ kvs, H p = some (.dK kvs)) ∨ ∃ kvs, H p = some (.dT kvs))) ∨ (T = "set" ∧ ∃ S n, H p = some (.set S n))
  | _ => False
theorem tyV_is {pins : List (Addr × Obj)} {σ : St} {H : Hp} {s : Shared} {T : String} {x : V} {v : Value} (I : Inv X pins σ H s) (r : RelV x v) (ty : tyV X.K T x H) :
    s.TypeIs v T ∧ ∀ a, v = .ref a → ∃ ob, s.heap.get? a = some ob ∧ ob.dict = none := by
  cases x with
  | str z =>
    obtain ⟨t, rfl⟩ := r
    cases (show T = "str" from ty)
    exact ⟨typeIs_str s z t, fun _ e => nomatch e⟩
  | int i =>
    obtain ⟨t, rfl⟩ := r
    cases (show T = "int" from ty)
    exact ⟨typeIs_int s i t, fun _ e => nomatch e⟩
  | ref p =>
    cases r
    rcases ty with ⟨rfl, xs, hq⟩ | ⟨rfl, o, hk, hc, hd⟩ | ⟨rfl, hk⟩ | ⟨rfl, S, n, hk⟩
    · obtain ⟨its, _, pl, _⟩ := I.list hq
      refine ⟨pl.isList.typeIs, fun a e => ?_⟩
      cases e
      obtain ⟨o, n, e, c, hd, _⟩ := pl
      exact ⟨o, e, hd⟩
    · refine ⟨⟨o, I.kIn p o hk, hc⟩, fun a e => ?_⟩
      cases e
      exact ⟨o, I.kIn _ o hk, hd⟩
    · have z : ∃ o, s.heap.get? p = some o ∧ o.ExactDict := by
        rcases hk with ⟨kvs, hk⟩ | ⟨kvs, hk⟩
        · obtain ⟨_, _, _, _, o, _, _, e, ex, _⟩ := I.hok p _ hk
          exact ⟨o, e, ex⟩
        · obtain ⟨_, _, _, _, o, _, _, e, ex, _⟩ := I.hok p _ hk
          exact ⟨o, e, ex⟩
      obtain ⟨o, e, ex⟩ := z
      refine ⟨⟨o, e, ex.1⟩, fun a e2 => ?_⟩
      cases e2
      exact ⟨o, e, ex.2.1⟩
    · obtain ⟨o, _, _, _, e, ex, _⟩ := I.hok p _ hk
      refine ⟨⟨o, e, ex.1⟩, fun a e2 => ?_⟩
      cases e2
      exact ⟨o, e, ex.2.1⟩
  | _ => exact False.elim ty
def tBM0 (K : PySem.W.Frag) (T : String) (r : V → List V → Hp → VK → Prop) (to : TE) : TE := fun σ H Q => to σ H fun x H1 => tyV K T x H1 ∧ r x [] H1 Q
def tBM (K : PySem.W.Frag) (T : String) (r : V → List V → Hp → VK → Prop) (to : TE) (t : TA) : TE := fun σ H Q => to σ H fun x H1 => tyV K T x H1 ∧ t σ H1 fun xs H2 => r x xs H2 Q
variable {o e : Expr} {es : List Expr} {to : TE} {t : TA} {name : Str} {apos cpos : Pos} {T id : String} {r : V → List V → Hp → VK → Prop}
theorem pe_bm0 (pa : PlainAttrs T) (slot : Slot T name id) (hty : typeOf (.builtin id) = pure (.type "method_descriptor")) (hm : MtR X id r) (ho : PE X o to)
    (hbase : attributeBase o name X.env (eval o X.env) = eval o X.env := by rfl) (hline : (apos.endLine == cpos.line) = true := by rfl) : PE X (.Call (.Attribute o name apos) [] [] cpos) (tBM0 X.K T r to) := by
  intro pins s σ H Q I h
  refine wpAny_Call_method0_late hbase hline (thn (ho pins s σ H _ I h) fun v s1 ⟨x, H1, I1, r1, ty, q1⟩ => ?_)
  obtain ⟨h1, h2⟩ := tyV_is I1 r1 ty
  exact ⟨T, id, pa, slot, hty, h1, h2, Calls.callWith_builtin rfl (PySem.evalArgs_none (hm pins s1 σ H1 x [] v [] Q I1 r1 .nil q1))⟩
theorem pe_bm (pa : PlainAttrs T) (slot : Slot T name id) (hty : typeOf (.builtin id) = pure (.type "method_descriptor")) (hm : MtR X id r) (ho : PE X o to) (ha : PA X (e :: es) t)
    (hbase : attributeBase o name X.env (eval o X.env) = eval o X.env := by rfl)
    (hfew : ((backTo cpos (starEach (e :: es) X.env)).all (fun x => !x.1) && (backToKw cpos (keywordEach [] X.env)).all (fun x => x.1.isSome)
      && decide ((e :: es).length + ([] : List Keyword).length + (if ([] : List Keyword).isEmpty then 0 else 1) < 30)) = true := by rfl)
    (hline : (apos.endLine == cpos.line) = true := by rfl) (hs : starEach (e :: es) X.env = (false, eval e X.env) :: starEach es X.env := by rfl) (hplain : (backTo cpos (starEach es X.env)).any (·.1) = false := by rfl) :
    PE X (.Call (.Attribute o name apos) (e :: es) [] cpos) (tBM X.K T r to t) := by
  intro pins s σ H Q I h
  refine wpAny_Call_method_late hbase hfew hline rfl (thn (ho pins s σ H _ I h) fun v s1 ⟨x, H1, I1, r1, ty, q1⟩ => ?_)
  obtain ⟨h1, h2⟩ := tyV_is I1 r1 ty
  refine ⟨T, id, pa, slot, hty, h1, h2, ?_⟩
  have hA := ha cpos pins s1 σ H1 _ I1 q1
  rw [hs] at hA ⊢
  refine Calls.callWith_builtin (by show (false || (backTo cpos (starEach es X.env)).any (·.1)) = false; rw [hplain] <;> rfl) (Calls.evalArgs_plain ?_)
  exact thn hA fun us s2 ⟨vs, H2, I2, r2, q2⟩ => hm pins s2 σ H2 x vs v us Q I2 r1 r2 q2
/- xs.append(e), list.index on a module's tuple .. are MtR facts of 06m -/
end
end L2

namespace L2
open PySem PySem.Spec PyProof.Rows

def MtM (X : Cx) (id : String) (r : V → List V → Hp → VK → Prop) : Prop :=
  ∀ (pins : List (Addr × Obj)) (s : Shared) (σ : St) (H : Hp) (x : V) (xs : List V) (v : Value) (us : List Value) (Q : VK), Inv X pins σ H s → RelV x v → Vals xs us → r x xs H Q →
    wpAny (model X.prog X.w) X.A (call (.builtin id) (v :: us)) (EP X pins σ Q) X.xe s

/-! ### lists of values -/
theorem Vals.one : ∀ {x : V} {us : List Value}, Vals [x] us → ∃ u, us = [u] ∧ RelV x u
  | _, _, .cons r .nil => ⟨_, rfl, r⟩
theorem Vals.two : ∀ {x y : V} {us : List Value}, Vals [x, y] us → ∃ u v, us = [u, v] ∧ RelV x u ∧ RelV y v
  | _, _, _, .cons r (.cons q .nil) => ⟨_, _, rfl, r, q⟩
theorem Vals.zero : ∀ {us : List Value}, Vals [] us → us = []
  | _, .nil => rfl
theorem Vals.dropLast {xs : List V} {us : List Value} (h : Vals xs us) : Vals xs.dropLast us.dropLast := by
  induction h with
  | nil => exact .nil
  | cons r t ih =>
    cases t with
    | nil => exact .nil
    | cons q t' => exact .cons r ih
theorem Vals.eraseIdx : ∀ {xs : List V} {us : List Value} (i : Nat), Vals xs us → Vals (xs.eraseIdx i) (us.eraseIdx i)
  | _, _, _, .nil => .nil
  | _, _, 0, .cons _ t => t
  | _, _, i + 1, .cons r t => .cons r (Vals.eraseIdx i t)
theorem Vals.reverse {xs : List V} {us : List Value} (h : Vals xs us) : Vals xs.reverse us.reverse := by
  induction h with
  | nil => exact .nil
  | cons r t ih => rw [List.reverse_cons, List.reverse_cons]; exact Vals.append ih (.cons r .nil)
theorem Vals.rep {xs : List V} {us : List Value} (h : Vals xs us) : ∀ k : Nat, Vals (List.replicate k xs).flatten (List.replicate k us).flatten
  | 0 => .nil
  | k + 1 => by
    rw [List.replicate_succ, List.replicate_succ, List.flatten_cons, List.flatten_cons]
    exact Vals.append h (Vals.rep h k)
theorem erase_last {α : Type} (l : List α) : l.eraseIdx (l.length - 1) = l.dropLast := by
  induction l with
  | nil => rfl
  | cons a r ih =>
    cases r with
    | nil => rfl
    | cons b r =>
      have e : (a :: b :: r).length - 1 = ((b :: r).length - 1) + 1 := by
        have h1 : (a :: b :: r).length = r.length + 2 := rfl
        have h2 : (b :: r).length = r.length + 1 := rfl
        omega
      rw [e, List.eraseIdx_cons_succ, ih]
      all_goals rfl
theorem len_erase {α : Type} : ∀ (l : List α) (i : Nat), (l.eraseIdx i).length ≤ l.length
  | [], _ => Nat.le_refl _
  | _ :: _, 0 => Nat.le_succ _
  | _ :: r, i + 1 => Nat.succ_le_succ (len_erase r i)
theorem foldl_rep (its : List Value) : ∀ (k : Nat) (acc : List Value),
    List.foldl (fun x1 x2 => x1 ++ x2) acc.toArray (List.replicate k its.toArray) = (acc ++ (List.replicate k its).flatten).toArray
  | 0, acc => by simp
  | k + 1, acc => by
    have e : acc.toArray ++ its.toArray = (acc ++ its).toArray := by simp
    have e2 : (acc ++ its) ++ (List.replicate k its).flatten = acc ++ (List.replicate (k + 1) its).flatten := by
      rw [List.replicate_succ, List.flatten_cons, List.append_assoc]
    rw [← e2, ← foldl_rep its k (acc ++ its), ← e, List.replicate_succ, List.foldl_cons]

section
variable {X : Cx} {pins : List (Addr × Obj)} {σ : St} {H : Hp} {s : Shared} {l b : Addr} {xs ys zs : List V}

/-! ### the two steps: a tracked list is rewritten, a new list is laid -/
theorem Inv.lset {its its' : List Value} {n : Nat} {f : Array Value → Array Value} {t' : Nat} (I : Inv X pins σ H s) (hH : H l = some (.lst xs))
    (e : s.heap.get? l = some { cls := .type "list", data := .seq its.toArray n }) (hf : f its.toArray = its'.toArray) (hv : Vals ys its') (hz : ys.length ≤ sizeLine) :
    Inv X pins σ (upd H l (.lst ys)) { s with heap := s.heap.update l (Obj.mapSeq f), toks := t' } := by
  have q := PySem.IsL.update e f
  rw [hf] at q
  refine I.write (x := l) (e := l) (by rw [hH]; exact trivial) (.inl rfl) (fun b' u hb hu => (Heap.get?_update_other s.heap (Obj.mapSeq f) (Ne.symm hb)).trans hu) ⟨_, q⟩ ?_
  exact ⟨hz, its', _, hv, q⟩
theorem Inv.lnew {its : List Value} {t' : Nat} (I : Inv X pins σ H s) (hv : Vals ys its) (hz : ys.length ≤ sizeLine) :
    Inv X pins σ (upd H s.heap.objs.size (.lst ys)) { s with heap := s.heap.push { cls := .type "list", data := .seq its.toArray }, toks := t' } :=
  I.laid (fun _ _ q => Heap.get?_push_of_some _ q) (Nat.le_refl _) ⟨hz, its, 0, hv, Heap.get?_push_size _ rfl⟩
theorem Inv.fresh (I : Inv X pins σ H s) : H s.heap.objs.size = none := I.hok.fresh (Nat.le_refl _)
theorem Inv.lstM (I : Inv X pins σ H s) (hH : H l = some (.lst xs)) : xs.length ≤ sizeLine ∧ ∃ (its : List Value) (n : Nat), Vals xs its ∧ xs.length = its.length ∧ s.heap.get? l = some { cls := .type "list", data := .seq its.toArray n } := by
  obtain ⟨z, its, n, r, e⟩ := I.hok l _ hH
  exact ⟨z, its, n, r, r.length, e⟩

theorem notLongL {n : Nat} (h : n ≤ sizeLine) : Builtin.List.listTooLong n = false := by
  unfold Builtin.List.listTooLong
  exact decide_eq_false (by omega)
end

section
variable {X : Cx}

/-! ### methods -/
def rAppend : V → List V → Hp → VK → Prop := fun x vs H Q => ∃ l xs y, x = .ref l ∧ vs = [y] ∧ H l = some (.lst xs) ∧ xs.length < sizeLine ∧ Q .non (upd H l (.lst (xs ++ [y])))
theorem mt_append : MtM X "list.append" rAppend := by
  intro pins s σ H x vs v us Q I rx rv h
  obtain ⟨l, xs, y, rfl, rfl, hH, hz, q⟩ := h
  cases rx
  obtain ⟨u, rfl, ru⟩ := rv.one
  obtain ⟨z, its, n, r, hl, e⟩ := I.lstM hH
  refine call_meets F.slot_list_append ⟨_, e, rfl⟩ F.entry_list_append (F.args_list_append_2 _ _) (PySem.list_append l its.toArray n u (by rw [List.size_toArray]; omega)) ⟨e, ?_⟩
  refine ⟨.non, _, I.lset (its' := its ++ [u]) hH e (by simp) (r.append (.cons ru .nil)) ?_, rfl, q⟩
  rw [List.length_append, List.length_singleton]
  omega

def rExtend : V → List V → Hp → VK → Prop := fun x vs H Q => ∃ l b xs zs, x = .ref l ∧ vs = [.ref b] ∧ H l = some (.lst xs) ∧ H b = some (.lst zs) ∧ xs.length + zs.length ≤ sizeLine ∧ Q .non (upd H l (.lst (xs ++ zs)))
theorem mt_extend : MtM X "list.extend" rExtend := by
  intro pins s σ H x vs v us Q I rx rv h
  obtain ⟨l, b, xs, zs, rfl, rfl, hH, hB, hz, q⟩ := h
  cases rx
  obtain ⟨u, rfl, ru⟩ := rv.one
  cases ru
  obtain ⟨z, its, n, r, hl, e⟩ := I.lstM hH
  obtain ⟨z2, its2, n2, r2, hl2, e2⟩ := I.lstM hB
  have hsz : its.toArray.size + its2.toArray.size ≤ sizeLine := by rw [List.size_toArray, List.size_toArray]; omega
  have hlong : ¬ (!its.toArray.isEmpty && Builtin.List.listTooLong (its.toArray.size + its2.toArray.size)) = true := by
    rw [notLongL hsz, Bool.and_false]
    exact Bool.false_ne_true
  refine call_meets F.slot_list_extend ⟨_, e, rfl⟩ F.entry_list_extend (F.args_list_extend_2 _ _)
    (AutoSeq1.list_extend_list_list_0 l its.toArray n b its2.toArray n2 hlong (by rw [List.size_toArray]; omega) (by omega)) ⟨e, e2, ?_⟩
  refine ⟨.non, _, I.lset (its' := its ++ its2) hH e (by simp) (r.append r2) ?_, rfl, q⟩
  rw [List.length_append]
  omega

def rPop : V → List V → Hp → VK → Prop := fun x vs H Q => ∃ l xs y, x = .ref l ∧ vs = [] ∧ H l = some (.lst xs) ∧ xs[xs.length - 1]? = some y ∧ Q y (upd H l (.lst xs.dropLast))
theorem mt_pop : MtM X "list.pop" rPop := by
  intro pins s σ H x vs v us Q I rx rv h
  obtain ⟨l, xs, y, rfl, rfl, hH, hy, q⟩ := h
  cases rx
  have hus := rv.zero
  subst hus
  obtain ⟨z, its, n, r, hl, e⟩ := I.lstM hH
  obtain ⟨u, hu, ru⟩ := r.get hy
  have hy' : its.toArray[its.toArray.size - 1]? = some u := by
    show its.toArray[its.length - 1]? = some u
    rw [← Array.getElem?_toList, ← hl]
    exact hu
  refine call_meets F.slot_list_pop ⟨_, e, rfl⟩ F.entry_list_pop (F.args_list_pop_1 _) (MeetsSeq.list_pop_last l its.toArray n u hy' (by rw [List.size_toArray]; omega)) ⟨e, ?_⟩
  refine ⟨y, _, I.lset (its' := its.dropLast) hH e ?_ r.dropLast ?_, ru, q⟩
  · show its.toArray.eraseIdxIfInBounds (its.toArray.size - 1) = its.dropLast.toArray
    rw [List.size_toArray, List.eraseIdxIfInBounds_toArray, erase_last]
  · rw [List.length_dropLast]
    omega

def rPopAt : V → List V → Hp → VK → Prop := fun x vs H Q => ∃ l xs i k y, x = .ref l ∧ vs = [.int i] ∧ H l = some (.lst xs) ∧ -(2 ^ 63) ≤ i ∧ i < 2 ^ 63 ∧ seqIndex? i xs.length = some k ∧ xs[k]? = some y ∧ Q y (upd H l (.lst (xs.eraseIdx k)))
theorem mt_popAt : MtM X "list.pop" rPopAt := by
  intro pins s σ H x vs v us Q I rx rv h
  obtain ⟨l, xs, i, k, y, rfl, rfl, hH, h1, h2, hk, hy, q⟩ := h
  cases rx
  obtain ⟨u, rfl, ru⟩ := rv.one
  obtain ⟨t, rfl⟩ := ru
  obtain ⟨z, its, n, r, hl, e⟩ := I.lstM hH
  obtain ⟨w, hw, rw'⟩ := r.get hy
  refine call_meets F.slot_list_pop ⟨_, e, rfl⟩ F.entry_list_pop (F.args_list_pop_2 _ _)
    (MeetsSeq.list_pop_at l its.toArray n i t k w (fitsIndex_both h1 h2) (by rw [List.size_toArray, ← hl]; exact hk) (by rw [← Array.getElem?_toList]; exact hw) (by rw [List.size_toArray]; omega)) ⟨e, ?_⟩
  refine ⟨y, _, I.lset (its' := its.eraseIdx k) hH e ?_ (r.eraseIdx k) ?_, rw', q⟩
  · show its.toArray.eraseIdxIfInBounds k = (its.eraseIdx k).toArray
    rw [List.eraseIdxIfInBounds_toArray]
  · have := len_erase xs k
    omega

def rReverse : V → List V → Hp → VK → Prop := fun x vs H Q => ∃ l xs, x = .ref l ∧ vs = [] ∧ H l = some (.lst xs) ∧ Q .non (upd H l (.lst xs.reverse))
theorem mt_reverse : MtM X "list.reverse" rReverse := by
  intro pins s σ H x vs v us Q I rx rv h
  obtain ⟨l, xs, rfl, rfl, hH, q⟩ := h
  cases rx
  have hus := rv.zero
  subst hus
  obtain ⟨z, its, n, r, hl, e⟩ := I.lstM hH
  refine call_meets F.slot_list_reverse ⟨_, e, rfl⟩ F.entry_list_reverse (F.args_list_reverse_1 _) (AutoSeq1.list_reverse_list_0 l its.toArray n (by rw [List.size_toArray]; omega)) ⟨e, ?_⟩
  refine ⟨.non, _, I.lset (its' := its.reverse) hH e (by simp) r.reverse ?_, rfl, q⟩
  rw [List.length_reverse]
  omega

def rClear : V → List V → Hp → VK → Prop := fun x vs H Q => ∃ l xs, x = .ref l ∧ vs = [] ∧ H l = some (.lst xs) ∧ Q .non (upd H l (.lst []))
theorem mt_clear : MtM X "list.clear" rClear := by
  intro pins s σ H x vs v us Q I rx rv h
  obtain ⟨l, xs, rfl, rfl, hH, q⟩ := h
  cases rx
  have hus := rv.zero
  subst hus
  obtain ⟨z, its, n, r, hl, e⟩ := I.lstM hH
  refine call_meets F.slot_list_clear ⟨_, e, rfl⟩ F.entry_list_clear (F.args_list_clear_1 _) (AutoSeq1.list_clear_list_0 l its.toArray n (by rw [List.size_toArray]; omega)) ⟨e, ?_⟩
  exact ⟨.non, _, I.lset (its' := []) (ys := []) hH e rfl .nil (Nat.zero_le _), rfl, q⟩

/-! ### list + list, list += list, list * int -/
def rCat : R2 := fun x y H Q => ∃ l b xs zs, x = .ref l ∧ y = .ref b ∧ H l = some (.lst xs) ∧ H b = some (.lst zs) ∧ xs.length + zs.length ≤ sizeLine ∧ ∀ p, H p = none → Q (.ref p) (upd H p (.lst (xs ++ zs)))
theorem op_cat : OpR X (binaryOp .Add) rCat := by
  intro pins s σ H x y v u Q I rx ry h
  obtain ⟨l, b, xs, zs, rfl, rfl, hH, hB, hz, q⟩ := h
  cases rx
  cases ry
  obtain ⟨z, its, n, r, hl, e⟩ := I.lstM hH
  obtain ⟨z2, its2, n2, r2, hl2, e2⟩ := I.lstM hB
  refine PySem.P.add_list e e2 ?_ (by rw [List.size_toArray, List.size_toArray]; omega)
  have ea : its.toArray ++ its2.toArray = (its ++ its2).toArray := by simp
  rw [ea]
  exact ⟨.ref _, _, I.lnew (t' := s.toks) (r.append r2) (by rw [List.length_append]; omega), rfl, q _ I.fresh⟩
/-- a list times an int (a negative one is nothing) -/
def rRep : R2 := fun x y H Q => ∃ l k xs, x = .ref l ∧ y = .int k ∧ H l = some (.lst xs) ∧ -(2 ^ 63) ≤ k ∧ k < 2 ^ 63 ∧ xs.length * k.toNat ≤ sizeLine ∧
  ∀ p, H p = none → Q (.ref p) (upd H p (.lst (List.replicate k.toNat xs).flatten))
theorem len_rep {α : Type} (xs : List α) (k : Nat) : (List.replicate k xs).flatten.length = k * xs.length := by
  induction k with
  | zero => simp
  | succ k ih => rw [List.replicate_succ, List.flatten_cons, List.length_append, ih, Nat.succ_mul, Nat.add_comm]
theorem op_rep : OpR X (binaryOp .Mult) rRep := by
  intro pins s σ H x y v u Q I rx ry h
  obtain ⟨l, k, xs, rfl, rfl, hH, h1, h2, hz, q⟩ := h
  cases rx
  obtain ⟨t, rfl⟩ := ry
  obtain ⟨z, its, n, r, hl, e⟩ := I.lstM hH
  have hlen : its.toArray.size * k.toNat ≤ sizeLine := by rw [List.size_toArray, ← hl]; exact hz
  have hcap : ¬ its.toArray.size * k.toNat > (2 ^ 63 - 1) / 8 := by
    have : (sizeLine : Nat) ≤ (2 ^ 63 - 1) / 8 := by decide
    omega
  have hfit : ¬ (!Builtin.List.listFitsIndex k) = true := by
    rw [fitsIndex_both h1 h2]
    exact Bool.false_ne_true
  have hlong : ¬ Builtin.List.listTooLong (its.toArray.size * k.toNat) = true := by
    rw [notLongL hlen]
    exact Bool.false_ne_true
  have hnew : List.foldl (fun x1 x2 => x1 ++ x2) #[] (List.replicate (if its.toArray.isEmpty = true then 0 else k.toNat) its.toArray) = (List.replicate k.toNat its).flatten.toArray := by
    have f0 : ∀ m : Nat, List.foldl (fun x1 x2 => x1 ++ x2) #[] (List.replicate m its.toArray) = (List.replicate m its).flatten.toArray := fun m => by
      have := foldl_rep its m []
      rw [List.nil_append] at this
      exact this
    rw [f0]
    cases its with
    | nil => simp
    | cons a r' => rw [if_neg (by simp)]
  refine wpAny_binaryOp_repeat_ref (T := "list") (U := "int") (by decide) ⟨_, e, rfl⟩ (fun s' => typeIs_int s' k t) noFill_list_mul F.fills_int_mul F.slot_int_rmul repeat_list F.slot_int_index.lookup
    (call_meets F.slot_int_rmul (typeIs_int s k t) F.entry_int_rmul (F.args_int_rmul_2 _ _) (int___rmul___int_list k t l its.toArray n)
      ⟨e, rfl, ⟨_, e, rfl⟩, call_meets F.slot_list_mul ⟨_, e, rfl⟩ F.entry_list_mul (F.args_list_mul_2 _ _) (AutoListH.list___mul___list_int_3 l its.toArray n k t hfit hcap hlong) ⟨e, ?_⟩⟩)
  rw [hnew]
  exact ⟨.ref _, _, I.lnew (t' := s.toks) (r.rep k.toNat) (by rw [len_rep, Nat.mul_comm]; exact hz), rfl, q _ I.fresh⟩

/-! ### del xs[i] -/
theorem del_list {pins : List (Addr × Obj)} {s : Shared} {σ : St} {H : Hp} {l : Addr} {xs : List V} {i : Int} {t : Tok} {k : Nat} {Q : Unit → Shared → Prop} (I : Inv X pins σ H s) (hH : H l = some (.lst xs))
    (h1 : -(2 ^ 63) ≤ i) (h2 : i < 2 ^ 63) (hk : seqIndex? i xs.length = some k) (h : ∀ s', Inv X pins σ (upd H l (.lst (xs.eraseIdx k))) s' → Q () s') :
    wpAny (model X.prog X.w) X.A (delItem (.ref l) (.int i t)) Q X.xe s := by
  obtain ⟨z, its, n, r, hl, e⟩ := I.lstM hH
  refine PySem.P.delItem_list (k := k) e (fitsIndex_both h1 h2) (by rw [List.size_toArray, ← hl]; exact hk) (h _ ?_) (by rw [List.size_toArray]; omega)
  refine I.lset (its' := its.eraseIdx k) (t' := s.toks) hH e ?_ (r.eraseIdx k) ?_
  · show its.toArray.eraseIdxIfInBounds k = (its.eraseIdx k).toArray
    rw [List.eraseIdxIfInBounds_toArray]
  · have := len_erase xs k
    omega
end

/-! ### xs[a:b] = ys -/
section
variable {prog : Program} {w : World} {A : Around} {E : Value → Shared → Prop} {s : Shared}
theorem splice_eq (its its2 : List Value) (a c : Nat) : its.toArray.extract 0 a ++ its2.toArray ++ its.toArray.extract c its.toArray.size = (its.take a ++ its2 ++ its.drop c).toArray := by
  apply Array.toList_inj.mp
  first
    | (simp
       exact List.take_of_length_le (by simp))
    | simp [List.take_of_length_le]
    | simp
theorem bounds_run {a c n : Nat} (hac : a ≤ c) (hc : c ≤ n) : sliceBounds (some (a : Int)) (some (c : Int)) none n = ((a : Int), (c : Int), 1) := by
  simp only [sliceBounds, Option.getD_none]
  have h1 : ¬ ((a : Int) < 0) := by omega
  have h2 : ¬ ((c : Int) < 0) := by omega
  simp only [h1, h2, if_false, show (1 : Int) > 0 by decide, if_true]
  congr 1
  · omega
  · congr 1; omega
set_option maxRecDepth 100000 in
/-- list.__setitem__ with a slice of step one and another list -/
theorem setItem_slice {l b sl : Addr} {items new : Array Value} {n n2 : Nat} {vl vu : Value} {a c : Nat} {Q : Unit → Shared → Prop}
    (e : s.heap.get? l = some { cls := .type "list", data := .seq items n }) (e2 : s.heap.get? b = some { cls := .type "list", data := .seq new n2 }) (hne : l ≠ b)
    (hs : s.heap.IsSliceOf sl vl vu .none) (pl : IsPart vl (some (a : Int))) (pu : IsPart vu (some (c : Int))) (hac : a ≤ c) (hc : c ≤ items.size)
    (hsz : items.size + new.size ≤ sizeLine) (h : Q () { s with heap := s.heap.update l (Obj.mapSeq fun xs => xs.extract 0 a ++ new ++ xs.extract c xs.size) }) :
    wpAny (model prog w) A (setItem (.ref l) (.ref sl) (.ref b)) Q E s := by
  have hl : s.heap.IsList l items := PySem.IsL.isList e
  have hb : s.heap.IsList b new := PySem.IsL.isList e2
  obtain ⟨os, hos, hcs, hds⟩ := id hs
  have hTs : s.TypeIs (.ref sl) "slice" := ⟨os, hos, hcs⟩
  have hstep : ¬ ((rawPart none == rawInt 0) = true) := Bool.false_ne_true
  have hsame : Builtin.List.listSameRef (.ref l) (.ref b) = false := by
    unfold Builtin.List.listSameRef
    exact beq_eq_false_iff_ne.mpr hne
  have hmax : (max (a : Int) (c : Int)).toNat = c := by omega
  have hz' : ((fun xs : Array Value => xs.extract 0 a ++ new ++ xs.extract c xs.size) items).size ≤ sizeLine + 1 := by
    simp only [Array.size_append, Array.size_extract]
    omega
  unfold setItem
  try with_reducible refine wpAny_holding ?_
  first | refine wpAny_bind (wpAny_pure ?_) | skip
  refine wpAny_bind (wpAny_sequenceKey hl.typeIs (by decide) ?_)
  refine wpAny_bind (wpAny_callSpecial?_slot (name := Str.ofString "__setitem__") hl.typeIs slot_list_setitem
    (wpAny_call_entry slot_list_setitem hl.typeIs entry_list_setitem ?_ (args_list_setitem _ _ _)))
  show wpAny _ _ (Builtin.List.listSubscript? (.ref sl) >>= _) _ _ s
  refine wpAny_bind ?_
  unfold Builtin.List.listSubscript?
  refine wpAny_bind (wpAny_specialOf hTs slice_no_index ?_)
  simp only [Option.isNone_none, if_true]
  refine wpAny_pure ?_
  show wpAny _ _ (typeOf (.ref sl) >>= _) _ _ s
  refine wpAny_bind (wpAny_typeOf hTs ?_)
  first
    | rw [if_neg (by decide)]
    | refine PySem.W.KFB.if_not (by decide) ?_
  rw [listSliceParts_eq]
  refine wpAny_bind (wpAny_bind (wpAny_field hos hds (x := .none) rfl (wpAny_bind (wpAny_listPart .none ?_))))
  rw [if_neg hstep]
  refine wpAny_bind (wpAny_field hos hds (x := vl) rfl (wpAny_bind (wpAny_listPart pl ?_)))
  refine wpAny_bind (wpAny_field hos hds (x := vu) rfl (wpAny_bind (wpAny_listPart pu (wpAny_pure ?_))))
  first
    | simp only [hsame, Bool.false_eq_true, if_false]
    | refine PySem.W.KFB.if_not hsame ?_
    | (dsimp only
       rw [if_neg (by rw [hsame]; exact Bool.false_ne_true)])
  refine wpAny_bind (m := Builtin.List.listAllItems (.ref b) "must assign iterable to extended slice") ?_
  unfold Builtin.List.listAllItems
  refine wpAny_bind (wpAny_typeOf hb.typeIs ?_)
  first
    | refine PySem.W.KFB.if_so (by decide) ?_
    | rw [if_pos (by decide)]
    | simp only [beq_self_eq_true, Bool.true_or, if_true]
  unfold Builtin.List.listItems
  refine wpAny_bind (wpAny_seqItems e2 rfl (wpAny_pure ?_))
  refine wpAny_bind (wpAny_bind (wpAny_seqItems e rfl (wpAny_pure ?_)))
  refine wpAny_bind (wpAny_of_eq ((sliceIndices_raw (some (a : Int)) (some (c : Int)) none items.size (by simp)).trans (congrArg (pure : Int × Int × Int → Sem (Int × Int × Int)) (bounds_run hac hc))) ?_)
  show wpAny _ _ (if ((1 : Int) == 1) = true then _ else _) _ _ s
  rw [if_pos (by decide)]
  refine wpAny_bind (wpAny_rule ?_)
  first
    | simp only [notLongL hsz, Bool.false_eq_true, if_false]
    | refine PySem.W.KFB.if_not (notLongL hsz) ?_
  first | refine wpAny_bind (wpAny_pure ?_) | skip
  show wpAny _ _ (updateSeq l (fun xs => xs.extract 0 ((a : Int)).toNat ++ new ++ xs.extract (max (a : Int) (c : Int)).toNat xs.size) >>= _) _ _ s
  rw [hmax, Int.toNat_natCast]
  refine wpAny_bind (wpAny_updateSeq (hz := Nat.le_trans (Nat.le_add_right _ _) hsz) (_hz' := hz') e rfl ?_)
  refine wpAny_bind (wpAny_letGo ?_)
  first
    | exact wpAny_bind (wpAny_pure (wpAny_pure ⟨.none, rfl, wpAny_pure h⟩))
    | exact wpAny_pure ⟨.none, rfl, wpAny_pure h⟩
end

section
variable {X : Cx}
/-- xs[a:c] = ys of another list, at the value level: sl is the slice object that was just made -/
theorem set_slice {pins : List (Addr × Obj)} {s : Shared} {σ : St} {H : Hp} {l b sl : Addr} {xs ys : List V} {a c : Int} {vl vu : Value} {Q : Unit → Shared → Prop} (I : Inv X pins σ H s)
    (hH : H l = some (.lst xs)) (hB : H b = some (.lst ys)) (hne : l ≠ b) (hs : s.heap.IsSliceOf sl vl vu .none) (ra : RelV (.int a) vl) (rc : RelV (.int c) vu) (h0 : 0 ≤ a) (hac : a ≤ c) (hc : c ≤ xs.length)
    (hz : xs.length + ys.length ≤ sizeLine) (h : ∀ s', Inv X pins σ (upd H l (.lst (xs.take a.toNat ++ ys ++ xs.drop c.toNat))) s' → Q () s') :
    wpAny (model X.prog X.w) X.A (setItem (.ref l) (.ref sl) (.ref b)) Q X.xe s := by
  obtain ⟨ta, rfl⟩ := ra
  obtain ⟨tc, rfl⟩ := rc
  obtain ⟨z, its, n, r, hl, e⟩ := I.lstM hH
  obtain ⟨z2, its2, n2, r2, hl2, e2⟩ := I.lstM hB
  obtain ⟨a', rfl⟩ := Int.eq_ofNat_of_zero_le h0
  obtain ⟨c', rfl⟩ := Int.eq_ofNat_of_zero_le (Int.le_trans h0 hac)
  simp only [Int.toNat_natCast] at h
  refine setItem_slice (a := a') (c := c') e e2 hne hs (.int _ _) (.int _ _) (by omega) (by rw [List.size_toArray]; omega) (by rw [List.size_toArray, List.size_toArray]; omega) (h _ ?_)
  refine I.lset (its' := its.take a' ++ its2 ++ its.drop c') (t' := s.toks) hH e ?_ (Vals.append (Vals.append (r.take _) r2) (r.drop _)) ?_
  · exact splice_eq its its2 a' c'
  · rw [List.length_append, List.length_append, List.length_take, List.length_drop]
    omega
end
end L2

namespace Att
open PySem PySem.W PySem.Calls PyProof.Rows

/-! ### the script -/
theorem ints_of_wellAll {P : Params} {h : Heap} : ∀ (ns : List Int) (vs : List Value), WellAll P h vs (ns.map WData.int) → IntsAre vs ns := by
  intro ns
  induction ns with
  | nil =>
    intro vs w
    rw [List.map_nil] at w
    cases w
    exact .nil
  | cons n ns ih =>
    intro vs w
    rw [List.map_cons] at w
    cases w with
    | cons a b =>
      cases a
      exact .cons _ _ (ih _ b)

theorem script_of {l : OpenLaw} {n : Nat} (hn : l.most = some n) {P : Params} {h : Heap} {args : List WData} {vals : List Value}
    (hpre : l.row.toRowW.claim.pre args = true) (hwl : WellAll P h vals args) :
    ∃ a vs ns, vals = [Value.ref a] ∧ args = [WData.list (ns.map WData.int)] ∧ h.get? a = some { cls := .type "list", data := .seq vs.toArray } ∧ IntsAre vs ns ∧ ns.length ≤ n := by
  have hsh : WShape.hasAll [] args [.list .int] = true := (pre_splitW hpre).1
  have hc : l.pre.holds [] { args := args } = true := (pre_splitW hpre).2
  obtain ⟨d, r, rfl, h1, h2⟩ := hasAllW_cons hsh
  obtain rfl := hasAllW_nil h2
  obtain ⟨xs, rfl, h3⟩ := hasW_list h1
  obtain ⟨ns, rfl⟩ := items_int h3
  have hlen : ns.length ≤ n := by
    unfold OpenLaw.pre at hc
    have h4 : (WTm.not (.lt (.lit (.int (n : Int))) (.len (.arg 0)))).holds [] { args := [.list (ns.map .int)] } = true := by
      have h4 := (holds_andW hc).1
      rw [hn] at h4
      exact h4
    have h5 := condW_of h4 (w_not (w_lt w_lit (w_len_list (w_arg rfl))))
    rw [List.length_map] at h5
    refine Nat.le_of_not_lt fun q => ?_
    have q' : (n : Int) < ((ns.length : Nat) : Int) := by omega
    first
      | (rw [decide_eq_true q'] at h5; exact absurd h5 (by decide))
      | (simp at h5; omega)
  cases hwl with
  | cons w1 w2 =>
    cases w2
    cases w1 with
    | list ho hall => exact ⟨_, _, ns, rfl, rfl, ho, ints_of_wellAll ns _ hall, hlen⟩

theorem post_true (l : OpenLaw) (args : List WData) : l.row.toRowW.claim.post args (.bool true) args = true :=
  postW_of (r := l.row.toRowW) (X := (true == true))
    (show WShape.has [] (.bool true) .bool = true by first | rfl | decide | simp [WShape.has, WShape.arms, WShape.armsAll])
    (show (WTm.eq .res (.lit (.bool true))).value [] { args := args, res := some (.bool true), after := args } = some (.bool (true == true)) from w_eq_bool (w_res rfl) w_lit) rfl

/-! ### the attachment: holds_open's last premise (the goal 'hc' behind k_head) from a wpAny of the law's body -/
theorem attach {l : OpenLaw} {n : Nat} {q : Program} {loose : List Str} {XP : (Str → Option Value) → Heap → Prop} {YP : World → Heap → Prop} {d : DefRec} {x : Str}
    (hn : l.most = some n) (hdf : d.params.defaults = [])
    (hbind : ∀ pm cd doc v : Value, bindArgs (docDef d.name d.params d.body d.scope pm cd doc) ⟨[v], []⟩ = pure [(x, v)])
    (hx : d.scope.names.lookup x = some .local ∨ d.scope.names.lookup x = some .cell)
    (hk : d.scope.kind = .function) (hco : d.scope.isCoroutine = false) (hgen : d.scope.isGenerator = false)
    (body : ∀ (w : World) (s₀ s₁ s : Shared) (mg mb : Str → Option Value) (fa : Addr) (o : Obj) (pm cd doc : Value) (a : Addr) (vs : List Value) (ns : List Int),
      Ground q loose [] XP w s₀ mg mb s₁.heap → YP w s₁.heap →
      s₁.heap.get? fa = some o → o.data = .func (docDef d.name d.params d.body d.scope pm cd doc) → s₁.heap.CodeRec cd d.name → mg d.name = some (.ref fa) →
      s₁.heap.get? a = some { cls := .type "list", data := .seq vs.toArray } → IntsAre vs ns → ns.length ≤ n →
      s.gens = #[] → s.os = s₁.os →
      Fr s₁.heap s₁.heap.objs.size s.heap (bindL (envOfC d.name d.scope s₁.heap.objs.size fa cd).kindOf [(x, .ref a)] fun _ => none) →
      Cl s₁.heap.objs.size (cellsFrom (s₁.heap.objs.size + 1) d.scope.names []) s.heap (bindC (envOfC d.name d.scope s₁.heap.objs.size fa cd).kindOf [(x, .ref a)] fun _ => none) →
      wpAny (model l.prog w) (callerA.deeper (envOfC d.name d.scope s₁.heap.objs.size fa cd)) (execs d.body (envOfC d.name d.scope s₁.heap.objs.size fa cd))
        (fun f s' => f = .ret (.bool true) ∧ OldK s₁.heap s'.heap ∧ s'.os = s₁.os ∧ AllBare s'.gens) (fun _ _ => False) s) :
    WalkO q loose XP YP l.row.toRowW d [] (fun f vs => PySem.call f vs) := by
  intro w s₀ s₁ mg mb G Y fa o pm cd doc dV kV ho hd hcd hD hmg hg args vals as hpre hlay hrd hwl hlo
  obtain rfl : dV = .none := Dflts.none hD hdf
  obtain rfl : kV = .none := Dflts.noKw hD
  obtain ⟨a, vs, ns, rfl, rfl, hobj, hints, hlen⟩ := script_of hn hpre hwl
  refine enter_call ?_
  refine call_cells_ret (o := o) (by rw [depth_caller]; decide) ho (fd_plain hd) G.T.nolimit hcd (hbind pm cd doc (.ref a)) (fun y hy => ?_) (fun h₁ tk F X => ?_) hco hgen hk
  · obtain rfl : y = (x, Value.ref a) := List.mem_singleton.mp hy
    rcases hx with e | e
    · exact .inl e
    · exact .inr ⟨e, cellsFrom_some _ _ _ (.inl e)⟩
  · refine wpAny_mono (body w s₀ s₁ { s₁ with heap := h₁, toks := tk } mg mb fa o pm cd doc a vs ns G Y ho (fd_plain hd) hcd hmg hobj hints hlen hg rfl F X) (fun f s' hq => ?_) (fun _ _ hq => hq)
    obtain ⟨rfl, h2, h3, h4⟩ := hq
    exact ⟨.inl ⟨.bool true, .bool true, [], rfl, fun _ => rfl, .bool true, post_true l _, fun _ => ⟨List.Pairwise.nil, fun _ hm => (nomatch hm)⟩⟩, h2, h3, h4⟩

/-- the same from a codeAny of the CALL (for a layer whose function contracts speak of calls) -/
theorem attach_call {l : OpenLaw} {n : Nat} {q : Program} {loose : List Str} {XP : (Str → Option Value) → Heap → Prop} {YP : World → Heap → Prop} {d : DefRec}
    (hn : l.most = some n) (hdf : d.params.defaults = [])
    (call : ∀ (w : World) (s₀ s₁ : Shared) (mg mb : Str → Option Value) (fa : Addr) (o : Obj) (pm cd doc : Value) (a : Addr) (vs : List Value) (ns : List Int),
      Ground q loose [] XP w s₀ mg mb s₁.heap → YP w s₁.heap →
      s₁.heap.get? fa = some o → o.data = .func (docDef d.name d.params d.body d.scope pm cd doc) → s₁.heap.CodeRec cd d.name → mg d.name = some (.ref fa) →
      s₁.heap.get? a = some { cls := .type "list", data := .seq vs.toArray } → IntsAre vs ns → ns.length ≤ n → s₁.gens = #[] →
      codeAny (model l.prog w) callerA (.call (.ref fa) ⟨[.ref a], []⟩) (fun r s' => r = .ok (.ret (.bool true)) ∧ OldK s₁.heap s'.heap ∧ s'.os = s₁.os ∧ AllBare s'.gens) s₁) :
    WalkO q loose XP YP l.row.toRowW d [] (fun f vs => PySem.call f vs) := by
  intro w s₀ s₁ mg mb G Y fa o pm cd doc dV kV ho hd hcd hD hmg hg args vals as hpre hlay hrd hwl hlo
  obtain rfl : dV = .none := Dflts.none hD hdf
  obtain rfl : kV = .none := Dflts.noKw hD
  obtain ⟨a, vs, ns, rfl, rfl, hobj, hints, hlen⟩ := script_of hn hpre hwl
  refine enter_call (codeAny_mono (call w s₀ s₁ mg mb fa o pm cd doc a vs ns G Y ho (fd_plain hd) hcd hmg hobj hints hlen hg) fun r s' hq => ?_)
  obtain ⟨rfl, h2, h3, h4⟩ := hq
  exact ⟨.inl ⟨.bool true, .bool true, [], rfl, fun _ => rfl, .bool true, post_true l _, fun _ => ⟨List.Pairwise.nil, fun _ hm => (nomatch hm)⟩⟩, h2, h3, h4⟩

/-- the same where the top left finished generators (o_head chose holds_openN): nothing may have changed at all and no generator may be left -/
theorem attachN {l : OpenLaw} {n : Nat} {q : Program} {loose : List Str} {XP : (Str → Option Value) → Heap → Prop} {YP : World → Heap → Prop} {d : DefRec} {x : Str}
    (hn : l.most = some n) (hdf : d.params.defaults = [])
    (hbind : ∀ pm cd doc v : Value, bindArgs (docDef d.name d.params d.body d.scope pm cd doc) ⟨[v], []⟩ = pure [(x, v)])
    (hx : d.scope.names.lookup x = some .local ∨ d.scope.names.lookup x = some .cell)
    (hk : d.scope.kind = .function) (hco : d.scope.isCoroutine = false) (hgen : d.scope.isGenerator = false)
    (body : ∀ (w : World) (s₀ s₁ s : Shared) (mg mb : Str → Option Value) (fa : Addr) (o : Obj) (pm cd doc : Value) (a : Addr) (vs : List Value) (ns : List Int),
      Ground q loose [] XP w s₀ mg mb s₁.heap → YP w s₁.heap →
      s₁.heap.get? fa = some o → o.data = .func (docDef d.name d.params d.body d.scope pm cd doc) → s₁.heap.CodeRec cd d.name → mg d.name = some (.ref fa) →
      s₁.heap.get? a = some { cls := .type "list", data := .seq vs.toArray } → IntsAre vs ns → ns.length ≤ n →
      s.gens = #[] → s.os = s₁.os →
      Fr s₁.heap s₁.heap.objs.size s.heap (bindL (envOfC d.name d.scope s₁.heap.objs.size fa cd).kindOf [(x, .ref a)] fun _ => none) →
      Cl s₁.heap.objs.size (cellsFrom (s₁.heap.objs.size + 1) d.scope.names []) s.heap (bindC (envOfC d.name d.scope s₁.heap.objs.size fa cd).kindOf [(x, .ref a)] fun _ => none) →
      wpAny (model l.prog w) (callerA.deeper (envOfC d.name d.scope s₁.heap.objs.size fa cd)) (execs d.body (envOfC d.name d.scope s₁.heap.objs.size fa cd))
        (fun f s' => f = .ret (.bool true) ∧ (∀ b o, s₁.heap.get? b = some o → s'.heap.get? b = some o) ∧ s'.os = s₁.os ∧ s'.gens = #[]) (fun _ _ => False) s) :
    WalkN q loose XP YP l.row.toRowW d [] (fun f vs => PySem.call f vs) := by
  intro w s₀ s₁ mg mb G Y fa o pm cd doc dV kV ho hd hcd hD hmg hg args vals as hpre hlay hrd hwl hlo
  obtain rfl : dV = .none := Dflts.none hD hdf
  obtain rfl : kV = .none := Dflts.noKw hD
  obtain ⟨a, vs, ns, rfl, rfl, hobj, hints, hlen⟩ := script_of hn hpre hwl
  refine enter_callW ?_
  refine call_cells_ret (o := o) (by rw [depth_caller]; decide) ho (fd_plain hd) G.T.nolimit hcd (hbind pm cd doc (.ref a)) (fun y hy => ?_) (fun h₁ tk F X => ?_) hco hgen hk
  · obtain rfl : y = (x, Value.ref a) := List.mem_singleton.mp hy
    rcases hx with e | e
    · exact .inl e
    · exact .inr ⟨e, cellsFrom_some _ _ _ (.inl e)⟩
  · refine wpAny_mono (body w s₀ s₁ { s₁ with heap := h₁, toks := tk } mg mb fa o pm cd doc a vs ns G Y ho (fd_plain hd) hcd hmg hobj hints hlen hg rfl F X) (fun f s' hq => ?_) (fun _ _ hq => hq)
    obtain ⟨rfl, h2, h3, h4⟩ := hq
    exact ⟨.inl ⟨.bool true, .bool true, [], rfl, fun _ => rfl, .bool true, post_true l _, fun _ => ⟨List.Pairwise.nil, fun _ hm => (nomatch hm)⟩⟩, h2, h3, h4⟩

/-! ### rules over ANY heap (no ledger) from facts about the written part K: the library's own take a ledger (News) for what they write -/
section
variable {prog : Program} {w : World} {A : Around} {E : Value → Shared → Prop} {s : Shared} {K : Frag}

/-- a def of the module, or a method (qual 'C.m'), entered: the frame is the next address; cells behind it -/
theorem call_fn {R : Result → Shared → Prop} {name qual : Str} {params : Arguments} {body : List Stmt} {scope : Scope} {dV kV doc pm cdv ct oc : Value} {an od : Option Addr} {osl : Array (Option Value)} {f : Addr} {args : Args} {binds : List (Str × Value)}
    (X : K.In s.heap) (hlim : s.heap.NoLimit) (ho : K.lookup f = some ⟨oc, od, .func (fnOf name qual params body scope dV kV doc pm an cdv ct), osl⟩) (hcd : codeIn K cdv qual = true) (hroom : A.depth < recursionLimit)
    (hbind : BindsTo s (fnOf name qual params body scope dV kV doc pm an cdv ct) args binds)
    (hkind : (binds.all fun y => scope.names.lookup y.1 == some .local || scope.names.lookup y.1 == some .cell) = true)
    (h : ∀ s₁, InCallC s s.heap.objs.size (bindL (envOfC qual scope s.heap.objs.size f cdv).kindOf binds fun _ => none) (cellsFrom (s.heap.objs.size + 1) scope.names [])
        (bindC (envOfC qual scope s.heap.objs.size f cdv).kindOf binds fun _ => none) s₁ →
      wpAny (model prog w) (A.deeper (envOfC qual scope s.heap.objs.size f cdv)) (execs body (envOfC qual scope s.heap.objs.size f cdv))
        (fun fl s' => R (.ok (.ret (match fl with | .ret v => v | _ => .none))) s')
        (fun e s' => wpAny (model prog w) (A.deeper (envOfC qual scope s.heap.objs.size f cdv)) (leaving (envOfC qual scope s.heap.objs.size f cdv) e) (fun _ s'' => R (.error e) s'') (fun e' s'' => R (.error e') s'') s') s₁)
    (hco : scope.isCoroutine = false) (hgen : scope.isGenerator = false) (hk : scope.kind = .function) : codeAny (model prog w) A (.call (.ref f) args) R s := by
  refine codeAny_call_function hroom (X _ _ ho) rfl hco hgen rfl (codeRec_of X hcd) (hbind _ _ _ _ ?_)
  refine wpAny_newFunctionEnv_cells hk (kindsX hkind _) fun env he s₁ x => ?_
  subst he
  exact ⟨hlim.keeps x.toInCall.keep, codeAny_func (h s₁ x)⟩

/-- C(..): dict at size, instance at size + 1, then __init__ -/
theorem make_obj {R : Result → Shared → Prop} {C fI : Addr} {rest : List Value} {kw : List (Str × Value)}
    (X : K.In s.heap) (hm : makesIn K C = true) (hi : findIn K (.ref C) "__init__" = some (some (.ref fI))) (hf : isFn K (.ref fI) = true)
    (h : codeAny (model prog w) (A.under (.builtin "type.__call__" ⟨.ref C :: rest, kw⟩)) (.call (.ref fI) ⟨.ref (s.heap.objs.size + 1) :: rest, kw⟩) (InitBack (s.heap.objs.size + 1) R)
      { s with heap := (s.heap.push emptyDict).push (instObj C s.heap.objs.size) }) : codeAny (model prog w) A (.call (.ref C) ⟨rest, kw⟩) R s := by
  obtain ⟨hh, g, d, t, os⟩ := s
  exact make_core (makes_of X hm) (looks_findIn X hi) (fun self => bind_fn X self (beq_iff_eq.mp hf)) (.inl rfl) h

/-- x.name where the instance's dict holds the name and the class does not -/
theorem get_field {x C : Addr} {ox : Obj} {es : List DictEntry} {n : Nat} {name : Str} {expr : Bool} {v : Value} {Q : Value → Shared → Prop}
    (X : K.In s.heap) (I : PySem.W.InstAt s.heap x ox C (some (dictOf es n))) (hg : plainGet K C name = true) (hh : hasDictIn K C = true) (ha : findIn K (.ref C) name = some none)
    (hl : getL name es = some (some v)) (hv : handedIn v = true) (h : Q v { s with toks := s.toks + 1 }) : wpAny (model prog w) A (getAttr (.ref x) name expr) Q E s :=
  get_value X I (plainGet_of hg).1 (findObj_own hh ha rfl hl) hv h

/-- x.m(..): the method found in the class -/
theorem get_method {x C f : Addr} {ox : Obj} {es : List DictEntry} {n : Nat} {name : Str} {pl : Sem Bool} {Q : Value × List Value → Shared → Prop}
    (X : K.In s.heap) (I : PySem.W.InstAt s.heap x ox C (some (dictOf es n))) (hg : plainGet K C name = true) (hf : findIn K (.ref C) name = some (some (.ref f))) (ht : isFn K (.ref f) = true)
    (hl : getL name es = some none) (h : Q (.ref f, [.ref x]) s) : wpAny (model prog w) A (getMethod (.ref x) name pl) Q E s :=
  method_fn X I (plainGet_of hg).1 (plainGet_of hg).2 hf (beq_iff_eq.mp ht) (by show (lookIn name (dictOf es n)).map _ = _; rw [lookIn_dict, hl]; rfl) h

/-! the whole heap as the ledger: makes every rule that writes through a ledger a rule over any heap -/
def noObjs (h : Heap) : Heap := { h with objs := #[] }
theorem noObjs_get (h : Heap) (b : Addr) : (noObjs h).get? b = none := by
  cases e : (noObjs h).get? b with
  | none => rfl
  | some o => exact absurd (Heap.lt_size e) (Nat.not_lt_zero _)
def ledger (h : Heap) (L d : Addr) : List (Addr × Obj) := (List.range h.objs.size).filterMap fun a => if a = L ∨ a = d then none else (h.get? a).map fun o => (a, o)
theorem mem_ledger {h : Heap} {L d a : Addr} {o : Obj} : (a, o) ∈ ledger h L d ↔ a ≠ L ∧ a ≠ d ∧ h.get? a = some o := by
  unfold ledger
  rw [List.mem_filterMap]
  constructor
  · rintro ⟨b, _, e⟩
    split at e
    · cases e
    · rename_i hb
      obtain ⟨o', ho, e'⟩ := Option.map_eq_some_iff.mp e
      cases e'
      exact ⟨fun q => hb (.inl q), fun q => hb (.inr q), ho⟩
  · rintro ⟨n1, n2, ho⟩
    refine ⟨a, List.mem_range.mpr (Heap.lt_size ho), ?_⟩
    rw [if_neg (show ¬ (a = L ∨ a = d) from fun q => q.elim n1 n2), ho] <;> rfl
theorem news_ledger {h : Heap} {L d : Addr} {od : Obj} (hne : d ≠ L) (ho : h.get? d = some od) : News (noObjs h) L h ([] ++ (d, od) :: ledger h L d) := by
  rintro ⟨a, o⟩ hp
  rcases List.mem_cons.mp hp with e | hp
  · cases e
    exact ⟨ho, hne, noObjs_get _ _⟩
  · obtain ⟨n1, n2, e⟩ := mem_ledger.mp hp
    exact ⟨e, n1, noObjs_get _ _⟩
theorem fr_all {h : Heap} {L : Addr} {m : Str → Option Value} (n : h.Ns L m) : Fr (noObjs h) L h m :=
  ⟨n, fun b o e => (by rw [noObjs_get] at e; cases e), Nat.zero_le _⟩
/-- Upd of the head entry (for append_K, setItem_K ..) -/
theorem upd_ledger {h : Heap} {L d : Addr} {o o' : Obj} : Upd d o o' ((d, o) :: ledger h L d) ((d, o') :: ledger h L d) :=
  .head fun ⟨_, _⟩ hp => (mem_ledger.mp hp).2.1

/-- x.name = v over any heap: L is any namespace of the heap (the frame's, say): its map stays, its object is not told; all else but the dict stays -/
theorem set_field {x C dx L : Addr} {ox : Obj} {m : Str → Option Value} {es es' : List DictEntry} {n n' : Nat} {name : Str} {v : Value} {Q : Unit → Shared → Prop}
    (X : K.In s.heap) (I : PySem.W.InstAt s.heap x ox C (some (dictOf es n))) (hd : ox.dict = some dx) (hL : s.heap.Ns L m) (hne : dx ≠ L)
    (hs : findIn K (.ref C) "__setattr__" = some (some (.builtin "object.__setattr__"))) (hp : plainOver K C = true) (ht : takerIn K C name = some none) (hh : hasDictIn K C = true) (hl : (getL name es).isSome = true)
    (e : (putL name (PyData.keyHash w.params name) (.str name (s.toks + 1)) v es, putN name es n) = (es', n')) (hz : es'.length ≤ 1000)
    (h : ∀ h' : Heap, h'.Ns L m → h'.get? dx = some (dictOf es' n') → (∀ b o, b ≠ dx → b ≠ L → s.heap.get? b = some o → h'.get? b = some o) → Q () { s with heap := h', toks := s.toks + 2 }) :
    wpAny (model prog w) A (setAttr (.ref x) name v) Q E s := by
  obtain ⟨e1, e2⟩ := Prod.mk.inj e
  have hdx : s.heap.get? dx = some (dictOf es n) := by
    have := I.dict
    rw [hd] at this
    exact this
  refine set_plain X I hs (osa_dict (s := { s with toks := s.toks + 1 }) (h₀ := noObjs s.heap) (L := L) (m := m) (od := dictOf es n) (od' := dictOf es' n') (es := es') (n := n') (pre := []) (post := ledger s.heap L dx)
    (fr_all hL) (news_ledger hne hdx) X I hd hp ht hh hl (fun _ q => nomatch q) (fun ⟨_, _⟩ q => (mem_ledger.mp q).2.1) (by rw [putName_dict, e1, e2]) rfl hz fun h' F' N' => ?_)
  exact h h' F'.ns (N'.get (List.Mem.head _)) fun b o n1 n2 ho => N'.get (List.Mem.tail _ (mem_ledger.mpr ⟨n2, n1, ho⟩))
end
end Att

namespace L2
open PySem PySem.Spec PyProof.Rows

theorem vals_ints : ∀ {vs : List Value} {ns : List Int}, IntsAre vs ns → Vals (ns.map V.int) vs
  | _, _, .nil => .nil
  | _, _, .cons n t h => .cons ⟨t, rfl⟩ (vals_ints h)

/-- nothing is tracked but the script, known to the object (or it is an object of the module) -/
def Only (H : Hp) : Prop := ∀ b, H b = none ∨ ∃ o xs, H b = some (.frz o (.lst xs))

/-- THE HEAD: the law's promise, at the heap behind the top. F, the promise of the law's def, may use that base is part of the heap (so K.In base, base.Ns mainGlobals mg stand in Mod) -/
theorem law_call {P : Program} {w : World} {K : PySem.W.Frag} {mg mb : Str → Option Value} {CX : CXT} {k : Nat} {fa a : Addr} {fd : FuncData} {x : Str} {sp : Sp} {s₁ : Shared} {vs : List Value} {ns : List Int}
    (KX : K.In s₁.heap) (hns : s₁.heap.Ns mainGlobals mg) (hb : s₁.heap.Ns builtinsNs mb) (hbb : ∀ x : Str, x ≠ "__name__" → mb x = bootBuiltins x) (hlim : s₁.heap.NoLimit) (hg : s₁.gens = #[])
    (ha : s₁.heap.get? a = some { cls := .type "list", data := .seq vs.toArray }) (hi : IntsAre vs ns) (hl : ns.length ≤ sizeLine) (hr : Room k callerA)
    (F : ∀ base : Heap, K.In base → base.Ns mainGlobals mg → FnOk P w K mg base CX k fa fd [x] sp) (hbind : ∀ (s : Shared) (u : Value), BindsTo s fd ⟨[u], []⟩ [(x, u)])
    (hsp : ∀ H : Hp, Only H → SqL K H a (ns.map V.int) → sp [.ref a] H (fun v _ => v = .bl true) fun _ _ _ => False)
    (hCX : ∀ H e s', CX [] H s₁ (fun _ _ _ => False) e s' → False) :
    codeAny (model P w) callerA (.call (.ref fa) ⟨[.ref a], []⟩) (fun r s' => r = .ok (.ret (.bool true)) ∧ OldK s₁.heap s'.heap ∧ s'.os = s₁.os ∧ AllBare s'.gens) s₁ := by
  have rv := vals_ints hi
  have lenV := hi.length
  -- from an abstract heap in which nothing but the script may be tracked
  have core : ∀ H : Hp, Only H → SqL K H a (ns.map V.int) → HOk P w H s₁.heap → (∀ b, H b ≠ none → b = a) → (H a ≠ none → K.lookup a = none) →
      codeAny (model P w) callerA (.call (.ref fa) ⟨[.ref a], []⟩) (fun r s' => r = .ok (.ret (.bool true)) ∧ OldK s₁.heap s'.heap ∧ s'.os = s₁.os ∧ AllBare s'.gens) s₁ := by
    intro H hO hS hok hA hK
    have base_of : ∀ {b : Addr} {o : Obj}, s₁.heap.get? b = some o → H b = none → (hidT s₁.heap H).get? b = some o := fun e n => hidT_get e n
    have noA : ∀ {b : Addr} {o : Obj} {es : Array DictEntry} {ep : Nat}, s₁.heap.get? b = some o → o.data = .dict es ep → H b = none := fun {b o es ep} e d => by
      cases q : H b with
      | none => rfl
      | some u =>
        have e' : b = a := hA b (by rw [q]; simp)
        subst e'
        rw [ha] at e; cases e
        have d' : Data.seq vs.toArray _ = Data.dict es ep := d
        cases d'
    have nsK : ∀ {b : Addr} {m : Str → Option Value}, s₁.heap.Ns b m → (hidT s₁.heap H).Ns b m := fun {b m} ⟨o, es, ep, e, d, r⟩ => ⟨o, es, ep, base_of e (noA e d), d, r⟩
    have hKb : K.In (hidT s₁.heap H) := fun b o e => base_of (KX b o e) (by
      cases q : H b with
      | none => rfl
      | some u =>
        have e' : b = a := hA b (by rw [q]; simp)
        subst e'
        rw [hK (by rw [q]; simp)] at e; cases e)
    have hM : Mod K mg (hidT s₁.heap H) := ⟨hKb, nsK hns, ⟨mb, nsK hb, hbb⟩, let ⟨mc, h1, h2⟩ := hlim; ⟨mc, nsK h1, h2⟩⟩
    have e0 : Env0 P w K mg (hidT s₁.heap H) callerA [] s₁ H := ⟨rfl, hM, fun b o e => of_hidT e, Nat.le_of_eq (hidT_size _ _), trivial, fun b hb => absurd (show b ∈ ([] : List Addr) from hb) (by simp), hok, .of_eq hg⟩
    refine codeAny_mono ((F _ hKb (nsK hns)).run callerA [] s₁ H ⟨[.ref a], []⟩ [.ref a] [.ref a] _ _ hr e0 (hbind s₁ (.ref a)) (.cons rfl .nil) (hsp H hO hS)) fun r s' h => ?_
    cases r with
    | error e => exact (hCX H e s' h).elim
    | ok fl =>
      cases fl with
      | next => exact False.elim h
      | brk => exact False.elim h
      | cont => exact False.elim h
      | ret u =>
        obtain ⟨v, H', os, bare, un, hok', r', q⟩ := h
        have q' : v = .bl true := q
        subst q'
        obtain rfl : u = Value.bool true := r'
        refine ⟨rfl, OldK.of_keep fun b o e => ?_, os, bare⟩
        cases q : H b with
        | none => exact un.keep b o e q (by intro z; exact absurd (show b ∈ ([] : List Addr) from z) (by simp)) (by simp)
        | some u =>
          rcases hO b with z | ⟨ob, xs, z⟩
          · rw [q] at z; cases z
          · have z2 := un.frzs b ob _ z
            obtain ⟨e1, _⟩ := hok b _ z
            obtain ⟨e2, _⟩ := hok' b _ z2
            rw [e] at e1; cases e1
            exact e2
  cases hk : K.lookup a with
  | some o =>
    -- the script is one of the module's own objects
    have e := KX a o hk
    rw [ha] at e
    cases e
    refine core (fun _ => none) (fun _ => .inl rfl) (.inr ⟨_, vs.toArray, _, hk, rfl, rfl, rfl, by rw [List.size_toArray, lenV]; exact hl, by simpa using rv⟩) (fun b u z => by have z' : (none : Option HO) = some u := z; cases z') (fun b z => absurd rfl z) fun z => absurd rfl z
  | none =>
    refine core (fun b => if b = a then some (.frz { cls := .type "list", data := .seq vs.toArray } (.lst (ns.map V.int))) else none) (fun b => ?_) (.inl (.inr ⟨{ cls := .type "list", data := .seq vs.toArray }, if_pos rfl⟩)) (fun b u z => ?_) (fun b z => ?_) fun _ => hk
    · by_cases hb : b = a
      · exact .inr ⟨_, _, if_pos hb⟩
      · exact .inl (if_neg hb)
    · by_cases hb : b = a
      · have z' := (if_pos hb).symm.trans z
        cases z'
        subst hb
        exact ⟨ha, by rw [List.length_map]; exact hl, vs, _, rv, ha⟩
      · have z' := (if_neg hb).symm.trans z
        cases z'
    · by_cases hb : b = a
      · exact hb
      · exact absurd (if_neg hb) z
end L2

namespace L2
open PySem PySem.Spec PyProof.Rows

abbrev KOf {K : PySem.W.Frag} {h : Heap} (_ : K.In h) : PySem.W.Frag := K

/-- the goal that k_head leaves (case hc), from the law's promise. F gives the function object fd (K's own) once, then the promise over every base -/
theorem walk_of {l : PySem.W.OpenLaw} {n k : Nat} {q : Program} {loose : List Str} {XP : (Str → Option Value) → Heap → Prop} {YP : World → Heap → Prop} {d : DefRec} {K : Params → PySem.W.Frag} {CX : World → CXT} {sp : World → Sp} {x : Str}
    (hn : l.most = some n) (hn2 : n ≤ sizeLine) (hdf : d.params.defaults = []) (hr : Room k callerA)
    (hY : ∀ (w : World) (h : Heap), YP w h → (K w.params).In h)
    (F : ∀ (w : World) (mg : Str → Option Value) (fa : Addr) (h : Heap), (K w.params).In h → h.Ns mainGlobals mg → mg d.name = some (.ref fa) →
      ∃ fd : FuncData, (∀ (s : Shared) (u : Value), BindsTo s fd ⟨[u], []⟩ [(x, u)]) ∧
        ∀ base : Heap, (K w.params).In base → base.Ns mainGlobals mg → FnOk l.prog w (K w.params) mg base (CX w) k fa fd [x] (sp w))
    (hsp : ∀ (w : World) (H : Hp) (a : Addr) (ns : List Int), ns.length ≤ n → Only H → SqL (K w.params) H a (ns.map V.int) → sp w [.ref a] H (fun v _ => v = .bl true) fun _ _ _ => False)
    (hCX : ∀ (w : World) (H : Hp) (s : Shared) (e : Value) (s' : Shared), CX w [] H s (fun _ _ _ => False) e s' → False) :
    PySem.W.WalkO q loose XP YP l.row.toRowW d [] (fun f vs => PySem.call f vs) := by
  refine Att.attach_call hn hdf fun w s₀ s₁ mg mb fa o pm cd doc a vs ns G Y ho hd hcd hmg hobj hints hlen hg => ?_
  have KX := hY w _ Y
  obtain ⟨fd, hb, hF⟩ := F w mg fa _ KX G.T.g hmg
  exact law_call KX G.T.g G.T.b G.T.builtins G.T.nolimit hg hobj hints (Nat.le_trans hlen hn2) hr hF hb (fun H hO hS => hsp w H a ns hlen hO hS) fun H e s' => hCX w H s₁ e s'
/-- the same where the promise hangs on the written part alone: (sp := My.sp_law), no hole under a binder -/
theorem walk_ofK {l : PySem.W.OpenLaw} {n k : Nat} {q : Program} {loose : List Str} {XP : (Str → Option Value) → Heap → Prop} {YP : World → Heap → Prop} {d : DefRec} {K : Params → PySem.W.Frag} {CX : CXT} {sp : PySem.W.Frag → Sp} {x : Str}
    (hn : l.most = some n) (hn2 : n ≤ sizeLine) (hdf : d.params.defaults = []) (hr : Room k callerA)
    (hY : ∀ (w : World) (h : Heap), YP w h → (K w.params).In h)
    (F : ∀ (w : World) (mg : Str → Option Value) (fa : Addr) (h : Heap), (K w.params).In h → h.Ns mainGlobals mg → mg d.name = some (.ref fa) →
      ∃ fd : FuncData, (∀ (s : Shared) (u : Value), BindsTo s fd ⟨[u], []⟩ [(x, u)]) ∧
        ∀ base : Heap, (K w.params).In base → base.Ns mainGlobals mg → FnOk l.prog w (K w.params) mg base CX k fa fd [x] (sp (K w.params)))
    (hsp : ∀ (K : PySem.W.Frag) (H : Hp) (a : Addr) (ns : List Int), ns.length ≤ n → Only H → SqL K H a (ns.map V.int) → sp K [.ref a] H (fun v _ => v = .bl true) fun _ _ _ => False)
    (hCX : ∀ (H : Hp) (s : Shared) (e : Value) (s' : Shared), CX [] H s (fun _ _ _ => False) e s' → False) :
    PySem.W.WalkO q loose XP YP l.row.toRowW d [] (fun f vs => PySem.call f vs) :=
  walk_of (K := K) (CX := fun _ => CX) (sp := fun w => sp (K w.params)) hn hn2 hdf hr hY F (fun w H a ns h1 h2 h3 => hsp (K w.params) H a ns h1 h2 h3) fun _ H s e s' => hCX H s e s'
end L2

/- THE LAST THEOREM (shape; LID, My.* are yours):
   My.Adr: a structure of the addresses that your layer names (classes, functions); My.Txt K t: a structure (Prop) of the equations over K;
   My.txt_mk : {K} {implicit addresses ..} (e1 : nsIn K mainGlobals "law" = some (some (.ref f))) (e2 : K.lookup f = some ⟨oc, od, .func (fnOf "law" "law" params body scope dV kV doc pm an cdv ct), sl⟩) (e3 : codeIn K cdv "law" = true) .. : ∃ t, My.Txt K t

set_option maxRecDepth 100000 in
set_option maxHeartbeats 0 in
theorem PySem.Challenge.cw_LID_holds : PySem.Challenge.rw_LID.Holds := by
  w_on; o_law; k_head; (case hw => w_witness2)
  k_fill
  refine L2.walk_of (l := PySem.Challenge.rw_LID) (n := 63) (k := 40) (x := "script") (CX := fun w => ..) (sp := fun _ => My.sp_law) rfl (by decide) rfl ⟨rfl, by decide, by decide⟩ (fun w h Y => PySem.W.kIn_of Y) ?F ?S ?C
  case F =>
    intro w mg fa h KX G hmg
    have T : ∃ t, My.Txt (L2.KOf KX) t := by
      dsimp only [L2.KOf]                          -- K must stand as «<heap const> w.params» for k_is
      refine' My.txt_mk ?e1 ?e2 ?e3 ..
      (case e1 => PySem.W.k_is)                    -- in the order: a name -> its address -> its object -> its parts
      (case e2 => PySem.W.k_is)
      ..
    obtain ⟨t, T⟩ := T
    have e0 := hmg.symm.trans (PySem.W.mg_of KX G T.law)
    cases e0                                       -- fa is the law's own address
    exact ⟨_, fun s u => .of_eq rfl, fun base kb nb => My.law_fn T kb nb⟩     -- if «.of_eq rfl» comes too early: refine' ⟨_, ?b, fun base kb nb => My.law_fn T kb nb⟩; exact fun s u => .of_eq rfl
  case S => exact fun w H a ns hl hO hS => ..
  case C => exact ..
(the tactic k_is has no namespace: write k_is) -/

/-! SHORT WORDS over the layer: a def of the text, its body, what a loop and a test want. -/
namespace L2
open PySem PySem.Spec PyProof.Rows

/-! ### the text by places -/
/-- the j-th statement of a class's body -/
def inClass (s : Stmt) (j : Nat) : Stmt := match s with
  | .ClassDef _ _ _ body _ _ _ _ _ _ _ => body.getD j (.Pass ⟨0, 0, 0, 0⟩)
  | _ => .Pass ⟨0, 0, 0, 0⟩
def defArgs (s : Stmt) : Arguments := match s with
  | .FunctionDef _ a _ _ _ _ _ _ _ _ => a
  | _ => { posonlyargs := [], args := [], vararg := none, kwonlyargs := [], kw_defaults := [], kwarg := none, defaults := [] }
def defBody (s : Stmt) : List Stmt := match s with
  | .FunctionDef _ _ b _ _ _ _ _ _ _ => b
  | _ => []
def defScope (s : Stmt) : Scope := match s with
  | .FunctionDef _ _ _ _ _ _ sc _ _ _ => sc
  | _ => { kind := .function, names := [], isGenerator := false, isCoroutine := false }

/-! ### no exception leaves a def -/
abbrev CX0 : CXT := fun _ _ _ _ _ _ => False
abbrev E0 : XK := fun _ _ _ => False
theorem pass0 {X : Cx} : Passes CX0 X E0 := fun _ _ _ _ _ _ _ h => h.elim

/-! ### a def (or method) of the text as it stands behind the top -/
structure Fun (K : PySem.W.Frag) (x qual : Str) (st : Stmt) (f : Addr) (fd : FuncData) : Prop where
  ex : ∃ (oc : Value) (od : Option Addr) (kV doc pm : Value) (an : Option Addr) (cdv ct : Value) (osl : Array (Option Value)),
    fd = PySem.W.fnOf x qual (defArgs st) (defBody st) (defScope st) .none kV doc pm an cdv ct ∧ K.lookup f = some ⟨oc, od, .func fd, osl⟩ ∧ PySem.W.codeIn K cdv qual = true
  kp : PySem.W.keepIn K (.ref f) = true
section
variable {P : Program} {w : World} {K : PySem.W.Frag} {mg : Str → Option Value} {base : Heap}
/-- THE RULE for a def: its body as a term of rules, and the reading of that term -/
theorem Fun.ok {x qual : Str} {st : Stmt} {f : Addr} {fd : FuncData} {N ps : List Str} {k : Nat} {sp : Sp} (F : Fun K x qual st f fd) (S : FnScope N ps (defScope st)) (len : ∀ vs H Q E, sp vs H Q E → vs.length = ps.length)
    (hbody : ∀ (cdv : Value) (A : Around) (outer : List Env) (s : Shared) (H : Hp) (vs : List V) (Q : VK) (E : XK), Room k (A.deeper (envOfC qual (defScope st) s.heap.objs.size f cdv)) → sp vs H Q E →
      ∃ t, PSs (cxOf CX0 P w K mg base N qual (defScope st) f cdv A outer s H E).nox (defBody st) t ∧ t { nx := fun _ H' => Q .non H', rt := Q } (start N vs) H) : FnOk P w K mg base CX0 (k + 1) f fd ps sp := by
  obtain ⟨oc, od, kV, doc, pm, an, cdv, ct, osl, rfl, lk, hcd⟩ := F.ex
  refine fn_of lk hcd S len fun A outer s H vs Q E hr hsp => ?_
  obtain ⟨t, h, q⟩ := hbody cdv A outer s H vs Q E hr hsp
  exact ⟨t, h.nox, q⟩
/-- how its arguments bind (no defaults): h is «fun _ _ _ _ _ _ us hl => match us, hl with | [_, _], _ => rfl», one _ a parameter -/
theorem Fun.binds {x qual : Str} {st : Stmt} {f : Addr} {fd : FuncData} {ps : List Str} (F : Fun K x qual st f fd)
    (h : ∀ (kV doc pm : Value) (an : Option Addr) (cdv ct : Value) (us : List Value), us.length = ps.length → bindArgs (PySem.W.fnOf x qual (defArgs st) (defBody st) (defScope st) .none kV doc pm an cdv ct) ⟨us, []⟩ = pure (ps.zip us)) : Binds K fd ps [] := by
  obtain ⟨oc, od, kV, doc, pm, an, cdv, ct, osl, rfl, lk, hcd⟩ := F.ex
  exact .all (h kV doc pm an cdv ct)
theorem fun_mk {x qual : Str} {st : Stmt} {f : Addr} {oc : Value} {od an : Option Addr} {osl : Array (Option Value)} {kV doc pm cdv ct : Value} (l : K.lookup f = some ⟨oc, od, .func (PySem.W.fnOf x qual (defArgs st) (defBody st) (defScope st) .none kV doc pm an cdv ct), osl⟩)
    (c : PySem.W.codeIn K cdv qual = true) (k : PySem.W.keepIn K (.ref f) = true) : Fun K x qual st f (PySem.W.fnOf x qual (defArgs st) (defBody st) (defScope st) .none kV doc pm an cdv ct) := ⟨⟨oc, od, kV, doc, pm, an, cdv, ct, osl, rfl, l, c⟩, k⟩
end
theorem hu_of {A : Around} {k : Nat} (hr : Room k A) : A.units + 1 < cLine := Nat.lt_of_le_of_lt (Nat.add_le_add_left (by decide : 1 ≤ 64) _) hr.units
theorem small1000 {n : Nat} (h : n ≤ 1000) : n < sizeLine := Nat.lt_of_le_of_lt h (by decide)

/-! ### expressions in short: the name that stands in the i-th slot -/
section
variable {X : Cx}
theorem pv (i : Nat) {x : Str} {pos : Pos} (hN : X.N[i]? = some x := by rfl) (hv : Vis X.env.scope x := by first | exact Or.inl rfl | exact Or.inr (Or.inl rfl) | exact Or.inr (Or.inr rfl)) (hd : (x == ("__debug__" : Str)) = false := by decide)
    (hcd : (x == ("__classdict__" : Str)) = false := by decide) : PE X (.Name x pos) (tVar i) := pe_var hN hv hd hcd
end

/-! ### tests -/
theorem iteF {A B : Prop} (h : B) : if false = true then A else B := by
  rw [if_neg Bool.false_ne_true]
  exact h
theorem iteT {A B : Prop} (h : A) : if true = true then A else B := by
  rw [if_pos rfl]
  exact h
theorem ite2 {c A B : Prop} [Decidable c] (h1 : c → A) (h2 : ¬ c → B) : if c then A else B := by
  by_cases h : c
  · rw [if_pos h]
    exact h1 h
  · rw [if_neg h]
    exact h2 h
theorem iteNS {c A B : Prop} [Decidable c] (hc : c) (h : B) : if (!decide c) = true then A else B := by
  rw [decide_eq_true hc]
  exact iteF h

/-! ### heaps -/
/-- all that was tracked is as it was -/
def Same (H H' : Hp) : Prop := ∀ b o, H b = some o → H' b = some o
theorem Same.refl (H : Hp) : Same H H := fun _ _ h => h
theorem Same.trans {H H1 H2 : Hp} (a : Same H H1) (b : Same H1 H2) : Same H H2 := fun c o h => b c o (a c o h)
theorem Same.free {H H' : Hp} (e : Same H H') {l : Addr} (h : H' l = Option.none) : H l = Option.none := by
  cases q : H l with
  | none => rfl
  | some o =>
    rw [e l o q] at h
    cases h
theorem Same.seq {K : PySem.W.Frag} {H H' : Hp} {a : Addr} {xs : List V} (e : Same H H') (h : SqL K H a xs) : SqL K H' a xs := by
  rcases h with (h | ⟨o, h⟩) | h
  · exact .inl (.inl (e _ _ h))
  · exact .inl (.inr ⟨o, e _ _ h⟩)
  · exact .inr h

end L2
/-! MY OWN RULES over the hand layer (behind it in the one file): comprehensions, signs of a text, all, isinstance, join, slices and sums of tuples, == of tuples of texts, own defs as calls. -/
namespace L2
open PySem PySem.Spec PyProof.Rows

/-! ### heaps, places -/
theorem line1000 : 1000 ≤ sizeLine := by decide
theorem same_upd {H : Hp} {l : Addr} (h : H l = none) (o : HO) : Same H (upd H l o) := fun b u e => by
  rw [upd_ne (ne_of_none e h)]
  exact e
theorem Same.put {H H' : Hp} {p : Addr} {o : HO} (e : Same H H') (h : H p = none) : Same H (upd H' p o) := fun b u q => by
  rw [upd_ne (ne_of_none q h)]
  exact e b u q
theorem Same.tup {K : PySem.W.Frag} {H H' : Hp} {a : Addr} {xs : List V} (e : Same H H') (h : SqT K H a xs) : SqT K H' a xs := by
  rcases h with (h | ⟨o, h⟩) | h
  · exact .inl (.inl (e _ _ h))
  · exact .inl (.inr ⟨o, e _ _ h⟩)
  · exact .inr h
theorem at_nat {α : Type} {xs : List α} {k : Int} (h0 : 0 ≤ k) (h1 : k < (xs.length : Int)) : ∃ v, atI xs k = some v ∧ xs[k.toNat]? = some v := by
  have hk : k.toNat < xs.length := by omega
  have e : xs[k.toNat]? = some xs[k.toNat] := List.getElem?_eq_getElem hk
  refine ⟨xs[k.toNat], ?_, e⟩
  have := atI_nat e
  rw [Int.toNat_of_nonneg h0] at this
  exact this
theorem at_map {α β : Type} {f : α → β} {xs : List α} {k : Int} {v : α} (h : atI xs k = some v) : atI (xs.map f) k = some (f v) := by
  unfold atI at h ⊢
  rw [List.length_map]
  cases e : ixN xs.length k with
  | none =>
    rw [e] at h
    cases h
  | some j =>
    rw [e] at h
    have h' : xs[j]? = some v := h
    show (xs.map f)[j]? = some (f v)
    rw [List.getElem?_map, h']
    rfl
theorem seq_cut {t u : TS} {D : Ends} {σ : St} {H : Hp} (Pv : St → Hp → Prop) (rest : ∀ σ H, Pv σ H → u D σ H) (now : (∀ σ H, Pv σ H → u D σ H) → t { D with nx := u D } σ H) : tSeq t u D σ H := now rest

/-! ### ways: tuples of texts -/
def Way (H : Hp) (a : Addr) (ws : List Str) : Prop := H a = some (.tup (ws.map V.str))
/-- the items of ws[lo:hi] -/
def cutL {α : Type} (xs : List α) (lo hi : Option Int) : List α := (xs.drop (HT.sIx xs.length 0 lo)).take (HT.sIx xs.length xs.length hi - HT.sIx xs.length 0 lo)
theorem cutV_map {α : Type} (f : α → V) (xs : List α) (lo hi : Option Int) : cutV (xs.map f) lo hi = (cutL xs lo hi).map f := by
  unfold cutV cutL
  rw [List.length_map, List.map_take, List.map_drop]
theorem Way.cut {H : Hp} {c : Addr} {ws : List Str} {lo hi : Option Int} (h : H c = some (.tup (cutV (ws.map V.str) lo hi))) : Way H c (cutL ws lo hi) := by
  rw [cutV_map] at h
  exact h
theorem Way.cat {H : Hp} {c : Addr} {ws os : List Str} (h : H c = some (.tup (ws.map V.str ++ os.map V.str))) : Way H c (ws ++ os) := by
  rw [← List.map_append] at h
  exact h
theorem cutL_last {α : Type} (xs : List α) : cutL xs none (some (-1)) = xs.dropLast := by
  unfold cutL
  rw [HT.sIx_none]
  show (xs.drop 0).take ((if (-1 : Int) < 0 then ((-1 : Int) + (xs.length : Int)).toNat else min (-1 : Int).toNat xs.length) - 0) = xs.dropLast
  rw [if_pos (by decide), List.drop_zero, List.dropLast_eq_take]
  congr 1
  omega
theorem cutL_take {α : Type} (xs : List α) (k : Nat) : cutL xs none (some (k : Int)) = xs.take k := by
  unfold cutL
  rw [HT.sIx_none, HT.sIx_nat, List.drop_zero, Nat.sub_zero]
  by_cases h : k ≤ xs.length
  · rw [Nat.min_eq_left h]
  · rw [Nat.min_eq_right (by omega), List.take_length, List.take_of_length_le (by omega)]
theorem cutL_drop {α : Type} (xs : List α) (k : Nat) : cutL xs (some (k : Int)) none = xs.drop k := by
  unfold cutL
  rw [HT.sIx_none, HT.sIx_nat]
  by_cases h : k ≤ xs.length
  · rw [Nat.min_eq_left h, List.take_of_length_le (by rw [List.length_drop]; omega)]
  · rw [Nat.min_eq_right (by omega), List.drop_length, List.drop_of_length_le (by omega), List.take_nil]
theorem cutL_len {α : Type} (xs : List α) (lo hi : Option Int) : (cutL xs lo hi).length ≤ xs.length := by
  unfold cutL
  rw [List.length_take, List.length_drop]
  omega
theorem cutL_mem {α : Type} {xs : List α} {lo hi : Option Int} {x : α} (h : x ∈ cutL xs lo hi) : x ∈ xs := List.mem_of_mem_drop (List.mem_of_mem_take h)

theorem cutL_sub {α : Type} (xs : List α) (lo hi : Option Int) : ∀ x ∈ cutL xs lo hi, x ∈ xs := fun _ h => cutL_mem h
theorem toString_length_le {v : Int} {k : Nat} (h0 : 0 ≤ v) (hk : 0 < k) (h : v < 10 ^ k) : (Str.ofString (toString v)).length ≤ k := by
  obtain ⟨m, rfl⟩ := Int.eq_ofNat_of_zero_le h0
  have e : toString (m : Int) = Nat.repr m := rfl
  rw [PySem.ofString_length, e]
  exact (Nat.length_repr_le_iff hk).mpr (by exact_mod_cast h)

/-! ### the signs of a text, walked -/
def Its (z : Str) : It := ⟨fun i _ => i < z.cps.size, fun i H x H' => H' = H ∧ ∃ c, z.cps[i]? = some c ∧ x = .str ⟨#[c]⟩, fun i _ => z.cps.size ≤ i⟩
theorem turn_ascii {P : Program} {w : World} {K : PySem.W.Frag} {tg : Expr} (it : Addr) (z : Str) (t : Tok) : Turn P w K tg (Its z) [it] it (fun i h => h.IsStrIter it "str_ascii_iterator" z t i) where
  mem := by simp
  obj := fun i h st b hb => by
    have e : b = it := by simpa using hb
    subst e
    obtain ⟨o, e, c, d⟩ := st
    exact ⟨o, e, fun v z => by rw [d] at z; cases z⟩
  keep := fun i h h' st k => by
    obtain ⟨o, e, r⟩ := st
    exact ⟨o, k it (by simp) o e, r⟩
  item := by
    intro X hP hw hK hc i pins s σ H E I hf st hg
    subst hP hw hK
    obtain ⟨f0, f1, f2, f3, f4, f5⟩ := hf it (by simp)
    have hx : z.cps[i]? = some z.cps[i] := Array.getElem?_eq_getElem hg
    refine wpAny_pyNext_ascii_item st hx fun h' st' sb => ?_
    have I1 : Inv X pins σ H { s with heap := h', toks := s.toks + 1 } := I.turned (fun b o hb e => (sb.2 b hb).trans e) f0 f1 f3 f4 f5
    obtain ⟨o, e, c, d⟩ := id st'
    exact ⟨_, rfl, go_of (s := { s with heap := h', toks := s.toks + 1 }) e c d (by decide) ⟨.str ⟨#[z.cps[i]]⟩, H, I1, ⟨_, rfl⟩, ⟨rfl, _, hx, rfl⟩, st', fun b hb => (hf b hb).1⟩⟩
  done := by
    intro X hP hw hK hc i pins s σ H E I hf st hg
    subst hP hw hK
    obtain ⟨f0, f1, f2, f3, f4, f5⟩ := hf it (by simp)
    exact wpAny_pyNext_ascii_end (I.ok.hd hc) st (Array.getElem?_eq_none hg) fun h' eb => ⟨rfl, I.turned (t' := s.toks) (fun b o hb e => eb b o hb e) f0 f1 f3 f4 f5⟩
  self := fun _ _ _ _ _ st h => wpAny_pyIter_striter_ascii st h
theorem turn_wide {P : Program} {w : World} {K : PySem.W.Frag} {tg : Expr} (it : Addr) (z : Str) (t : Tok) : Turn P w K tg (Its z) [it] it (fun i h => h.IsStrIter it "str_iterator" z t i) where
  mem := by simp
  obj := fun i h st b hb => by
    have e : b = it := by simpa using hb
    subst e
    obtain ⟨o, e, c, d⟩ := st
    exact ⟨o, e, fun v z => by rw [d] at z; cases z⟩
  keep := fun i h h' st k => by
    obtain ⟨o, e, r⟩ := st
    exact ⟨o, k it (by simp) o e, r⟩
  item := by
    intro X hP hw hK hc i pins s σ H E I hf st hg
    subst hP hw hK
    obtain ⟨f0, f1, f2, f3, f4, f5⟩ := hf it (by simp)
    have hx : z.cps[i]? = some z.cps[i] := Array.getElem?_eq_getElem hg
    refine wpAny_pyNext_wide_item st hx fun h' st' sb => ?_
    have I1 : Inv X pins σ H { s with heap := h', toks := s.toks + 1 } := I.turned (fun b o hb e => (sb.2 b hb).trans e) f0 f1 f3 f4 f5
    obtain ⟨o, e, c, d⟩ := id st'
    exact ⟨_, rfl, go_of (s := { s with heap := h', toks := s.toks + 1 }) e c d (by decide) ⟨.str ⟨#[z.cps[i]]⟩, H, I1, ⟨_, rfl⟩, ⟨rfl, _, hx, rfl⟩, st', fun b hb => (hf b hb).1⟩⟩
  done := by
    intro X hP hw hK hc i pins s σ H E I hf st hg
    subst hP hw hK
    obtain ⟨f0, f1, f2, f3, f4, f5⟩ := hf it (by simp)
    exact wpAny_pyNext_wide_end (I.ok.hd hc) st (Array.getElem?_eq_none hg) fun h' eb => ⟨rfl, I.turned (t' := s.toks) (fun b o hb e => eb b o hb e) f0 f1 f3 f4 f5⟩
  self := fun _ _ _ _ _ st h => wpAny_pyIter_striter_wide st h
section
variable {X : Cx} {tg : Expr}
def iStr (tl : TE) : TI := fun σ H R => tl σ H fun x H1 => ∃ z, x = .str z ∧ R (Its z) H1
theorem pi_str {l : Expr} {tl : TE} (hl : PE X l tl) : PI X tg l (iStr tl) := by
  intro pins s σ H R I h
  refine thn (hl pins s σ H _ I h) fun v s1 ⟨x, H1, I1, r1, q1⟩ => ?_
  obtain ⟨z, e, q⟩ := q1
  subst e
  obtain ⟨t, rfl⟩ := r1
  have fp : ∀ b ∈ [s1.heap.objs.size], FpOk X pins H1 b := fun b hb => by
    have e : b = s1.heap.objs.size := by simpa using hb
    subst e
    exact I1.fpOk (Nat.le_refl _) (I1.hok.fresh (Nat.le_refl _))
  cases ha : z.cps.all (· < 128)
  · refine wpAny_pyIter_wide ha ?_
    exact ⟨s1.heap.objs.size, [s1.heap.objs.size], _, _, H1, rfl, I1.kept (t' := s1.toks) fun b o e => Heap.get?_push_of_some _ e, turn_wide _ z t, ⟨_, Heap.get?_push_size _ rfl, rfl, rfl⟩, fp, q⟩
  · refine wpAny_pyIter_ascii ha ?_
    exact ⟨s1.heap.objs.size, [s1.heap.objs.size], _, _, H1, rfl, I1.kept (t' := s1.toks) fun b o e => Heap.get?_push_of_some _ e, turn_ascii _ z t, ⟨_, Heap.get?_push_size _ rfl, rfl, rfl⟩, fp, q⟩
end
theorem for_str {z : Str} {g : TG} {tb : TS} {D : Ends} {σ : St} {H : Hp} (Pv : Nat → St → Hp → Prop) (h0 : Pv 0 σ H)
    (hs : ∀ i c σ H, z.cps[i]? = some c → Pv i σ H → g (.str ⟨#[c]⟩) σ H fun σ2 H2 => tb { D with nx := Pv (i + 1), ct := Pv (i + 1), bk := D.nx } σ2 H2) (hd : ∀ σ H, Pv z.cps.size σ H → D.nx σ H) :
    ∃ W : Nat → Nat → St → Hp → Prop, (∃ m, W 0 m σ H) ∧ ∀ i m σ H, W i m σ H →
      ((Its z).stop i H ∧ D.nx σ H) ∨ ((Its z).go i H ∧ ∃ N : St → Hp → Prop, (∀ σ' H', N σ' H' → ∃ m', m' < m ∧ W (i + 1) m' σ' H') ∧ ∀ x H', (Its z).yld i H x H' → g x σ H' fun σ2 H2 => tb { D with nx := N, ct := N, bk := D.nx } σ2 H2) := by
  refine ⟨fun i m σ H => m = z.cps.size - i ∧ i ≤ z.cps.size ∧ Pv i σ H, ⟨z.cps.size, by simp, Nat.zero_le _, h0⟩, ?_⟩
  rintro i m σ H ⟨rfl, hi, p⟩
  by_cases hlt : i < z.cps.size
  · refine .inr ⟨hlt, Pv (i + 1), fun σ' H' p' => ⟨z.cps.size - (i + 1), by omega, rfl, hlt, p'⟩, fun x H' y => ?_⟩
    obtain ⟨e, c, hc, e2⟩ := y
    subst e e2
    exact hs i c σ _ hc p
  · have e : i = z.cps.size := by omega
    subst e
    exact .inl ⟨Nat.le_refl _, hd σ H p⟩
theorem take_next {z : Str} {i c : Nat} (h : z.cps[i]? = some c) : z.cps.toList.take (i + 1) = z.cps.toList.take i ++ [c] := by
  have h' : z.cps.toList[i]? = some c := by simpa using h
  rw [List.take_add_one, h']
  rfl

/-! ### arguments without a star, told by their form -/
def plainE : Expr → Bool
  | .Starred .. => false
  | _ => true
theorem star_cons {e : Expr} {es : List Expr} {env : Env} (h : plainE e = true) : starEach (e :: es) env = (false, eval e env) :: starEach es env := by
  cases e <;> first | rfl | (exact absurd h Bool.false_ne_true)
theorem star_firsts {env : Env} : ∀ {es : List Expr}, es.all plainE = true → starEach es env = es.map fun e => (false, eval e env)
  | [], _ => rfl
  | e :: es, h => by
    rw [List.all_cons, Bool.and_eq_true] at h
    rw [star_cons h.1, star_firsts h.2, List.map_cons]
theorem star_none {es : List Expr} {env : Env} {pos : Pos} (h : es.all plainE = true) : (backTo pos (starEach es env)).any (·.1) = false := by
  rw [star_firsts h]
  unfold backTo
  rw [List.map_map, List.any_eq_false]
  intro p hp
  obtain ⟨e, _, rfl⟩ := List.mem_map.mp hp
  exact Bool.false_ne_true
theorem star_all {es : List Expr} {env : Env} {pos : Pos} (h : es.all plainE = true) : (backTo pos (starEach es env)).all (fun x => !x.1) = true := by
  rw [star_firsts h]
  unfold backTo
  rw [List.map_map, List.all_eq_true]
  intro p hp
  obtain ⟨e, _, rfl⟩ := List.mem_map.mp hp
  rfl
section
variable {X : Cx} {x : Str} {p pos : Pos} {e : Expr} {es : List Expr} {te : TE} {t : TA} {id T : String} {r : List V → Hp → VK → Prop}
theorem pac (ha : PE X e te) (hr : PA X es t) (hs : plainE e = true := by rfl) : PA X (e :: es) (tCons te t) := pa_cons ha hr (star_cons hs)
theorem all2 {e : Expr} {es : List Expr} (h : (e :: es).all plainE = true) : plainE e = true ∧ es.all plainE = true := by
  rw [List.all_cons, Bool.and_eq_true] at h
  exact h
theorem pcb (hc : CallR X (.builtin id) r) (hg : Gl X x) (hm : X.mg x = none) (hv : bootBuiltins x = some (.builtin id)) (ha : PA X (e :: es) t) (hp : (e :: es).all plainE = true := by rfl) (hn : x ≠ "__name__" := by decide) (hdb : (x == ("__debug__" : Str)) = false := by decide) :
    PE X (.Call (.Name x p) (e :: es) [] pos) (tCB r t) := pe_callB hc hg hm hv ha hn hdb (star_cons (all2 hp).1) (star_none (all2 hp).2)
theorem pct (hc : CallR X (.type T) r) (hg : Gl X x) (hm : X.mg x = none) (hv : bootBuiltins x = some (.type T)) (ha : PA X (e :: es) t) (hp : (e :: es).all plainE = true := by rfl) (hn : x ≠ "__name__" := by decide) (hdb : (x == ("__debug__" : Str)) = false := by decide) :
    PE X (.Call (.Name x p) (e :: es) [] pos) (tCB r t) := pe_callTy hc hg hm hv ha hn hdb (star_cons (all2 hp).1) (star_none (all2 hp).2)
theorem pbm {o : Expr} {to : TE} {name : Str} {apos cpos : Pos} {r : V → List V → Hp → VK → Prop} (pa : PlainAttrs T) (slot : Slot T name id) (hty : typeOf (.builtin id) = pure (.type "method_descriptor")) (hm : MtR X id r) (ho : PE X o to) (ha : PA X (e :: es) t)
    (hp : (e :: es).all plainE = true := by rfl) (hfew : decide ((e :: es).length < 30) = true := by rfl) (hbase : attributeBase o name X.env (eval o X.env) = eval o X.env := by rfl) (hline : (apos.endLine == cpos.line) = true := by rfl) :
    PE X (.Call (.Attribute o name apos) (e :: es) [] cpos) (tBM X.K T r to t) := by
  refine pe_bm pa slot hty hm ho ha hbase ?_ hline (star_cons (all2 hp).1) (star_none (all2 hp).2)
  rw [star_all hp]
  exact hfew
theorem prng1 {tg a : Expr} {ta : TA} (hg : Gl X "range") (hm : X.mg "range" = none) (ha : PA X [a] ta) (hp : plainE a = true := by rfl) : PI X tg (.Call (.Name "range" p) [a] [] pos) (iRng1 ta) := pi_range1 hg hm ha (star_cons hp)
theorem prng2 {tg a b : Expr} {ta : TA} (hg : Gl X "range") (hm : X.mg "range" = none) (ha : PA X [a, b] ta) (hp : plainE a = true := by rfl) (hp2 : plainE b = true := by rfl) : PI X tg (.Call (.Name "range" p) [a, b] [] pos) (iRng2 ta) :=
  pi_range2 hg hm ha (by rw [star_cons hp, star_cons hp2]; rfl) (star_cons hp2)
end

/-! ### own defs that are called: no exception leaves them -/
inductive Cal (P : Program) (w : World) (K : PySem.W.Frag) (mg : Str → Option Value) (base : Heap) (k : Nat) (x : Str) (ps : List Str) (sp : Sp) : Prop where
  | mk {f : Addr} {fd : FuncData} (F : FnOk P w K mg base CX0 k f fd ps sp) (hm : mg x = some (.ref f)) (hk : PySem.W.keepIn K (.ref f) = true) (hb : Binds K fd ps [])
section
variable {X : Cx} {k : Nat} {ps : List Str} {sp : Sp} {x : Str} {p pos : Pos} {e : Expr} {es : List Expr} {t : TA}
theorem pe_cal (C : Cal X.prog X.w X.K X.mg X.base k x ps sp) (hr : Room k X.A) (hg : Gl X x) (ha : PA X (e :: es) t) (hp : (e :: es).all plainE = true := by rfl) (hdb : (x == ("__debug__" : Str)) = false := by decide) : PE X (.Call (.Name x p) (e :: es) [] pos) (tCall sp [] E0 t) := by
  cases C with
  | mk F hm hk hb => exact pe_call F hr hg hm hk hb .nil pass0 ha hdb (star_cons (all2 hp).1) (star_none (all2 hp).2)
theorem pe_cal0 (C : Cal X.prog X.w X.K X.mg X.base k x ps sp) (hr : Room k X.A) (hg : Gl X x) (hdb : (x == ("__debug__" : Str)) = false := by decide) : PE X (.Call (.Name x p) [] [] pos) (tCall sp [] E0 tNil) := by
  cases C with
  | mk F hm hk hb => exact pe_call0 F hr hg hm hk hb .nil pass0 hdb
end

/-! ### isinstance -/
section
variable {X : Cx}
theorem call_isinst : CallR X (.builtin "isinstance") (fun xs H Q => ∃ x c t b, xs = [x, .ty c] ∧ TyOf X.K H x t ∧ PySem.W.kitOne X.K t (.type c) = some b ∧ Q (.bl b) H) := by
  intro pins s σ H xs us Q I r h
  obtain ⟨x, c, t, b, rfl, ty, e, q⟩ := h
  obtain ⟨u, v, rfl, ru, rv⟩ := vals2 r
  cases (show v = Value.type c from rv)
  exact isinst_ok I ru ty e fun tk => ⟨.bl b, H, I.tok tk, rfl, q⟩
end
theorem kit_same {K : PySem.W.Frag} {T : String} : PySem.W.kitOne K (.type T) (.type T) = some true := by
  unfold PySem.W.kitOne
  rw [if_pos (by simp)]
theorem is_str_str {K : PySem.W.Frag} : PySem.W.kitOne K (.type "str") (.type "str") = some true := kit_same
theorem is_bool_bool {K : PySem.W.Frag} : PySem.W.kitOne K (.type "bool") (.type "bool") = some true := kit_same
theorem is_int_int {K : PySem.W.Frag} : PySem.W.kitOne K (.type "int") (.type "int") = some true := kit_same
theorem is_list_list {K : PySem.W.Frag} : PySem.W.kitOne K (.type "list") (.type "list") = some true := kit_same
theorem is_tuple_tuple {K : PySem.W.Frag} : PySem.W.kitOne K (.type "tuple") (.type "tuple") = some true := kit_same
theorem no_str_none {K : PySem.W.Frag} : PySem.W.kitOne K (.type "NoneType") (.type "str") = some false := by with_unfolding_all rfl
theorem no_str_bool {K : PySem.W.Frag} : PySem.W.kitOne K (.type "bool") (.type "str") = some false := by with_unfolding_all rfl
theorem no_str_int {K : PySem.W.Frag} : PySem.W.kitOne K (.type "int") (.type "str") = some false := by with_unfolding_all rfl
theorem no_str_list {K : PySem.W.Frag} : PySem.W.kitOne K (.type "list") (.type "str") = some false := by with_unfolding_all rfl
theorem no_str_tuple {K : PySem.W.Frag} : PySem.W.kitOne K (.type "tuple") (.type "str") = some false := by with_unfolding_all rfl

/-! ### all -/
theorem range_all (bs : List Bool) : (List.range bs.length).all (fun i => bs.getD i true) = bs.all id := by
  have e : (List.range bs.length).map (fun i => bs.getD i true) = bs := by
    apply List.ext_getElem
    · simp
    · intro i h1 h2
      simp [List.getD_eq_getElem?_getD, h2]
  calc (List.range bs.length).all (fun i => bs.getD i true) = ((List.range bs.length).map (fun i => bs.getD i true)).all id := by rw [List.all_map]; rfl
    _ = bs.all id := by rw [e]
theorem range_any (bs : List Bool) : (List.range bs.length).any (fun i => bs.getD i true) = bs.any id := by
  have e : (List.range bs.length).map (fun i => bs.getD i true) = bs := by
    apply List.ext_getElem
    · simp
    · intro i h1 h2
      simp [List.getD_eq_getElem?_getD, h2]
  calc (List.range bs.length).any (fun i => bs.getD i true) = ((List.range bs.length).map (fun i => bs.getD i true)).any id := by rw [List.any_map]; rfl
    _ = bs.any id := by rw [e]
section
variable {X : Cx}
theorem bools_truth {A : Around} {bs : List Bool} {its : List Value} (r : Vals (bs.map V.bl) its) : TruthOf X.prog X.w A (fun i v => its.toArray[i]? = some v) (fun i => bs.getD i true) := by
  intro i v s Q E hv q
  have hv' : its[i]? = some v := by simpa using hv
  have hl := r.length
  rw [List.length_map] at hl
  have hi : i < bs.length := by
    rw [hl]
    exact (List.getElem?_eq_some_iff.mp hv').1
  have e : (bs.map V.bl)[i]? = some (.bl bs[i]) := by rw [List.getElem?_map, List.getElem?_eq_getElem hi]; rfl
  obtain ⟨u, hu, ru⟩ := r.get e
  rw [hv'] at hu
  cases hu
  cases (show v = Value.bool bs[i] from ru)
  refine wpAny_truthy_bool ?_
  have e2 : bs.getD i true = bs[i] := by simp [List.getD_eq_getElem?_getD, hi]
  have q' : Q (bs.getD i true) s := q
  rw [e2] at q'
  exact q'
theorem call_allB (hc : X.calm = true) : CallR X (.builtin "all") (fun xs H Q => ∃ (p : Addr) (bs : List Bool), xs = [.ref p] ∧ SqL X.K H p (bs.map V.bl) ∧ Q (.bl (bs.all id)) H) := by
  intro pins s σ H xs us Q I r h
  obtain ⟨p, bs, rfl, hq, q⟩ := h
  obtain ⟨u, rfl, rx⟩ := vals1 r
  cases rx
  obtain ⟨its, rv, pl, hz⟩ := I.list hq
  have hlt : p < s.heap.objs.size := by
    obtain ⟨_, _, e, _⟩ := pl
    exact Heap.lt_size e
  have hl := rv.length
  rw [List.length_map] at hl
  have hA : X.A.in1.handled = none := I.ok.hd hc
  refine call_all_walk (wpAny_pyIter_list pl.isList ?_)
  refine ⟨s.heap.objs.size, _, _, its.toArray.size, _, _, fun i => bs.getD i true, rfl, Walks.list hA s.heap.objs.size p (Nat.ne_of_lt hlt) its.toArray, ⟨⟨_, Heap.get?_push_size _ rfl, rfl, rfl⟩, pl.isList.push _⟩, bools_truth rv, fun h' tk kp => ?_⟩
  refine ⟨.bl (bs.all id), H, I.kept (t' := tk) (fun b o e => kp b o (fun z => ?_) (Heap.get?_push_of_some _ e)), ?_, q⟩
  · have e1 : b = s.heap.objs.size := by simpa using z
    exact absurd (e1 ▸ Heap.lt_size e) (Nat.lt_irrefl _)
  · rw [List.size_toArray, ← hl, range_all]
    rfl
theorem call_anyB (hc : X.calm = true) : CallR X (.builtin "any") (fun xs H Q => ∃ (p : Addr) (bs : List Bool), xs = [.ref p] ∧ SqL X.K H p (bs.map V.bl) ∧ Q (.bl (bs.any id)) H) := by
  intro pins s σ H xs us Q I r h
  obtain ⟨p, bs, rfl, hq, q⟩ := h
  obtain ⟨u, rfl, rx⟩ := vals1 r
  cases rx
  obtain ⟨its, rv, pl, hz⟩ := I.list hq
  have hlt : p < s.heap.objs.size := by
    obtain ⟨_, _, e, _⟩ := pl
    exact Heap.lt_size e
  have hl := rv.length
  rw [List.length_map] at hl
  have hA : X.A.in1.handled = none := I.ok.hd hc
  refine call_any_walk (wpAny_pyIter_list pl.isList ?_)
  refine ⟨s.heap.objs.size, _, _, its.toArray.size, _, _, fun i => bs.getD i true, rfl, Walks.list hA s.heap.objs.size p (Nat.ne_of_lt hlt) its.toArray, ⟨⟨_, Heap.get?_push_size _ rfl, rfl, rfl⟩, pl.isList.push _⟩, bools_truth rv, fun h' tk kp => ?_⟩
  refine ⟨.bl (bs.any id), H, I.kept (t' := tk) (fun b o e => kp b o (fun z => ?_) (Heap.get?_push_of_some _ e)), ?_, q⟩
  · have e1 : b = s.heap.objs.size := by simpa using z
    exact absurd (e1 ▸ Heap.lt_size e) (Nat.lt_irrefl _)
  · rw [List.size_toArray, ← hl, range_any]
    rfl

/-! ### texts: join, slices -/
theorem strs_of : ∀ {ys : List Str} {us : List Value}, Vals (ys.map V.str) us → ∃ l : List (Str × Tok), us = strValues l ∧ l.map (·.1) = ys
  | [], _, r => by
    cases r
    exact ⟨[], rfl, rfl⟩
  | y :: ys, _, r => by
    rw [List.map_cons] at r
    cases r with
    | cons r1 r2 =>
      obtain ⟨t, e⟩ := r1
      subst e
      obtain ⟨l, e1, e2⟩ := strs_of r2
      subst e1
      exact ⟨(y, t) :: l, rfl, by rw [List.map_cons, e2]⟩
/-- the texts with the one between -/
abbrev glue (sep : Str) (ys : List Str) : Str := Txt.join sep ys
theorem glue_len (sep : Str) (ys : List Str) : (glue sep ys).length ≤ (ys.map (·.length)).sum + ys.length * sep.length := by
  show (Builtin.Str.glued sep ys).length ≤ _
  rw [StrLaws.glued_eq_join]
  exact StrLaws.join_length_le sep ys
theorem sum_ones : ∀ (ys : List Str), (∀ y ∈ ys, y.length = 1) → (ys.map (·.length)).sum = ys.length
  | [], _ => rfl
  | y :: ys, h => by
    rw [List.map_cons, List.sum_cons, h y List.mem_cons_self, sum_ones ys fun z hz => h z (List.mem_cons_of_mem _ hz), List.length_cons]
    omega
theorem mt_join : MtM X "str.join" (fun x vs H Q => ∃ (sep : Str) (l : Addr) (ys : List Str), x = .str sep ∧ vs = [.ref l] ∧ SqL X.K H l (ys.map V.str) ∧ (ys.map (·.length)).sum + ys.length * sep.length ≤ 16777216 ∧ Q (.str (glue sep ys)) H) := by
  intro pins s σ H x vs v us Q I rx rv h
  obtain ⟨sep, l, ys, rfl, rfl, hq, hz, q⟩ := h
  obtain ⟨t, rfl⟩ := rx
  obtain ⟨u, rfl, ru⟩ := rv.one
  cases ru
  obtain ⟨its, r, pl, _⟩ := I.list hq
  obtain ⟨ts, e1, e2⟩ := strs_of r
  subst e1
  refine SC.join pl.isList e2 ?_ fun t' k => ⟨.str (glue sep ys), H, I.tok k, ⟨t', rfl⟩, q⟩
  unfold JoinOk
  rw [StrLaws.joinTotal]
  have : Builtin.Str.tooLong ((ys.map (·.length)).sum + ys.length * sep.length) = false := by
    unfold Builtin.Str.tooLong
    rw [sizeLine_eq]
    exact decide_eq_false (by omega)
  rw [this]
  rfl
theorem part_of {v : Value} {o : Option Int} (p : IsPart v o) : ∃ l : Option (Int × Tok), v = partValue l ∧ l.map (·.1) = o := by
  cases p with
  | none => exact ⟨none, rfl, rfl⟩
  | int i t => exact ⟨some (i, t), rfl, rfl⟩
theorem sl_str : SlR X (fun x lo hi H Q => ∃ z, x = .str z ∧ z.length ≤ sizeLine ∧ Q (.str (Txt.slice z lo hi)) H) := by
  intro pins s σ H x v vl vu lo hi sl Q I rx hs pl pu h
  obtain ⟨z, rfl, hz, q⟩ := h
  obtain ⟨t, rfl⟩ := rx
  obtain ⟨l, e1, e2⟩ := part_of pl
  obtain ⟨u, e3, e4⟩ := part_of pu
  subst e1 e2 e3 e4
  refine ⟨"str", _, F.slot_str_getitem.lookup, typeIs_str _ _ _, ?_⟩
  refine wpAny_getItem_str_slice (l := l) (u := u) (st := none) hs rfl ?_
  exact post_val_or_str ⟨Nat.le_trans (Txt.slice_le z _ _) hz, fun t' k => ⟨.str (Txt.slice z (l.map (·.1)) (u.map (·.1))), H, I.tok k, ⟨t', rfl⟩, q⟩⟩
theorem op_isB : OpR X (compareOp .Is) (fun x y H Q => ∃ a b, x = .bl a ∧ y = .bl b ∧ Q (.bl (decide (a = b))) H) := by
  intro pins s σ H x y v u Q I rx ry h
  obtain ⟨a, b, rfl, rfl, q⟩ := h
  cases (show v = Value.bool a from rx)
  cases (show u = Value.bool b from ry)
  refine is_bool ⟨.bl (decide (a = b)), H, I, ?_, q⟩
  rw [Bool.beq_eq_decide_eq]
  rfl
end
end L2

namespace HT
open PySem PyProof.Rows
section
variable {prog : Program} {w : World} {A : Around} {E : Value → Shared → Prop} {s : Shared}
/-- the whole of a tuple is the tuple itself -/
theorem getItem_tuple_whole {t sl : Addr} {items : Array Value} {vl vu : Value} {lo hi : Option Int} {Q : Value → Shared → Prop} (ht : IsTup s.heap t items) (hs : s.heap.IsSliceOf sl vl vu .none) (pl : IsPart vl lo) (pu : IsPart vu hi)
    (hw : sIx items.size 0 lo = 0 ∧ sIx items.size items.size hi = items.size) (h : Q (.ref t) s) : wpAny (model prog w) A (getItem (.ref t) (.ref sl)) Q E s := by
  obtain ⟨os, hos, hcs, hds⟩ := id hs
  have hTs : s.TypeIs (.ref sl) "slice" := ⟨os, hos, hcs⟩
  unfold getItem
  try with_reducible refine wpAny_holding ?_
  first | refine wpAny_bind (wpAny_pure ?_) | skip
  refine wpAny_bind (wpAny_sequenceKey ht.typeIs (by decide) ?_)
  refine wpAny_bind (wpAny_callSpecial?_slot (name := Str.ofString "__getitem__") ht.typeIs PyProof.Rows.slot_tuple_getitem
    (wpAny_call_entry PyProof.Rows.slot_tuple_getitem ht.typeIs entry_tuple_getitem ?_ (args_tuple_getitem _ _)))
  show wpAny _ _ (Builtin.Tuple.tupleItemsOf (.ref t) >>= _) _ _ s
  refine wpAny_bind (tupleItemsOf_ ht ?_)
  refine wpAny_bind (wpAny_typeOf hTs ?_)
  rw [if_pos (by decide)]
  refine wpAny_bind (sliceApplied_gen hs pl pu ?_)
  have hyes : (((sIx items.size 0 lo : Nat) : Int) == 0 && (1 : Int) == 1 && (sIx items.size items.size hi - sIx items.size 0 lo) == items.size) = true := by
    rw [hw.1, hw.2]
    simp
  show wpAny _ _ (if (((sIx items.size 0 lo : Nat) : Int) == 0 && (1 : Int) == 1 && (sIx items.size items.size hi - sIx items.size 0 lo) == items.size) = true then _ else _) _ _ s
  rw [if_pos hyes]
  refine wpAny_bind (m := Builtin.Tuple.tupleIsExact _) ?_
  unfold Builtin.Tuple.tupleIsExact
  refine wpAny_bind (wpAny_typeOf ht.typeIs (wpAny_pure ?_))
  rw [if_pos (by decide)]
  exact wpAny_bind (wpAny_rule (wpAny_pure ⟨_, rfl, wpAny_pure h⟩))
end
end HT

namespace L2
open PySem PySem.Spec PyProof.Rows
section
variable {X : Cx}
/-! ### slices and sums of tuples, whatever comes back is a tuple with these items -/
theorem cutV_whole {xs : List V} {lo hi : Option Int} (h1 : HT.sIx xs.length 0 lo = 0) (h2 : HT.sIx xs.length xs.length hi = xs.length) : cutV xs lo hi = xs := by
  unfold cutV
  rw [h1, h2, List.drop_zero, Nat.sub_zero, List.take_length]
theorem sl_tupA : SlR X (fun x lo hi H Q => ∃ a xs, x = .ref a ∧ H a = some (.tup xs) ∧ ∀ c H', Same H H' → H' c = some (.tup (cutV xs lo hi)) → Q (.ref c) H') := by
  intro pins s σ H x v vl vu lo hi sl Q I rx hs pl pu h
  obtain ⟨a, xs, rfl, hx, q⟩ := h
  by_cases hw : HT.sIx xs.length 0 lo = 0 ∧ HT.sIx xs.length xs.length hi = xs.length
  · cases rx
    obtain ⟨its, r, ht, hz⟩ := I.tuple (SqT.of hx)
    have hlen : its.toArray.size = xs.length := by rw [List.size_toArray]; exact r.length.symm
    refine ⟨"tuple", _, PyProof.Rows.slot_tuple_getitem.lookup, ht.typeIs, ?_⟩
    refine HT.getItem_tuple_whole ht hs pl pu (by rw [hlen]; exact hw) ⟨.ref a, H, I, rfl, q a H (Same.refl H) ?_⟩
    rw [cutV_whole hw.1 hw.2]
    exact hx
  · exact sl_tup pins s σ H (.ref a) v vl vu lo hi sl Q I rx hs pl pu ⟨a, xs, rfl, SqT.of hx, hw, fun p hp => q p _ (same_upd hp _) upd_same⟩
theorem op_catA : OpR X (binaryOp .Add) (fun x y H Q => ∃ a b xs ys, x = .ref a ∧ y = .ref b ∧ H a = some (.tup xs) ∧ H b = some (.tup ys) ∧ xs.length + ys.length ≤ sizeLine ∧ ∀ p H', Same H H' → H' p = some (.tup (xs ++ ys)) → Q (.ref p) H') := by
  intro pins s σ H x y v u Q I rx ry h
  obtain ⟨a, b, xs, ys, rfl, rfl, ha, hb, hz, q⟩ := h
  by_cases hx : xs = []
  · subst hx
    cases rx
    cases ry
    obtain ⟨its, r1, p1, _⟩ := I.tuple (SqT.of ha)
    obtain ⟨its2, r2, p2, _⟩ := I.tuple (SqT.of hb)
    obtain ⟨⟨cls, dd, data, sl⟩, ho, hc, n, hd⟩ := id p1
    obtain ⟨⟨cls2, dd2, data2, sl2⟩, ho2, hc2, n2, hd2⟩ := id p2
    simp only at hc hd hc2 hd2
    subst hc hd hc2 hd2
    have e1 : its = [] := r1.nil_iff.mpr rfl
    exact concat_meets ⟨_, ho, rfl⟩ ⟨_, ho2, rfl⟩ noFill_tuple_add seq_tuple_add PySem.F.slot_tuple_add PySem.F.entry_tuple_add (PySem.F.args_tuple_add_2 _ _)
      (tuple_addW0 a b its.toArray its2.toArray n n2 dd dd2 sl sl2 (by simp [e1])) ⟨ho, ho2, ⟨.ref b, H, I, rfl, q b H (Same.refl H) hb⟩⟩
  · refine op_catT pins s σ H (.ref a) (.ref b) v u Q I rx ry ⟨a, b, xs, ys, rfl, rfl, SqT.of ha, SqT.of hb, hx, hz, fun e => ?_, fun _ p hp => q p _ (same_upd hp _) upd_same⟩
    subst e
    refine q a H (Same.refl H) ?_
    rw [List.append_nil]
    exact ha

/-! ### == of tuples of texts -/
theorem eq_texts : ∀ (ws os : List Str), ((List.range (min ws.length os.length)).all (fun j => ws.getD j Str.empty == os.getD j Str.empty) && ws.length == os.length) = decide (ws = os) := by
  intro ws os
  by_cases h : ws = os
  · subst h
    rw [decide_eq_true rfl]
    simp
  · rw [decide_eq_false h, Bool.and_eq_false_iff]
    by_cases hl : ws.length = os.length
    · left
      rw [List.all_eq_false]
      have : ∃ j, j < ws.length ∧ ws.getD j Str.empty ≠ os.getD j Str.empty := by
        apply Classical.byContradiction
        intro hn
        apply h
        apply List.ext_getElem hl
        intro i h1 h2
        have := Classical.not_not.mp (fun z => hn ⟨i, h1, z⟩)
        simpa [List.getD_eq_getElem?_getD, h1, h2] using this
      obtain ⟨j, hj, ne⟩ := this
      refine ⟨j, ?_, ?_⟩
      · rw [List.mem_range]
        omega
      · simpa using ne
    · right
      simpa using hl
theorem vals_str_at {ws : List Str} {its : List Value} (r : Vals (ws.map V.str) its) {j : Nat} (h : j < its.toArray.size) : RelV (.str (ws.getD j Str.empty)) its.toArray[j] := by
  have hl := r.length
  rw [List.length_map] at hl
  have hj : j < ws.length := by
    rw [hl]
    simpa using h
  have e : (ws.map V.str)[j]? = some (.str ws[j]) := by rw [List.getElem?_map, List.getElem?_eq_getElem hj]; rfl
  obtain ⟨u, hu, ru⟩ := r.get e
  have e2 : ws.getD j Str.empty = ws[j] := by simp [List.getD_eq_getElem?_getD, hj]
  have e3 : its.toArray[j] = u := by
    have : its[j]? = some its.toArray[j] := by simp
    rw [hu] at this
    exact (Option.some.inj this).symm
  rw [e2, e3]
  exact ru
def rEqT (K : PySem.W.Frag) (g : Bool → Bool) : R2 := fun x y H Q => ∃ (a b : Addr) (ws os : List Str), x = .ref a ∧ y = .ref b ∧ SqT K H a (ws.map V.str) ∧ SqT K H b (os.map V.str) ∧ Q (.bl (g (decide (ws = os)))) H
theorem op_eqT (hu : X.A.units < cLine) : OpR X (compareOp .Eq) (fun x y H Q => ∃ (a b : Addr) (ws os : List Str), x = .ref a ∧ y = .ref b ∧ SqT X.K H a (ws.map V.str) ∧ SqT X.K H b (os.map V.str) ∧ Q (.bl (decide (ws = os))) H) := by
  intro pins s σ H x y v u Q I rx ry h
  obtain ⟨a, b, ws, os, rfl, rfl, ha, hb, q⟩ := h
  cases rx
  cases ry
  obtain ⟨its, r1, p1, _⟩ := I.tuple ha
  obtain ⟨its2, r2, p2, _⟩ := I.tuple hb
  have hl1 := r1.length
  have hl2 := r2.length
  rw [List.length_map] at hl1 hl2
  refine SeqAt.eq_tupleAt (e := fun j => ws.getD j Str.empty == os.getD j Str.empty) (show s.heap.IsTuple a its.toArray from p1) (show s.heap.IsTuple b its2.toArray from p2) hu (fun j h1 h2 => ?_) ⟨.bl (decide (ws = os)), H, I, ?_, q⟩
  · exact eqAt_V (vals_str_at r1 h1) (vals_str_at r2 h2) rfl rfl
  · rw [List.size_toArray, List.size_toArray, ← hl1, ← hl2, eq_texts]
    rfl
end

/-! ### comprehensions -/
theorem lookup_relabel_any {env : Env} {x : Str} {k : NameKind} : ∀ {names : List (Str × NameKind)},
    (names.map fun (n, k) => if (k == NameKind.free && env.scope.kind == .function && env.kindOf n == some .cell) then (n, NameKind.cell) else (n, k)).lookup x = some k → names.lookup x = some k ∨ (names.lookup x = some .free ∧ k = .cell)
  | [], h => by simp at h
  | (n, k0) :: r, h => by
    have ih := @lookup_relabel_any env x k r
    rw [List.map_cons] at h
    have h : List.lookup x ((if (k0 == NameKind.free && env.scope.kind == .function && env.kindOf n == some .cell) = true then (n, NameKind.cell) else (n, k0)) :: _) = some k := h
    by_cases hc : (k0 == NameKind.free && env.scope.kind == .function && env.kindOf n == some .cell) = true
    · rw [if_pos hc, List.lookup_cons] at h
      rw [List.lookup_cons]
      cases hx : x == n with
      | true =>
        rw [hx] at h
        have e : NameKind.cell = k := Option.some.inj h
        subst e
        have e0 : k0 = .free := by
          rw [Bool.and_eq_true, Bool.and_eq_true] at hc
          exact eq_of_beq hc.1.1
        subst e0
        exact .inr ⟨rfl, rfl⟩
      | false =>
        rw [hx] at h
        exact ih h
    · rw [if_neg hc, List.lookup_cons] at h
      rw [List.lookup_cons]
      cases hx : x == n with
      | true =>
        rw [hx] at h
        exact .inl h
      | false =>
        rw [hx] at h
        exact ih h
theorem lookup_relabel {csc : Scope} {env : Env} {x : Str} {k : NameKind} (h : (relabel csc env).names.lookup x = some k) : csc.names.lookup x = some k ∨ (csc.names.lookup x = some .free ∧ k = .cell) := lookup_relabel_any h
theorem closure_of {csc : Scope} {env : Env} (h : ∀ y ∈ csc.names, y.2 = .free → ∃ c, env.cells.lookup y.1 = some c) :
    ∃ cl, closureFor csc env = pure cl ∧ (∀ x c, cl.lookup x = some c → env.cells.lookup x = some c) ∧ ∀ y ∈ csc.names, y.2 = .free → ∃ c, cl.lookup y.1 = some c := by
  have key : ∀ (body : Str × NameKind → List (Str × Addr) → Sem (ForInStep (List (Str × Addr)))),
      (∀ n k acc, body (n, k) acc = if (k == .free) = true then (cellOf env n >>= fun c => pure (ForInStep.yield ((n, c) :: acc))) else pure (ForInStep.yield acc)) →
      ∀ (l : List (Str × NameKind)) (acc : List (Str × Addr)), (∀ y ∈ l, y.2 = .free → ∃ c, env.cells.lookup y.1 = some c) → (∀ x c, acc.lookup x = some c → env.cells.lookup x = some c) →
      ∃ cl, (forIn l acc body : Sem (List (Str × Addr))) = pure cl ∧ (∀ x c, cl.lookup x = some c → env.cells.lookup x = some c) ∧ (∀ y ∈ l, y.2 = .free → ∃ c, cl.lookup y.1 = some c) ∧ ∀ x c, acc.lookup x = some c → ∃ c', cl.lookup x = some c' := by
    intro body hb l
    induction l with
    | nil =>
      intro acc _ ha
      exact ⟨acc, rfl, ha, fun y hy => (nomatch hy), fun x c e => ⟨c, e⟩⟩
    | cons p r ih =>
      intro acc hl ha
      obtain ⟨n, k⟩ := p
      have hr : ∀ y ∈ r, y.2 = .free → ∃ c, env.cells.lookup y.1 = some c := fun y hy => hl y (List.mem_cons_of_mem _ hy)
      by_cases hk : k = .free
      · subst hk
        obtain ⟨c, hc⟩ := hl (n, .free) List.mem_cons_self rfl
        have ha' : ∀ x d, ((n, c) :: acc).lookup x = some d → env.cells.lookup x = some d := fun x d e => by
          rw [List.lookup_cons] at e
          cases hx : x == n with
          | true =>
            rw [hx] at e
            have e1 : c = d := Option.some.inj e
            subst e1
            rw [eq_of_beq hx]
            exact hc
          | false =>
            rw [hx] at e
            exact ha x d e
        obtain ⟨cl, e1, e2, e3, e4⟩ := ih ((n, c) :: acc) hr ha'
        refine ⟨cl, ?_, e2, fun y hy hf => ?_, fun x d e => ?_⟩
        · rw [List.forIn_cons, hb, if_pos (by rfl)]
          have ec : cellOf env n = pure c := by
            unfold cellOf
            rw [hc]
          rw [ec]
          exact e1
        · rcases List.mem_cons.mp hy with e | hy
          · subst e
            exact e4 n c (by rw [List.lookup_cons, beq_self_eq_true])
          · exact e3 y hy hf
        · cases hx : x == n with
          | true => exact e4 x c (by rw [List.lookup_cons, hx])
          | false => exact e4 x d (by rw [List.lookup_cons, hx]; exact e)
      · obtain ⟨cl, e1, e2, e3, e4⟩ := ih acc hr ha
        refine ⟨cl, ?_, e2, fun y hy hf => ?_, e4⟩
        · have hk' : (k == NameKind.free) = false := by simpa using hk
          rw [List.forIn_cons, hb, hk', if_neg Bool.false_ne_true]
          exact e1
        · rcases List.mem_cons.mp hy with e | hy
          · subst e
            exact absurd hf hk
          · exact e3 y hy hf
  obtain ⟨cl, e1, e2, e3, _⟩ := key (fun p acc => if (p.2 == .free) = true then (cellOf env p.1 >>= fun c => pure (ForInStep.yield ((p.1, c) :: acc))) else pure (ForInStep.yield acc)) (fun n k acc => rfl) csc.names [] h (fun x c e => by simp at e)
  refine ⟨cl, ?_, e2, e3⟩
  have e4 : closureFor csc env = (forIn csc.names [] (fun p acc => if (p.2 == .free) = true then (cellOf env p.1 >>= fun c => pure (ForInStep.yield ((p.1, c) :: acc))) else pure (ForInStep.yield acc)) >>= fun cs => pure cs) := rfl
  rw [e4, e1]
  rfl

/-- a comprehension's names: NB are those of the def (one that the comprehension hides under another name), and then its own, M -/
structure CompScope (sc : Scope) (N NB M : List Str) (csc : Scope) : Prop where
  kind : csc.kind = .function
  nocell : ∀ y ∈ csc.names, y.2 ≠ .cell
  locs : ∀ y ∈ csc.names, y.2 = .local → csc.names.lookup y.1 = some .local
  free : ∀ y ∈ csc.names, y.2 = .free → sc.names.lookup y.1 = some .cell ∨ sc.names.lookup y.1 = some .free
  nd : NB.Nodup
  len : NB.length = N.length + M.length
  old : ∀ p ∈ N.zip NB, csc.names.lookup p.2 ≠ some .local ∧ (csc.names.lookup p.2 = none ∨ p.1 = p.2)
theorem CompScope.at {sc : Scope} {N NB M : List Str} {csc : Scope} (S : CompScope sc N NB M csc) {i : Nat} {x : Str} (e : NB[i]? = some x) (hi : i < N.length) : csc.names.lookup x ≠ some .local ∧ (csc.names.lookup x ≠ none → N[i]? = some x) := by
  have e1 : N[i]? = some N[i] := List.getElem?_eq_getElem hi
  have hm : (N[i], x) ∈ N.zip NB := by
    apply List.mem_of_getElem? (i := i)
    rw [List.getElem?_zip_eq_some]
    exact ⟨e1, e⟩
  obtain ⟨h1, h2⟩ := S.old _ hm
  refine ⟨h1, fun hn => ?_⟩
  rcases h2 with h2 | h2
  · exact absurd h2 hn
  · rw [e1]
    exact congrArg some h2

/-- the context of a comprehension's block -/
def cxC (X : Cx) (NB : List Str) (csc : Scope) (cl : List (Str × Addr)) (C : Addr) (s₀ : Shared) (H₀ : Hp) (fp : List Addr) (pn : List (Addr × Obj)) : Cx where
  prog := X.prog
  w := X.w
  K := X.K
  mg := X.mg
  base := X.base
  A := X.A
  N := NB
  s₀ := s₀
  H₀ := H₀
  env := compEnvC csc cl C X.env
  outer := X.stack
  stack := X.stack
  ex := fp
  fn := fun _ => false
  calm := X.calm
  pn := pn
  xe := fun _ _ => False

section
variable {X : Cx} {pins : List (Addr × Obj)} {σ : St} {H₀ : Hp} {s₀ : Shared} {NB M : List Str} {csc : Scope} {cl : List (Str × Addr)} {fp : List Addr}
theorem comp_start {h₁ : Heap} {tk : Nat} {m : Str → Option Value} (S : CompScope X.env.scope X.N NB M csc) (I : Inv X pins σ H₀ s₀) (hf : ∀ b ∈ fp, FpOk X pins H₀ b) (hlt : ∀ b ∈ fp, b < s₀.heap.objs.size)
    (c1 : ∀ x c, cl.lookup x = some c → X.env.cells.lookup x = some c) (c2 : ∀ y ∈ csc.names, y.2 = .free → ∃ c, cl.lookup y.1 = some c)
    (hn : h₁.Ns s₀.heap.objs.size m) (hk : ∀ b o, s₀.heap.get? b = some o → h₁.get? b = some o) :
    Inv (cxC X NB csc cl s₀.heap.objs.size s₀ H₀ fp (X.pn ++ pins)) [] (σ ++ List.replicate M.length none) H₀ { s₀ with heap := h₁, toks := tk } := by
  have kindB : ∀ x, ((relabel csc X.env).names.lookup x = some .cell ∨ (relabel csc X.env).names.lookup x = some .free) → csc.names.lookup x = some .free := fun x hx => by
    rcases hx with hx | hx
    · rcases lookup_relabel hx with z | ⟨z, _⟩
      · exact absurd rfl (S.nocell _ (PySem.mem_of_lookup z))
      · exact z
    · rcases lookup_relabel hx with z | ⟨z, _⟩
      · exact z
      · exact z
  have hasC : ∀ x, csc.names.lookup x = some .free → ∃ c, cl.lookup x = some c := fun x hx => c2 (x, .free) (PySem.mem_of_lookup hx) rfl
  refine ⟨⟨I.ok.mod, S.kind, I.ok.glob, I.ok.blt, Nat.le_refl _, fun x y c h1 h2 => I.ok.inj x y c (c1 x c h1) (c1 y c h2), fun x hx => hasC x (kindB x hx), fun x c h _ => absurd h Bool.false_ne_true, I.ok.hd, I.ok.frames, .inl rfl,
      fun b hb => ⟨Nat.ne_of_lt (hlt b hb), fun x c e => (hf b hb).2.2.2.2.1 x c (c1 x c e)⟩, I.bs, Nat.le_trans I.ok.bsz I.sz, fun b o e hb => ?_, fun b hb z => ?_, I.stack, I.stkFree⟩,
    rfl, I.bare, Un.kept hk, ⟨m, hn, fun i x v e1 e2 e3 => ?_⟩, fun x c e => ?_, I.fresh, fun x c e => I.freeC x c (c1 x c e), fun p hp => ?_, I.hok.kept hk, ?_⟩
  · rcases (hf b hb).2.2.2.1 with z | z
    · exact I.ok.noex b o e z
    · exact absurd (Nat.lt_of_lt_of_le (Heap.lt_size e) (Nat.le_trans I.ok.bsz z)) (Nat.lt_irrefl _)
  · rcases List.mem_cons.mp (I.stkSub b z) with e | e
    · exact (hf b hb).2.1 e
    · exact (hf b hb).2.2.1 e
  · have hlen := I.len
    have hi : i < X.N.length := by
      apply Classical.byContradiction
      intro hi
      rw [List.getElem?_append_right (by omega), List.getElem?_replicate] at e2
      split at e2 <;> cases e2
    have e2' : σ[i]? = some (some v) := by
      rw [List.getElem?_append_left (by omega)] at e2
      exact e2
    obtain ⟨nl, hN⟩ := S.at e1 hi
    have hfree : csc.names.lookup x = some .free := by
      rcases e3 with z | z
      · rcases lookup_relabel (show (relabel csc X.env).names.lookup x = some .local from z) with q | ⟨_, q⟩
        · exact absurd q nl
        · cases q
      · exact kindB x z
    have hN' := hN (by rw [hfree]; intro z; cases z)
    have ok := S.free (x, .free) (PySem.mem_of_lookup hfree) rfl
    obtain ⟨m', hn', hl⟩ := I.loc
    obtain ⟨u, r, l⟩ := hl i x v hN' e2' (.inr ok)
    rcases l with ⟨k, _⟩ | ⟨_, c, hc, hcell⟩
    · have k' : X.env.scope.names.lookup x = some .local := k
      rcases ok with z | z
      · rw [show X.env.scope.names.lookup x = some .cell from z] at k'
        cases k'
      · rw [show X.env.scope.names.lookup x = some .free from z] at k'
        cases k'
    · obtain ⟨c', hc'⟩ := hasC x hfree
      have ec : c' = c := by
        have := c1 x c' hc'
        rw [hc] at this
        exact (Option.some.inj this).symm
      subst ec
      obtain ⟨o, ho, hd⟩ := hcell
      refine ⟨u, r, .inr ⟨?_, c', hc', o, hk _ _ ho, hd⟩⟩
      rcases e3 with z | z
      · rcases lookup_relabel (show (relabel csc X.env).names.lookup x = some .local from z) with q | ⟨_, q⟩
        · exact absurd q nl
        · cases q
      · exact z
  · obtain ⟨v, o, ho, hd⟩ := I.cell x c (c1 x c e)
    exact ⟨v, o, hk _ _ ho, hd⟩
  · have hp' : p ∈ (X.pn ++ pins) ++ [] := hp
    rw [List.append_nil] at hp'
    obtain ⟨e, n, ne, nf, d⟩ := I.pin p hp'
    exact ⟨hk _ _ e, n, Nat.ne_of_lt (Heap.lt_size e), fun z => (List.mem_cons.mp (I.stkSub _ z)).elim ne nf, d⟩
  · rw [List.length_append, List.length_replicate, I.len]
    exact S.len.symm
theorem comp_end {τ : St} {H : Hp} {s : Shared} {pins' : List (Addr × Obj)} (I : Inv X pins σ H₀ s₀) (hf : ∀ b ∈ fp, FpOk X pins H₀ b) (B : Inv (cxC X NB csc cl s₀.heap.objs.size s₀ H₀ fp (X.pn ++ pins)) pins' τ H s) :
    Inv X pins σ H s ∧ FpOk X pins H s₀.heap.objs.size :=
  ⟨I.call' (ch := fp) B.os B.base B.hok B.bare fun b hb => ⟨(hf b hb).2.2.2.1, (hf b hb).2.1, (hf b hb).2.2.2.2.1, (hf b hb).2.2.2.2.2⟩, I.fpOk (Nat.le_refl _) B.free⟩
end

theorem codeAny_compLoop_own {prog : Program} {w : World} {A : Around} {R : Result → Shared → Prop} {s : Shared} {elt target iter : Expr} {ifs : List Expr} {scope : Scope} {pos : Pos} {it acc : Value} {env : Env} (I : Nat → Shared → Prop)
    (turn : ∀ n s, I n s → wpAny (model prog w) A (pyNext it) (fun r s₁ => match r with
      | none => R (.ok .next) s₁
      | some v => wpAny (model prog w) A (letOwnedTupleGo target it v) (fun _ s₁' => wpAny (model prog w) A (assign target env v) (fun _ s₂ =>
          wpAny (model prog w) A (forIn ifs true fun c r => if r = true then do let ok ← isTrue c env (eval c env); pure (ForInStep.yield ok) else pure (ForInStep.yield r)) (fun ok s₃ =>
            if ok = true then wpAny (model prog w) A (eval elt env) (fun x s₄ =>
              wpAny (model prog w) A (call (.builtin "list.append") [acc, x]) (fun _ s₅ => ∃ m, m < n ∧ I m s₅) (notedBy (model prog w) A env fun e s' => R (.error e) s') s₄) (notedBy (model prog w) A env fun e s' => R (.error e) s') s₃
            else ∃ m, m < n ∧ I m s₃) (notedBy (model prog w) A env fun e s' => R (.error e) s') s₂) (notedBy (model prog w) A env fun e s' => R (.error e) s') s₁') (notedBy (model prog w) A env fun e s' => R (.error e) s') s₁)
        (notedBy (model prog w) A env fun e s' => R (.error e) s') s)
    (n : Nat) (h : I n s) : codeAny (model prog w) A (.compLoop (.ListComp elt [⟨target, iter, ifs, 0⟩] scope pos) 0 it acc env) R s := by
  refine codeAny_loop rfl I (fun n s hI => ?_) n h
  show wpAny _ A ((compTurn (.ListComp elt [⟨target, iter, ifs, 0⟩] scope pos) 0 it acc env).onRaise (fun x => do noteFrame x env; theTreesLotGoes x)) _ _ s
  refine wpAny_noted ?_
  rw [compTurn_list]
  refine wpAny_bind (wpAny_standAt (wpAny_bind (wpAny_mono (turn n s hI) (fun r s₁ h₁ => ?_) fun _ _ h' => h')))
  cases r with
  | none => exact wpAny_pure h₁
  | some v =>
    refine wpAny_bind (wpAny_mono h₁ (fun _ s₁' h₁' => ?_) fun _ _ h' => h')
    refine wpAny_bind (wpAny_mono h₁' (fun _ s₂ h₂ => wpAny_bind (wpAny_mono h₂ (fun ok s₃ h₃ => ?_) fun _ _ h' => h')) fun _ _ h' => h')
    cases ok with
    | false => exact wpAny_pure ⟨rfl, h₃⟩
    | true =>
      exact wpAny_bind (wpAny_bind (wpAny_mono h₃ (fun x s₄ h₄ => wpAny_bind (wpAny_mono h₄ (fun _ s₅ h₅ => wpAny_pure (wpAny_pure ⟨rfl, h₅⟩)) fun _ _ h' => h')) fun _ _ h' => h'))

/-- the tests of a comprehension: what is wanted where they hold, and where not -/
abbrev TF := St → Hp → (Hp → Prop) → (Hp → Prop) → Prop
def PF (X : Cx) (ifs : List Expr) (t : TF) : Prop :=
  ∀ (pins : List (Addr × Obj)) (s : Shared) (σ : St) (H : Hp) (Y N : Hp → Prop), Inv X pins σ H s → t σ H Y N →
    wpAny (model X.prog X.w) X.A (forIn ifs true fun c r => if r = true then do let ok ← isTrue c X.env (eval c X.env); pure (ForInStep.yield ok) else pure (ForInStep.yield r)) (fun b s' => ∃ H', Inv X pins σ H' s' ∧ if b = true then Y H' else N H') X.xe s
def fNil : TF := fun _ H Y _ => Y H
def fOne (tc : TT) : TF := fun σ H Y N => tc σ H fun b H1 => if b = true then Y H1 else N H1
theorem pif_nil {X : Cx} : PF X [] fNil := fun _ _ _ H _ _ I h => wpAny_tests_nil ⟨H, I, iteT h⟩
theorem pif_one {X : Cx} {c : Expr} {tc : TT} (hc : PT X c tc) : PF X [c] (fOne tc) := fun pins s σ H _ _ I h =>
  wpAny_tests_one (thn (hc pins s σ H _ I h) fun _ _ ⟨H1, I1, q⟩ => ⟨H1, I1, q⟩)

/-- W: the invariant by the turn, a measure, the block's names, the list so far, the heap; p: the new list -/
def tComp (wi : TI) (g : TG) (ti : TF) (te : TE) (k : Nat) : TE := fun σ H Q => wi σ H fun J H1 => ∀ p, H1 p = none → ∃ W : Nat → Nat → St → List V → Hp → Prop, (∃ m, W 0 m (σ ++ List.replicate k none) [] (upd H1 p (.lst []))) ∧ ∀ i m τ xs H, W i m τ xs H →
  (J.stop i H ∧ Q (.ref p) H) ∨ (J.go i H ∧ ∀ x H', J.yld i H x H' → g x τ H' fun τ2 H2 => ti τ2 H2 (fun H3 => te τ2 H3 fun v H4 => H4 p = some (.lst xs) ∧ xs.length < sizeLine ∧ ∃ m', m' < m ∧ W (i + 1) m' τ2 (xs ++ [v]) (upd H4 p (.lst (xs ++ [v]))))
    (fun H3 => ∃ m', m' < m ∧ W (i + 1) m' τ2 xs H3))

/-- a comprehension, whatever is done with its list -/
def PCp (X : Cx) (e : Expr) (t : TE) : Prop := ∃ elt tg iter ifs csc pos, e = .ListComp elt [⟨tg, iter, ifs, 0⟩] csc pos ∧
  ∀ (ppos : Pos) (use : Option (Value → Sem Unit)) (R : Value → Shared → Prop) (pins : List (Addr × Obj)) (s : Shared) (σ : St) (H : Hp) (Q : VK), Inv X pins σ H s → t σ H Q →
    (∀ (D C : Addr) (s' : Shared) (H' : Hp), Inv X pins σ H' s' → FpOk X pins H' C → (∃ m, s'.heap.Ns C m) → Q (.ref D) H' → compPost (model X.prog X.w) X.A X.xe use R (.ref D) C (.ok .next) s') →
    wpAny (model X.prog X.w) X.A (comprehension (.ListComp elt [⟨tg, iter, ifs, 0⟩] csc pos) csc X.env ppos (newList []) false (eval iter X.env) use) R X.xe s

section
variable {X : Cx}
theorem pc_comp {tg iter elt : Expr} {ifs : List Expr} {csc : Scope} {pos : Pos} {NB M : List Str} {wi : TI} {g : TG} {ti : TF} {te : TE} (hi : PI X tg iter wi) (hc : X.calm = true) (S : CompScope X.env.scope X.N NB M csc)
    (hg : ∀ cl C s₀ H₀ fp pn, PG (cxC X NB csc cl C s₀ H₀ fp pn) tg g) (hf : ∀ cl C s₀ H₀ fp pn, PF (cxC X NB csc cl C s₀ H₀ fp pn) ifs ti) (he : ∀ cl C s₀ H₀ fp pn, PE (cxC X NB csc cl C s₀ H₀ fp pn) elt te)
    (hs : ∀ x, foldedSetIterable iter X.env x = pure x := by intro _; rfl) : PCp X (.ListComp elt [⟨tg, iter, ifs, 0⟩] csc pos) (tComp wi g ti te M.length) := by
  refine ⟨elt, tg, iter, ifs, csc, pos, rfl, fun ppos use R pins s σ H Q I h fin => ?_⟩
  have hcell : ∀ y ∈ csc.names, y.2 = .free → ∃ c, X.env.cells.lookup y.1 = some c := fun y hy hfr => I.ok.has y.1 (S.free y hy hfr)
  obtain ⟨cl, hcl, c1, c2⟩ := closure_of hcell
  refine wpAny_comprehension_free rfl hs hcl S.kind S.locs ?_
  refine thn (hi pins s σ H _ I h) fun v s1 h1 => thn h1 fun itv s2 h2 => ?_
  obtain ⟨it, fp, tn, J, H2, e, I2, T, st2, f2, h2⟩ := h2
  subst e
  have hlt2 : ∀ b ∈ fp, b < s2.heap.objs.size := fun b hb => let ⟨_, e, _⟩ := T.obj _ _ st2 b hb; Heap.lt_size e
  refine wpAny_newObj_type (wpAny_newFunctionEnv S.nocell (by intro y hy; simp at hy) (fun h₁ hns₁ hsb₁ => ?_) S.kind)
  dsimp only at hns₁ hsb₁ ⊢
  have I0 : Inv X pins σ (upd H2 s2.heap.objs.size (.lst [])) { s2 with heap := s2.heap.push { cls := .type "list", dict := none, data := .seq ([] : List Value).toArray } } := I2.lnew (its := []) (t' := s2.toks) .nil (Nat.zero_le _)
  generalize hs0 : ({ s2 with heap := s2.heap.push { cls := .type "list", dict := none, data := .seq ([] : List Value).toArray } } : Shared) = s₀ at I0
  have hh : s2.heap.push { cls := .type "list", dict := none, data := .seq ([] : List Value).toArray } = s₀.heap := by rw [← hs0]
  rw [hh] at hns₁ hsb₁ ⊢
  have hsz : s2.heap.objs.size < s₀.heap.objs.size := by rw [← hh, Heap.size_push]; exact Nat.lt_succ_self _
  have hDn : H2 s2.heap.objs.size = none := I2.fresh
  have f0 : ∀ b ∈ fp, FpOk X pins (upd H2 s2.heap.objs.size (.lst [])) b := fun b hb => ⟨by rw [upd_ne (Nat.ne_of_lt (hlt2 b hb))]; exact (f2 b hb).1, (f2 b hb).2⟩
  have hlt : ∀ b ∈ fp, b < s₀.heap.objs.size := fun b hb => Nat.lt_trans (hlt2 b hb) hsz
  have hk : ∀ b o, s₀.heap.get? b = some o → h₁.get? b = some o := fun b o e => hsb₁.extBut b o (Nat.ne_of_lt (Heap.lt_size e)) (Heap.get?_push_of_some _ e)
  have hk2 : ∀ b o, s2.heap.get? b = some o → h₁.get? b = some o := fun b o e => hk b o (by rw [← hh]; exact Heap.get?_push_of_some _ e)
  have st1 : tn 0 h₁ := T.keep _ _ _ st2 fun b _ o e => hk2 b o e
  obtain ⟨W, ⟨m0, w0⟩, turn⟩ := h2 s2.heap.objs.size hDn
  have loop : ∀ s₃ : Shared, s₃ = { s₀ with heap := h₁, toks := s2.toks + ([] : List (Str × Value)).length } →
      codeAny (model X.prog X.w) X.A (.compLoop (.ListComp elt [⟨tg, iter, ifs, 0⟩] csc pos) 0 (.ref it) (.ref s2.heap.objs.size) (compEnvC csc cl s₀.heap.objs.size X.env))
        (compPost (model X.prog X.w) X.A X.xe use R (.ref s2.heap.objs.size) s₀.heap.objs.size) s₃ := by
    rintro s₃ rfl
    have B0 := comp_start (cl := cl) (tk := s2.toks + ([] : List (Str × Value)).length) S I0 f0 hlt c1 c2 hns₁ hk
    have fpB : ∀ {H' : Hp}, (∀ b ∈ fp, H' b = none) → ∀ b ∈ fp, FpOk (cxC X NB csc cl s₀.heap.objs.size s₀ (upd H2 s2.heap.objs.size (.lst [])) fp (X.pn ++ pins)) [] H' b := fun {H'} hn b hb =>
      ⟨hn b hb, Nat.ne_of_lt (hlt b hb), B0.ok.exfs b hb, .inl hb, fun x c e => (f0 b hb).2.2.2.2.1 x c (c1 x c e), fun p hp => (f0 b hb).2.2.2.2.2 p (by
        have hp' : p ∈ (X.pn ++ pins) ++ [] := hp
        rw [List.append_nil] at hp'
        exact hp')⟩
    refine codeAny_compLoop_own (fun n s' => ∃ i τ xs H', Inv (cxC X NB csc cl s₀.heap.objs.size s₀ (upd H2 s2.heap.objs.size (.lst [])) fp (X.pn ++ pins)) [] τ H' s' ∧ tn i s'.heap ∧ (∀ b ∈ fp, H' b = none) ∧ W i n τ xs H') ?_ m0
      ⟨0, _, [], _, B0, st1, fun b hb => (f0 b hb).1, w0⟩
    rintro n s3 ⟨i, τ, xs, H3, I3, st3, fr3, w3⟩
    rcases turn i n τ xs H3 w3 with ⟨stop, q⟩ | ⟨go, step⟩
    · refine thn (T.done (cxC X NB csc cl s₀.heap.objs.size s₀ (upd H2 s2.heap.objs.size (.lst [])) fp (X.pn ++ pins)) rfl rfl rfl hc i [] s3 τ H3 _ I3 (fpB fr3) st3 stop) fun r s4 ⟨hr, I4⟩ => ?_
      subst hr
      obtain ⟨IX, fpC⟩ := comp_end I0 f0 I4
      exact fin _ _ s4 H3 IX fpC (let ⟨m, hn, _⟩ := I4.loc; ⟨m, hn⟩) q
    · refine thn (T.item (cxC X NB csc cl s₀.heap.objs.size s₀ (upd H2 s2.heap.objs.size (.lst [])) fp (X.pn ++ pins)) rfl rfl rfl hc i [] s3 τ H3 _ I3 (fpB fr3) st3 go) fun r s4 ⟨u, hr, h4⟩ => ?_
      subst hr
      refine thn h4 fun _ s5 ⟨x, H5, I5, r5, y5, st5, fr5⟩ => ?_
      have I5' := I5.pinned (fpB fr5) (T.obj _ _ st5)
      refine wpAny_mono (hg _ _ _ _ _ _ _ s5 τ H5 x u _ I5' r5 (step x H5 y5)) (fun _ s6 ⟨τ6, H6, I6, q6⟩ => ?_) fun _ _ z => False.elim z
      refine wpAny_mono (hf _ _ _ _ _ _ _ s6 τ6 H6 _ _ I6 q6) (fun b s7 ⟨H7, I7, q7⟩ => ?_) fun _ _ z => False.elim z
      have again : ∀ {τ7 : St} {H7 : Hp} {s7 : Shared} {ys : List V}, Inv (cxC X NB csc cl s₀.heap.objs.size s₀ (upd H2 s2.heap.objs.size (.lst [])) fp (X.pn ++ pins)) ([] ++ pinsAt fp s5.heap) τ7 H7 s7 → (∃ m', m' < n ∧ W (i + 1) m' τ7 ys H7) →
          ∃ m, m < n ∧ ∃ i τ xs H', Inv (cxC X NB csc cl s₀.heap.objs.size s₀ (upd H2 s2.heap.objs.size (.lst [])) fp (X.pn ++ pins)) [] τ H' s7 ∧ tn i s7.heap ∧ (∀ b ∈ fp, H' b = none) ∧ W i m τ xs H' := fun {τ7 H7 s7 ys} I7 w7 => by
        obtain ⟨m', hm, w7⟩ := w7
        refine ⟨m', hm, i + 1, τ7, ys, H7, I7.unpinned, T.keep _ _ _ st5 fun b hb o e => (I7.pin (b, o) (List.mem_append_right _ (List.mem_append_right _ (mem_pinsAt hb e)))).1, fun b hb => ?_, w7⟩
        obtain ⟨o, e, d⟩ := T.obj _ _ st5 b hb
        exact (I7.pin (b, o) (List.mem_append_right _ (List.mem_append_right _ (mem_pinsAt hb e)))).2.1
      cases b with
      | false => exact again I7 q7
      | true =>
        have q7' : te τ6 H7 _ := q7
        refine wpAny_mono (he _ _ _ _ _ _ _ s7 τ6 H7 _ I7 q7') (fun y s8 ⟨v8, H8, I8, r8, hl8, hz8, w8⟩ => ?_) fun _ _ z => False.elim z
        refine wpAny_mono (mt_append (X := (cxC X NB csc cl s₀.heap.objs.size s₀ (upd H2 s2.heap.objs.size (.lst [])) fp (X.pn ++ pins))) _ s8 τ6 H8 (.ref s2.heap.objs.size) [v8] (.ref s2.heap.objs.size) [y] (fun _ H9 => H9 = upd H8 s2.heap.objs.size (.lst (xs ++ [v8]))) I8 rfl (.cons r8 .nil) ⟨_, xs, v8, rfl, rfl, hl8, hz8, rfl⟩) (fun _ s9 ⟨_, H9, I9, _, e9⟩ => ?_) fun _ _ z => False.elim z
        subst e9
        exact again I9 w8
  exact codeAny_compStart_list (loop _ (by rw [← hs0])) (T.self _ _ _ _ _ st1 (loop _ (by rw [← hs0])))
theorem PCp.pe {e : Expr} {t : TE} (h : PCp X e t) : PE X e t := by
  obtain ⟨elt, tg, iter, ifs, csc, pos, rfl, h⟩ := h
  intro pins s σ H Q I hw
  rw [eval_ListComp]
  refine h _ none (EP X pins σ Q) pins s σ H Q I hw fun D C s' H' IX fpC ⟨m, hn⟩ q => ⟨m, hn, fun h' hs => ?_⟩
  exact ⟨.ref D, H', IX.turned (t' := s'.toks) (fun b o hb e => (hs.2 b hb).trans e) fpC.1 fpC.2.1 fpC.2.2.2.1 fpC.2.2.2.2.1 fpC.2.2.2.2.2, rfl, q⟩
/-- name = [.. for ..] -/
theorem ps_setC {i : Nat} {x : Str} {e : Expr} {te : TE} {pos' pos : Pos} (hN : X.N.Nodup) (hi : X.N[i]? = some x) (hx : Loc X.env.scope x) (he : PCp X e te) (hsw : swapsWith e (some (.Name x pos')) pos.line X.env = pure true := by rfl)
    (hf : X.fn x = true ∨ X.env.scope.names.lookup x = some .local := by first | exact .inl rfl | exact .inr rfl | assumption) : PS X (.Assign [.Name x pos'] e pos) (tAsg te (gName i)) := by
  obtain ⟨elt, tg, iter, ifs, csc, cpos, rfl, h⟩ := he
  intro pins s σ H D I hw
  rw [exec_Assign_Name_used _ _ _ _ hsw]
  refine wpAny_bind (wpAny_standAt (wpAny_bind ?_))
  show wpAny _ X.A (do let _ ← comprehension (.ListComp elt [⟨tg, iter, ifs, 0⟩] csc cpos) csc X.env _ (newList []) false (eval iter X.env) (some (assign (.Name x pos') X.env))) _ _ s
  refine wpAny_bind (wpAny_mono (h _ (some (assign (.Name x pos') X.env)) (fun _ s' => SP X pins D .next s') pins s σ H _ I hw ?_) (fun _ s' hq => wpAny_pure (wpAny_pure hq)) fun _ _ e => e)
  intro Dl C s' H' IX fpC ⟨m, hn⟩ q
  show wpAny _ X.A (assign (.Name x pos') X.env (.ref Dl)) _ _ s'
  refine wpAny_assign_Name (store_ok2 IX hN hi hx (v := .ref Dl) rfl (fun s2 I2 ⟨a, sb, ha⟩ => ?_) hf)
  have hne : C ≠ a := by
    rcases ha with e | e
    · rw [e]
      exact fpC.2.1
    · exact Ne.symm (fpC.2.2.2.2.1 x a e)
  refine ⟨m, hn.sameBut sb hne, fun h' hs => ?_⟩
  exact ⟨_, H', I2.turned (t' := s2.toks) (fun b o hb e => (hs.2 b hb).trans e) fpC.1 fpC.2.1 fpC.2.2.2.1 fpC.2.2.2.2.1 fpC.2.2.2.2.2, q⟩
end
end L2
/-! THE RULES SEALED: the judgements as structures, so that Lean does not run the program while it reads a term of rules. -/
namespace L2
open PySem PySem.Spec PyProof.Rows
structure QE (X : Cx) (e : Expr) (t : TE) : Prop where
  u : PE X e t
structure QT (X : Cx) (e : Expr) (t : TT) : Prop where
  u : PT X e t
structure QW (X : Cx) (e : Expr) (t : TT) : Prop where
  u : PW X e t
structure QA (X : Cx) (es : List Expr) (t : TA) : Prop where
  u : PA X es t
structure QS (X : Cx) (st : Stmt) (t : TS) : Prop where
  u : PS X st t
structure QSs (X : Cx) (st : List Stmt) (t : TS) : Prop where
  u : PSs X st t
structure QI (X : Cx) (tg iter : Expr) (t : TI) : Prop where
  u : PI X tg iter t
structure QG (X : Cx) (tg : Expr) (t : TG) : Prop where
  u : PG X tg t
structure QGs (X : Cx) (ts : List Expr) (t : TGs) : Prop where
  u : PGs X ts t
structure QO (X : Cx) (e : Option Expr) (t : TO) : Prop where
  u : PO X e t
structure QF (X : Cx) (ifs : List Expr) (t : TF) : Prop where
  u : PF X ifs t
structure QC (X : Cx) (e : Expr) (t : TE) : Prop where
  u : PCp X e t
section
variable {X : Cx} {st : Stmt} {rest : List Stmt} {t u : TS} {a b c e o i : Expr} {ta tb tc te to ti : TE} {es : List Expr} {tA : TA} {tT tU : TT} {pos pos' p p2 apos cpos : Pos} {x name : Str} {n : Nat}
/-! blocks and statements -/
theorem qss_nil : QSs X [] tNext := ⟨pss_nil⟩
theorem qss_one (h : QS X st t) : QSs X [st] t := ⟨pss_one h.u⟩
theorem qss_cons (h : QS X st t) (r : QSs X rest u) : QSs X (st :: rest) (tSeq t u) := ⟨pss_cons h.u r.u⟩
theorem qs_pass : QS X (.Pass pos) tNext := ⟨ps_pass⟩
theorem qs_break : QS X (.Break pos) tBreak := ⟨ps_break⟩
theorem qs_continue : QS X (.Continue pos) tCont := ⟨ps_continue⟩
theorem qs_expr (h : QE X e te) (hs : swapsWith e none pos.line X.env = pure false := by rfl) : QS X (.Expr e pos) (tDrop te) := ⟨ps_expr h.u hs⟩
theorem qs_ret (h : QE X e te) : QS X (.Return (some e) pos) (tRet te) := ⟨ps_ret h.u⟩
theorem qs_retN : QS X (.Return none pos) tRetN := ⟨ps_retN⟩
theorem qs_if {a b : List Stmt} (hc : QT X c tT) (ha : QSs X a t) (hb : QSs X b u) : QS X (.If c a b pos) (tIfS tT t u) := ⟨ps_if hc.u ha.u hb.u⟩
theorem qs_set {i : Nat} (hN : X.N.Nodup) (hi : X.N[i]? = some x) (hx : Loc X.env.scope x) (h : QE X e te) (hs : swapsWith e (some (.Name x pos')) pos.line X.env = pure false := by rfl)
    (hf : X.fn x = true ∨ X.env.scope.names.lookup x = some .local := by first | exact .inl rfl | exact .inr rfl | assumption) : QS X (.Assign [.Name x pos'] e pos) (tAsg te (gName i)) := ⟨ps_set hN hi hx h.u hs hf⟩
theorem qs_setC {i : Nat} (hN : X.N.Nodup) (hi : X.N[i]? = some x) (hx : Loc X.env.scope x) (h : QC X e te) (hs : swapsWith e (some (.Name x pos')) pos.line X.env = pure true := by rfl)
    (hf : X.fn x = true ∨ X.env.scope.names.lookup x = some .local := by first | exact .inl rfl | exact .inr rfl | assumption) : QS X (.Assign [.Name x pos'] e pos) (tAsg te (gName i)) := ⟨ps_setC hN hi hx h.u hs hf⟩
theorem qs_asg {tg : Expr} {g : TG} (h : QE X e te) (hg : QG X tg g) (hs : swapsWithSole [tg] e pos.line X.env = pure false := by rfl) (hw : swappedStores [tg] e X.env = pure none := by rfl)
    (h1 : (assignEach [tg] X.env).map (·.2) = [assign tg X.env] := by rfl) : QS X (.Assign [tg] e pos) (tAsg te g) := ⟨ps_asg h.u hg.u hs hw h1⟩
theorem qs_for {tg iter : Expr} {body : List Stmt} {wi : TI} {g : TG} (hp : PassesOwn (model X.prog X.w) X.A X.env X.xe) (hc : X.calm = true) (hi : QI X tg iter wi) (hg : QG X tg g) (hb : QSs X body t)
    (hs : ∀ x, foldedSetIterable iter X.env x = pure x := by intro _; rfl) : QS X (.For tg iter body [] pos) (tFor wi g t) := ⟨ps_for hp hc hi.u hg.u hb.u hs⟩
theorem qs_while {body : List Stmt} (hp : PassesOwn (model X.prog X.w) X.A X.env X.xe) (hc : QT X c tT) (hb : QSs X body t) : QS X (.While c body [] pos) (tWhile tT t) := ⟨ps_while hp hc.u hb.u⟩
/-! expressions -/
theorem qe_int {k : Int} {j : Nat} : QE X (.Constant (.int k) j pos) (tC (.int k)) := ⟨pe_int⟩
theorem qe_bl {k : Bool} {j : Nat} : QE X (.Constant (.bool k) j pos) (tC (.bl k)) := ⟨pe_bl⟩
theorem qe_non {j : Nat} : QE X (.Constant .none j pos) (tC .non) := ⟨pe_non⟩
theorem qe_str {z : Str} {j : Nat} : QE X (.Constant (.str z) j pos) (tC (.str z)) := ⟨pe_str⟩
theorem qv (i : Nat) (hN : X.N[i]? = some x := by rfl) (hv : Vis X.env.scope x := by first | exact Or.inl rfl | exact Or.inr (Or.inl rfl) | exact Or.inr (Or.inr rfl)) (hd : (x == ("__debug__" : Str)) = false := by decide)
    (hcd : (x == ("__classdict__" : Str)) = false := by decide) : QE X (.Name x pos) (tVar i) := ⟨pe_var hN hv hd hcd⟩
theorem qe_glob {v : V} {w : Value} (hg : Gl X x) (hm : X.mg x = some w) (r : RelV v w) (hd : (x == ("__debug__" : Str)) = false := by decide) : QE X (.Name x pos) (tC v) := ⟨pe_glob hg hm r hd⟩
theorem qe_bltn {v : V} {w : Value} (hg : Gl X x) (hm : X.mg x = none) (hv : bootBuiltins x = some w) (r : RelV v w) (hn : x ≠ "__name__" := by decide) (hd : (x == ("__debug__" : Str)) = false := by decide) : QE X (.Name x pos) (tC v) := ⟨pe_bltn hg hm hv r hn hd⟩
theorem qe_op {op : Operator} {r : R2} (ho : OpR X (binaryOp op) r) (ha : QE X a ta) (hb : QE X b tb) : QE X (.BinOp a op b pos) (tOp r ta tb) := ⟨pe_op ho ha.u hb.u⟩
theorem qe_un {op : UnaryOp} {r : V → Hp → VK → Prop} (ho : UnR X (unaryOp op) r) (ha : QE X a ta) : QE X (.UnaryOp op a pos) (tUn r ta) := ⟨pe_un ho ha.u⟩
theorem qe_cmpR {op : CmpOp} {r : R2} (ho : OpR X (compareOp op) r) (ha : QE X a ta) (hb : QE X b tb) (hm : behindInMarks op b = false) : QE X (.Compare a [op] [b] pos) (tOp r ta tb) := ⟨pe_cmpR ho ha.u hb.u hm⟩
theorem qe_chain {op op' : CmpOp} {r r' : R2} (ho : OpR X (compareOp op) r) (ho' : OpR X (compareOp op') r') (ha : QE X a ta) (hb : QE X b tb) (hc : QE X c tc) (hm : lastMarks [op, op'] [b, c] = false := by with_unfolding_all rfl) :
    QE X (.Compare a [op, op'] [b, c] pos) (tChain r r' ta tb tc) := ⟨pe_chain ho ho' ha.u hb.u hc.u hm⟩
theorem qe_one {op : BoolOp} (h : QE X a ta) : QE X (.BoolOp op [a] pos) ta := ⟨pe_one h.u⟩
theorem qe_and (ha : QE X a ta) (hb : QE X (.BoolOp .And (b :: es) pos) tb) : QE X (.BoolOp .And (a :: b :: es) pos) (tAndV ta tb) := ⟨pe_and ha.u hb.u⟩
theorem qe_or (ha : QE X a ta) (hb : QE X (.BoolOp .Or (b :: es) pos) tb) : QE X (.BoolOp .Or (a :: b :: es) pos) (tOrV ta tb) := ⟨pe_or ha.u hb.u⟩
theorem qe_not (ha : QE X a ta) : QE X (.UnaryOp .Not a pos) (tNotV ta) := ⟨pe_not ha.u⟩
theorem qe_ifExp (hc : QT X c tT) (ha : QE X a ta) (hb : QE X b tb) : QE X (.IfExp c a b pos) (tIf tT ta tb) := ⟨pe_ifExp hc.u ha.u hb.u⟩
theorem qe_tup {k : Nat} (h : QA X es tA) : QE X (.Tuple es k pos) (tTup tA) := ⟨pe_tup h.u⟩
theorem qe_lst (h : QA X es tA) : QE X (.List es pos) (tLst tA) := ⟨pe_lst h.u⟩
theorem qe_slice {lo hi : Option Expr} {tl th : TO} {r : V → Option Int → Option Int → Hp → VK → Prop} (hr : SlR X r) (he : QE X e te) (hl : QO X lo tl) (hu : QO X hi th) : QE X (.Subscript e (.Slice lo hi none p2) pos) (tSl r te tl th) := ⟨pe_slice hr he.u hl.u hu.u⟩
theorem qe_ix {r : R2} (hr : IxR X r) (ha : QE X a ta) (hb : QE X b tb) (hs : PlainIx b) : QE X (.Subscript a b pos) (tOp r ta tb) := ⟨pe_ix hr ha.u hb.u hs⟩
theorem qo_none : QO X none tNoPart := ⟨po_none⟩
theorem qo_some (h : QE X e te) : QO X (some e) (tPart te) := ⟨po_some h.u⟩
theorem qa_nil : QA X [] tNil := ⟨pa_nil⟩
theorem qac (ha : QE X e te) (hr : QA X es tA) (hs : plainE e = true := by rfl) : QA X (e :: es) (tCons te tA) := ⟨pac ha.u hr.u hs⟩
theorem qe_cal {k : Nat} {ps : List Str} {sp : Sp} (C : Cal X.prog X.w X.K X.mg X.base k x ps sp) (hr : Room k X.A) (hg : Gl X x) (ha : QA X (e :: es) tA) (hp : (e :: es).all plainE = true := by rfl) (hdb : (x == ("__debug__" : Str)) = false := by decide) :
    QE X (.Call (.Name x p) (e :: es) [] pos) (tCall sp [] E0 tA) := ⟨pe_cal C hr hg ha.u hp hdb⟩
theorem qe_cal0 {k : Nat} {ps : List Str} {sp : Sp} (C : Cal X.prog X.w X.K X.mg X.base k x ps sp) (hr : Room k X.A) (hg : Gl X x) (hdb : (x == ("__debug__" : Str)) = false := by decide) : QE X (.Call (.Name x p) [] [] pos) (tCall sp [] E0 tNil) := ⟨pe_cal0 C hr hg hdb⟩
theorem qcb {id : String} {r : List V → Hp → VK → Prop} (hc : CallR X (.builtin id) r) (hg : Gl X x) (hm : X.mg x = none) (hv : bootBuiltins x = some (.builtin id)) (ha : QA X (e :: es) tA) (hp : (e :: es).all plainE = true := by rfl) (hn : x ≠ "__name__" := by decide)
    (hdb : (x == ("__debug__" : Str)) = false := by decide) : QE X (.Call (.Name x p) (e :: es) [] pos) (tCB r tA) := ⟨pcb hc hg hm hv ha.u hp hn hdb⟩
theorem qct {T : String} {r : List V → Hp → VK → Prop} (hc : CallR X (.type T) r) (hg : Gl X x) (hm : X.mg x = none) (hv : bootBuiltins x = some (.type T)) (ha : QA X (e :: es) tA) (hp : (e :: es).all plainE = true := by rfl) (hn : x ≠ "__name__" := by decide)
    (hdb : (x == ("__debug__" : Str)) = false := by decide) : QE X (.Call (.Name x p) (e :: es) [] pos) (tCB r tA) := ⟨pct hc hg hm hv ha.u hp hn hdb⟩
theorem qbm {T id : String} {r : V → List V → Hp → VK → Prop} (pa : PlainAttrs T) (slot : Slot T name id) (hty : typeOf (.builtin id) = pure (.type "method_descriptor")) (hm : MtR X id r) (ho : QE X o to) (ha : QA X (e :: es) tA) (hp : (e :: es).all plainE = true := by rfl)
    (hfew : decide ((e :: es).length < 30) = true := by rfl) (hbase : attributeBase o name X.env (eval o X.env) = eval o X.env := by rfl) (hline : (apos.endLine == cpos.line) = true := by rfl) :
    QE X (.Call (.Attribute o name apos) (e :: es) [] cpos) (tBM X.K T r to tA) := ⟨pbm pa slot hty hm ho.u ha.u hp hfew hbase hline⟩
theorem qbm0 {T id : String} {r : V → List V → Hp → VK → Prop} (pa : PlainAttrs T) (slot : Slot T name id) (hty : typeOf (.builtin id) = pure (.type "method_descriptor")) (hm : MtR X id r) (ho : QE X o to) (hbase : attributeBase o name X.env (eval o X.env) = eval o X.env := by rfl)
    (hline : (apos.endLine == cpos.line) = true := by rfl) : QE X (.Call (.Attribute o name apos) [] [] cpos) (tBM0 X.K T r to) := ⟨pe_bm0 pa slot hty hm ho.u hbase hline⟩
/-! tests -/
theorem qt_cmpR {op : CmpOp} {r : R2} (ho : OpR X (compareOp op) r) (ha : QE X a ta) (hb : QE X b tb) (hm : behindInMarks op b = false) : QT X (.Compare a [op] [b] pos) (tTest (tOp r ta tb)) := ⟨pt_cmpR ho ha.u hb.u hm⟩
theorem qt_chain {op op' : CmpOp} {r r' : R2} (ho : OpR X (compareOp op) r) (ho' : OpR X (compareOp op') r') (ha : QE X a ta) (hb : QE X b tb) (hc : QE X c tc) (hm : lastMarks [op, op'] [b, c] = false := by with_unfolding_all rfl) :
    QT X (.Compare a [op, op'] [b, c] pos) (tTest (tChain r r' ta tb tc)) := ⟨pt_chain ho ho' ha.u hb.u hc.u hm⟩
theorem qt_not (h : QT X a tT) : QT X (.UnaryOp .Not a pos) (tNot tT) := ⟨pt_not h.u⟩
theorem qt_val (h : QE X e te) (he : ∀ whole, isTrue e X.env whole = (do let v ← whole; standAt e.pos; holding [v] (truthy v)) := by intro _; rfl) : QT X e (tB te) := ⟨pt_val h.u he⟩
theorem qt_truth (h : QE X e te) (he : ∀ whole, isTrue e X.env whole = (do let v ← whole; standAt e.pos; holding [v] (truthy v)) := by intro _; rfl) : QT X e (fun σ H Q => te σ H fun x H1 => ∃ k, TruV X.K x H1 k ∧ Q k H1) := ⟨pt_truth h.u he⟩
theorem qw_and1 (h : QT X a tT) : QW X (.BoolOp .And [a] pos) tT := ⟨pw_and1 h.u⟩
theorem qw_or1 (h : QT X a tT) : QW X (.BoolOp .Or [a] pos) tT := ⟨pw_or1 h.u⟩
theorem qw_and (ha : QT X a tT) (hb : QW X (.BoolOp .And (b :: es) pos) tU) : QW X (.BoolOp .And (a :: b :: es) pos) (tAnd tT tU) := ⟨pw_and ha.u hb.u⟩
theorem qw_or (ha : QT X a tT) (hb : QW X (.BoolOp .Or (b :: es) pos) tU) : QW X (.BoolOp .Or (a :: b :: es) pos) (tOr tT tU) := ⟨pw_or ha.u hb.u⟩
theorem qw_t (h : QW X e tT) : QT X e tT := ⟨h.u.pt⟩
/-! what is walked, targets, comprehensions -/
theorem qi_list {tg : Expr} (h : QE X e te) : QI X tg e (iList X.K te) := ⟨pi_list h.u⟩
theorem qi_tup {tg : Expr} (h : QE X e te) : QI X tg e (iTup X.K te) := ⟨pi_tup h.u⟩
theorem qi_str {tg : Expr} (h : QE X e te) : QI X tg e (iStr te) := ⟨pi_str h.u⟩
theorem qrng1 {tg : Expr} (hg : Gl X "range") (hm : X.mg "range" = none) (ha : QA X [a] tA) (hp : plainE a = true := by rfl) : QI X tg (.Call (.Name "range" p) [a] [] pos) (iRng1 tA) := ⟨prng1 hg hm ha.u hp⟩
theorem qrng2 {tg : Expr} (hg : Gl X "range") (hm : X.mg "range" = none) (ha : QA X [a, b] tA) (hp : plainE a = true := by rfl) (hp2 : plainE b = true := by rfl) : QI X tg (.Call (.Name "range" p) [a, b] [] pos) (iRng2 tA) := ⟨prng2 hg hm ha.u hp hp2⟩
theorem qg_name {i : Nat} (hN : X.N.Nodup) (hi : X.N[i]? = some x) (hx : Loc X.env.scope x) (hf : X.fn x = true ∨ X.env.scope.names.lookup x = some .local := by first | exact .inl rfl | exact .inr rfl | assumption) : QG X (.Name x pos) (gName i) := ⟨pg_name hN hi hx hf⟩
theorem qgs_nil : QGs X [] gNil := ⟨pgs_nil⟩
theorem qgs_cons {g : TG} {gs : TGs} (h1 : QG X e g) (h2 : QGs X es gs) (hs : (assignEach (e :: es) X.env).map (·.2) = assign e X.env :: (assignEach es X.env).map (·.2) := by rfl) : QGs X (e :: es) (gCons g gs) := ⟨pgs_cons h1.u h2.u hs⟩
theorem qg_tup {k : Nat} {gs : TGs} {n : Nat} (hc : X.calm = true) (h : QGs X es gs) (hn : (assignEach es X.env).length = n := by rfl) (hst : (assignEach es X.env).findIdx? (·.1) = none := by rfl) : QG X (.Tuple es k pos) (gTup X.K n gs) := ⟨pg_tup hc h.u hn hst⟩
theorem qg_sub {s : TSet} (ho : QE X o to) (hi : QE X i ti) (hs : PSet X s) (ha : ∀ v, assign (.Subscript o i pos) X.env v = (do
      let ov ← holding [v] (eval o X.env)
      let iv ← holding [v, ov] (eval i X.env)
      standAt pos
      holding [v, ov, iv] (setItem ov iv v)
      release [v, ov, iv] []) := by intro _; rfl) : QG X (.Subscript o i pos) (gSub to ti s) := ⟨pg_sub ho.u hi.u hs ha⟩
theorem qif_nil : QF X [] fNil := ⟨pif_nil⟩
theorem qif_one (h : QT X c tT) : QF X [c] (fOne tT) := ⟨pif_one h.u⟩
theorem qc_comp {tg iter elt : Expr} {ifs : List Expr} {csc : Scope} {NB M : List Str} {wi : TI} {g : TG} {ti : TF} (hi : QI X tg iter wi) (hc : X.calm = true) (S : CompScope X.env.scope X.N NB M csc)
    (hg : ∀ cl C s₀ H₀ fp pn, QG (cxC X NB csc cl C s₀ H₀ fp pn) tg g) (hf : ∀ cl C s₀ H₀ fp pn, QF (cxC X NB csc cl C s₀ H₀ fp pn) ifs ti) (he : ∀ cl C s₀ H₀ fp pn, QE (cxC X NB csc cl C s₀ H₀ fp pn) elt te)
    (hs : ∀ x, foldedSetIterable iter X.env x = pure x := by intro _; rfl) : QC X (.ListComp elt [⟨tg, iter, ifs, 0⟩] csc pos) (tComp wi g ti te M.length) :=
  ⟨pc_comp hi.u hc S (fun cl C s₀ H₀ fp pn => (hg cl C s₀ H₀ fp pn).u) (fun cl C s₀ H₀ fp pn => (hf cl C s₀ H₀ fp pn).u) (fun cl C s₀ H₀ fp pn => (he cl C s₀ H₀ fp pn).u) hs⟩
theorem qc_e (h : QC X e te) : QE X e te := ⟨h.u.pe⟩
end
/-- THE RULE for a def, its body as a term of sealed rules -/
theorem Fun.okQ {P : Program} {w : World} {K : PySem.W.Frag} {mg : Str → Option Value} {base : Heap} {x qual : Str} {st : Stmt} {f : Addr} {fd : FuncData} {N ps : List Str} {k : Nat} {sp : Sp} (F : Fun K x qual st f fd) (S : FnScope N ps (defScope st)) (len : ∀ vs H Q E, sp vs H Q E → vs.length = ps.length)
    (hbody : ∀ (cdv : Value) (A : Around) (outer : List Env) (s : Shared) (H : Hp) (vs : List V) (Q : VK) (E : XK), Room k (A.deeper (envOfC qual (defScope st) s.heap.objs.size f cdv)) → sp vs H Q E →
      ∃ t, QSs (cxOf CX0 P w K mg base N qual (defScope st) f cdv A outer s H E).nox (defBody st) t ∧ t { nx := fun _ H' => Q .non H', rt := Q } (start N vs) H) : FnOk P w K mg base CX0 (k + 1) f fd ps sp :=
  F.ok S len fun cdv A outer s H vs Q E hr hsp => let ⟨t, h, q⟩ := hbody cdv A outer s H vs Q E hr hsp; ⟨t, h.u, q⟩
end L2
/-! EXCEPTIONS: an own exception in flight, how it leaves a def and passes a call; raise, try. -/
namespace L2
open PySem PySem.Spec PyProof.Rows
/-- the exception at a, of the class C, not noted anywhere yet -/
def FlR (h : Heap) (a : Addr) (C : Value) : Prop := ∃ oa vs, h.get? a = some oa ∧ (oa.cls = C ∧ oa.dict = none) ∧ oa.data = .fields vs ∧ vs[1]? = some .none
/-- .. its newest entry at T, in flight in the frame fl -/
def FlT (h : Heap) (a : Addr) (C : Value) (T : Addr) (fl : Value) : Prop :=
  ∃ oa vs oT ts, h.get? a = some oa ∧ (oa.cls = C ∧ oa.dict = none) ∧ oa.data = .fields vs ∧ vs[1]? = some (.ref T) ∧ T ≠ a ∧ h.get? T = some oT ∧ oT.data = .fields ts ∧ ts[3]? = some fl
/-- between two frames -/
def Fly (h : Heap) (a : Addr) (C : Value) : List Addr → Prop
  | [] => FlR h a C
  | T :: r => r = [] ∧ FlT h a C T .none
theorem mapF_dict (o : Obj) (f : Array Value → Array Value) : (o.mapFields f).dict = o.dict := by
  cases o with | mk c d dt sl => cases dt <;> rfl
/-- what noting changes: slots of frames, the records at ch -/
structure Nk (fs ch : List Addr) (h g : Heap) : Prop where
  keep : ∀ b o, b ∉ fs → b ∉ ch → h.get? b = some o → g.get? b = some o
  slot : ∀ b o, b ∈ fs → b ∉ ch → h.get? b = some o → ∃ sl, g.get? b = some { o with slots := sl }
  there : ∀ b o, h.get? b = some o → ∃ u, g.get? b = some u
theorem FlT.thing {h : Heap} {a T : Addr} {C fl : Value} (f : FlT h a C T fl) : ∃ oa, h.get? a = some oa ∧ (oa.cls = C ∧ oa.dict = none) ∧ PySem.W.notCls oa = true := by
  obtain ⟨oa, _, _, _, ha, hc, hd, _⟩ := f
  exact ⟨oa, ha, hc, by unfold PySem.W.notCls; rw [hd]⟩
theorem FlT.there {h : Heap} {a T : Addr} {C fl : Value} (f : FlT h a C T fl) : ∃ oa, h.get? a = some oa ∧ oa.cls = C := by
  obtain ⟨oa, ha, hc, _⟩ := f.thing
  exact ⟨oa, ha, hc.1⟩
theorem upd_there {h : Heap} {a b : Addr} {oa o : Obj} {vs : Array Value} {i : Nat} {x : Value} (ha : h.get? a = some oa) (hd : oa.data = .fields vs) (e : h.get? b = some o) : ∃ u, (h.update a (Obj.mapFields (·.setIfInBounds i x))).get? b = some u := by
  by_cases hb : b = a
  · subst hb
    exact ⟨_, Heap.get?_update_self _ ha (Obj.isFreed_of_fields (Obj.data_mapFields hd _))⟩
  · exact ⟨o, by rw [Heap.get?_update_other _ _ (Ne.symm hb)]; exact e⟩
section
variable {M : Model} {A : Around} {E : Value → Shared → Prop} {s : Shared} {base : Heap} {env : Env} {outer : List Env} {L a T : Addr} {C : Value}
theorem note_entry {oa : Obj} {vs : Array Value} {head : Value} {more : Bool} {Q : Unit → Shared → Prop} (hfr : A.frames = some (env :: outer)) (hl : s.heap.FunFrames base (env :: outer)) (hf : env.frame = some L)
    (ha : s.heap.get? a = some oa) (hdn : oa.dict = none) (hd : oa.data = .fields vs) (hz : 1 < vs.size) (k : ∀ g T, Nk (frs (env :: outer)) [a] s.heap g → s.heap.objs.size ≤ T → FlT g a oa.cls T (rawInt L) → Q () { s with heap := g }) :
    wpAny M A (do let fr ← frameOf env; let pl ← entryPlaceOf L more; let b ← EntryCells.newEntry head fr .none (rawInt L) .none pl; setField (.ref a) 1 b) Q E s := by
  have nofr : a ∉ frs (env :: outer) := fun hm => by
    obtain ⟨_, o, ho, no⟩ := hl.mem hm
    rw [ha] at ho
    cases ho
    exact no vs hd
  refine wpAny_bind (wpAny_frameOf_fun hfr hl hf fun g1 so => wpAny_bind (wpAny_entryPlaceOf fun pl ip => ?_))
  unfold EntryCells.newEntry newFields
  refine wpAny_bind (wpAny_newObj_type ?_ (ip.sizeOk5 _ _ _ _ _))
  have a1 : g1.get? a = some oa := (so.2.1 a nofr).trans ha
  have lt1 : a < g1.objs.size := Heap.lt_size a1
  refine wpAny_setField (Heap.get?_push_of_some _ a1) hd hz (k _ g1.objs.size ⟨fun b o nb nc e => ?_, fun b o mb nc e => ?_, fun b o e => ?_⟩ (by rw [so.1]; exact Nat.le_refl _) ?_)
  · have hb : b ≠ a := fun z => nc (by simp [z])
    rw [Heap.get?_update_other _ _ (Ne.symm hb)]
    exact Heap.get?_push_of_some _ ((so.2.1 b nb).trans e)
  · have hb : b ≠ a := fun z => nc (by simp [z])
    obtain ⟨sl, q⟩ := so.2.2 b o e
    exact ⟨sl, by rw [Heap.get?_update_other _ _ (Ne.symm hb)]; exact Heap.get?_push_of_some _ q⟩
  · obtain ⟨sl, q⟩ := so.2.2 b o e
    exact upd_there (Heap.get?_push_of_some _ a1) hd (Heap.get?_push_of_some _ q)
  · have hne : g1.objs.size ≠ a := Nat.ne_of_gt lt1
    refine ⟨_, _, _, _, Heap.get?_update_self _ (Heap.get?_push_of_some _ a1) (Obj.isFreed_of_fields (Obj.data_mapFields hd _)), ⟨Obj.cls_mapFields _ _, (mapF_dict _ _).trans hdn⟩, Obj.data_mapFields hd _, (by simp [hz]), hne, (Heap.get?_update_other _ _ (Ne.symm hne)).trans (Heap.get?_push_size g1 rfl), rfl, ?_⟩
    first
      | (simp; done)
      | (rcases ip with rfl | ⟨_, _, _, _, _, _, _, rfl⟩ <;> simp)
theorem note_raw {Q : Unit → Shared → Prop} (hfr : A.frames = some (env :: outer)) (hl : s.heap.FunFrames base (env :: outer)) (hf : env.frame = some L) (r : FlR s.heap a C)
    (k : ∀ g T, Nk (frs (env :: outer)) [a] s.heap g → s.heap.objs.size ≤ T → FlT g a C T (rawInt L) → Q () { s with heap := g }) : wpAny M A (noteFrame (.ref a) env) Q E s := by
  obtain ⟨oa, vs, ha, ⟨hc, hdn⟩, hd, h1⟩ := r
  subst hc
  unfold noteFrame
  simp only [hf]
  refine wpAny_bind (wpAny_field ha hd h1 ?_)
  rw [if_neg (by decide)]
  exact note_entry hfr hl hf ha hdn hd (Array.getElem?_eq_some_iff.mp h1).1 k
theorem note_on {Q : Unit → Shared → Prop} (hfr : A.frames = some (env :: outer)) (hl : s.heap.FunFrames base (env :: outer)) (hf : env.frame = some L) (r : FlT s.heap a C T .none)
    (k : ∀ g U, Nk (frs (env :: outer)) [a, T] s.heap g → s.heap.objs.size ≤ U → FlT g a C U (rawInt L) → Q () { s with heap := g }) : wpAny M A (noteFrame (.ref a) env) Q E s := by
  obtain ⟨oa, vs, oT, ts, ha, ⟨hc, hdn⟩, hd, h1, ne, hT, hdT, h3⟩ := r
  subst hc
  unfold noteFrame
  simp only [hf]
  refine wpAny_bind (wpAny_field ha hd h1 ?_)
  rw [if_pos (show (Value.ref T != Value.none) = true by simp)]
  refine wpAny_bind (wpAny_field hT hdT h3 ?_)
  rw [if_neg (show ¬ ((Value.none == rawInt L) = true) by simp [rawInt])]
  refine wpAny_bind (wpAny_setField hT hdT (Array.getElem?_eq_some_iff.mp h3).1 ?_)
  have oth : ∀ b, b ≠ T → (s.heap.update T (Obj.mapFields (·.setIfInBounds 3 Value.none))).get? b = s.heap.get? b := fun b hb => Heap.get?_update_other _ _ (Ne.symm hb)
  have hl2 : (s.heap.update T (Obj.mapFields (·.setIfInBounds 3 Value.none))).FunFrames base (env :: outer) := hl.of_keeps fun b o e no => ⟨o, (oth b fun z => by subst z; rw [hT] at e; cases e; exact no ts hdT).trans e, rfl⟩
  refine note_entry (s := { s with heap := s.heap.update T (Obj.mapFields (·.setIfInBounds 3 Value.none)) }) hfr hl2 hf ((oth a (Ne.symm ne)).trans ha) hdn hd (Array.getElem?_eq_some_iff.mp h1).1 fun g U nk sz fl => k g U ⟨fun b o nb nc e => ?_, fun b o mb nc e => ?_, fun b o e => ?_⟩ ?_ fl
  · have hb : b ≠ T := fun z => nc (by simp [z])
    exact nk.keep b o nb (fun z => nc (by simp at z; simp [z])) ((oth b hb).trans e)
  · have hb : b ≠ T := fun z => nc (by simp [z])
    exact nk.slot b o mb (fun z => nc (by simp at z; simp [z])) ((oth b hb).trans e)
  · obtain ⟨u, q⟩ := upd_there (i := 3) (x := Value.none) hT hdT e
    exact nk.there b u q
  · have e : (s.heap.update T (Obj.mapFields (·.setIfInBounds 3 Value.none))).objs.size = s.heap.objs.size := Heap.size_after_update ..
    rw [← e]
    exact sz
theorem flight_none {fl : Value} {Q : Unit → Shared → Prop} (r : FlT s.heap a C T fl) (k : ∀ g, Nk [] [T] s.heap g → FlT g a C T .none → g.objs.size = s.heap.objs.size → Q () { s with heap := g }) : wpAny M A (setFlight (.ref a) none) Q E s := by
  obtain ⟨oa, vs, oT, ts, ha, hc, hd, h1, ne, hT, hdT, h3⟩ := r
  have h3z := (Array.getElem?_eq_some_iff.mp h3).1
  have oth : ∀ b, b ≠ T → (s.heap.update T (Obj.mapFields (·.setIfInBounds 3 Value.none))).get? b = s.heap.get? b := fun b hb => Heap.get?_update_other _ _ (Ne.symm hb)
  refine wpAny_setFlight_none ha hd h1 hT hdT h3z (k _ ⟨fun b o _ nc e => (oth b fun z => nc (by simp [z])).trans e, fun b o mb _ _ => (nomatch mb), fun b o e => upd_there hT hdT e⟩ ?_ (Heap.size_after_update ..))
  exact ⟨oa, vs, _, _, (oth a (Ne.symm ne)).trans ha, hc, hd, h1, ne, Heap.get?_update_self _ hT (Obj.isFreed_of_fields (Obj.data_mapFields hdT _)), Obj.data_mapFields hdT _, by simp [h3z]⟩
/-- noted here and not in flight: what leaving a def does, and what a try does first -/
theorem fly_noted {ts : List Addr} {Q : Unit → Shared → Prop} (hfr : A.frames = some (env :: outer)) (hl : s.heap.FunFrames base (env :: outer)) (hf : env.frame = some L) (r : Fly s.heap a C ts)
    (k : ∀ g U, Nk (frs (env :: outer)) (a :: ts) s.heap g → s.heap.objs.size ≤ U → FlT g a C U .none → Q () { s with heap := g }) :
    wpAny M A (noteFrame (.ref a) env) (fun _ s2 => wpAny M A (setFlight (.ref a) none) Q E s2) E s := by
  have fin : ∀ (ch : List Addr) (g : Heap) (U : Addr), (∀ b ∈ ch, b ∈ a :: ts) → Nk (frs (env :: outer)) ch s.heap g → s.heap.objs.size ≤ U → FlT g a C U (rawInt L) → wpAny M A (setFlight (.ref a) none) Q E { s with heap := g } := fun ch g U sub nk sz fl => by
    refine flight_none (s := { s with heap := g }) fl fun g2 nk2 fl2 _ => k g2 U ⟨fun b o nb nc e => ?_, fun b o mb nc e => ?_, fun b o e => ?_⟩ sz fl2
    · have hU : b ≠ U := Nat.ne_of_lt (Nat.lt_of_lt_of_le (Heap.lt_size e) sz)
      exact nk2.keep b o (by simp) (by simpa using hU) (nk.keep b o nb (fun z => nc (sub b z)) e)
    · have hU : b ≠ U := Nat.ne_of_lt (Nat.lt_of_lt_of_le (Heap.lt_size e) sz)
      obtain ⟨sl, q⟩ := nk.slot b o mb (fun z => nc (sub b z)) e
      exact ⟨sl, nk2.keep b _ (by simp) (by simpa using hU) q⟩
    · obtain ⟨u, q⟩ := nk.there b o e
      exact nk2.there b u q
  cases ts with
  | nil => exact note_raw hfr hl hf r fun g U nk sz fl => fin [a] g U (fun b hb => by simpa using hb) nk sz fl
  | cons T r' =>
    obtain ⟨hr, r⟩ := r
    subst hr
    exact note_on hfr hl hf r fun g U nk sz fl => fin [a, T] g U (fun b hb => by simpa using hb) nk sz fl
end

/-! ### in a body -/
section
variable {X : Cx} {pins : List (Addr × Obj)} {σ : St} {H : Hp} {s : Shared} {a : Addr} {ts : List Addr} {C : Addr}
/-- a record that is ours alone: nothing of the caller's, no name's, no pinned one -/
def FpN (X : Cx) (pins : List (Addr × Obj)) (H : Hp) (b : Addr) : Prop :=
  H b = none ∧ b ≠ X.env.locals ∧ b ∉ X.fs ∧ X.s₀.heap.get? b = none ∧ (∀ x c, X.env.cells.lookup x = some c → c ≠ b) ∧ ∀ p ∈ X.pn ++ pins, p.1 ≠ b
theorem Inv.fpN {H' : Hp} {b : Addr} (I : Inv X pins σ H s) (hx : X.ex = []) (hb : s.heap.get? b = none) (hn : H' b = none) : FpN X pins H' b := by
  have no : ∀ (d : Addr) (o : Obj), X.s₀.heap.get? d = some o → d ≠ b := fun d o e z => by
    obtain ⟨o', e'⟩ := I.base.there d o e (by rw [hx]; exact fun y => nomatch y)
    rw [z, hb] at e'
    cases e'
  refine ⟨hn, fun z => ?_, fun z => ?_, ?_, fun x c e z => ?_, fun p hp z => ?_⟩
  · obtain ⟨m, ⟨o, _, _, ho, _⟩, _⟩ := I.loc
    rw [← z, hb] at ho
    cases ho
  · obtain ⟨_, o, ho, _⟩ := I.ok.funs.mem z
    exact no b o ho rfl
  · cases q : X.s₀.heap.get? b with
    | none => rfl
    | some o => exact absurd rfl (no b o q)
  · obtain ⟨v, o, ho, _⟩ := I.cell x c e
    rw [z, hb] at ho
    cases ho
  · have e := (I.pin p hp).1
    rw [z, hb] at e
    cases e
/-- more records may turn .. -/
theorem Inv.exMore {ch : List Addr} (I : Inv X pins σ H s) (f : ∀ b ∈ ch, FpN X pins H b) : Inv { X with ex := ch ++ X.ex } pins σ H s := by
  refine ⟨⟨I.ok.mod, I.ok.kind, I.ok.glob, I.ok.blt, I.ok.above, I.ok.inj, I.ok.has, I.ok.cab, I.ok.hd, I.ok.frames, I.ok.stk, fun b hb => ?_, I.ok.bs, I.ok.bsz, fun b o e hb => ?_, fun b hb => ?_, I.ok.funs, I.ok.frf⟩, I.os, I.bare,
    ⟨fun b o e n h1 h2 => ?_, fun b o e n h1 h2 => ?_, fun b o e n h2 => ?_, fun b o e h2 => ?_, I.base.tups, I.base.frzs, I.base.tbls⟩, I.loc, I.cell, I.free, I.freeC, I.pin, I.hok, I.len⟩
  · rcases List.mem_append.mp hb with z | z
    · exact ⟨(f b z).2.1, (f b z).2.2.2.2.1⟩
    · exact I.ok.exf b z
  · rcases List.mem_append.mp hb with z | z
    · have q := (I.ok.bs b o e).1
      rw [(f b z).2.2.2.1] at q
      cases q
    · exact I.ok.noex b o e z
  · rcases List.mem_append.mp hb with z | z
    · exact (f b z).2.2.1
    · exact I.ok.exfs b z
  · exact I.base.keep b o e n h1 fun z => h2 (List.mem_append.mpr (.inr z))
  · exact I.base.slot b o e n h1 fun z => h2 (List.mem_append.mpr (.inr z))
  · exact I.base.free b o e n fun z => h2 (List.mem_append.mpr (.inr z))
  · exact I.base.there b o e fun z => h2 (List.mem_append.mpr (.inr z))
/-- .. and have turned -/
theorem Inv.exLess {ch : List Addr} (ok : X.Ok) (f : ∀ b ∈ ch, X.s₀.heap.get? b = none) (I : Inv { X with ex := ch ++ X.ex } pins σ H s) : Inv X pins σ H s := by
  have no : ∀ (b : Addr) (o : Obj), X.s₀.heap.get? b = some o → b ∉ X.ex → b ∉ ch ++ X.ex := fun b o e hx z => by
    rcases List.mem_append.mp z with z | z
    · rw [f b z] at e
      cases e
    · exact hx z
  exact ⟨ok, I.os, I.bare, ⟨fun b o e n h1 h2 => I.base.keep b o e n h1 (no b o e h2), fun b o e n h1 h2 => I.base.slot b o e n h1 (no b o e h2), fun b o e n h2 => I.base.free b o e n (no b o e h2), fun b o e h2 => I.base.there b o e (no b o e h2), I.base.tups, I.base.frzs, I.base.tbls⟩,
    I.loc, I.cell, I.free, I.freeC, I.pin, I.hok, I.len⟩
theorem Inv.noted {g : Heap} (I : Inv X pins σ H s) (fa : ∀ b ∈ a :: ts, FpN X pins H b) (nk : Nk (frs X.stack) (a :: ts) s.heap g) : Inv X pins σ H { s with heap := g } := by
  have trk : ∀ c u, H c = some u → c ∉ frs X.stack ∧ c ∉ a :: ts := fun c u e => ⟨fun z => (by rw [I.stkFree c z] at e; cases e), fun z => (by rw [(fa c z).1] at e; cases e)⟩
  have hok : HOk X.prog X.w H g := fun b u e => (I.hok b u e).stay (fun c v hc q => by
    rcases hc with z | z
    · rw [z] at q ⊢
      exact nk.keep b v (trk b u e).1 (trk b u e).2 q
    · exact nk.keep c v (trk c _ z).1 (trk c _ z).2 q) (fun _ q => q) fun _ _ q => q
  have I1 := I.exMore fa
  refine Inv.exLess I.ok (fun b hb => (fa b hb).2.2.2.1) (I1.call (g' := s.gens) (t' := s.toks) (d' := s.drawn) (ch := a :: ts) ⟨fun b o e _ hb hx => nk.keep b o hb hx e, fun b o e _ hb hx => nk.slot b o hb hx e, fun _ _ _ n _ => n, fun b o e _ => nk.there b o e, fun _ _ q => q, fun _ _ _ q => q, fun _ ps q => ⟨#[], by rw [q]; simp⟩⟩ hok I.bare
    fun b hb => ⟨.inl (List.mem_append.mpr (.inl hb)), (fa b hb).2.1, (fa b hb).2.2.2.2.1, (fa b hb).2.2.2.2.2⟩)
/-- an own exception in flight, here -/
def FlyX (X : Cx) (pins : List (Addr × Obj)) (H : Hp) (s : Shared) (a C : Addr) : Prop := ∃ ts, (∀ b ∈ a :: ts, FpN X pins H b) ∧ Fly s.heap a (.ref C) ts
/-- what is wanted of own exceptions is enough for what the context wants -/
def Out (X : Cx) (EX : St → XK) : Prop := ∀ (pins : List (Addr × Obj)) (σ : St) (H : Hp) (s : Shared) (a C : Addr), Inv X pins σ H s → FlyX X pins H s a C → EX σ (.ref C) none H → X.xe (.ref a) s
end
/-- how an own exception lies behind a call -/
def CXR (P : Program) (w : World) : CXT := fun outer H s E e s' => ∃ a C H' T, e = .ref a ∧ s'.os = s.os ∧ AllBare s'.gens ∧ Un (frs outer) [] H H' s.heap s'.heap ∧ HOk P w H' s'.heap ∧ FlT s'.heap a (.ref C) T .none ∧
  s.heap.get? a = none ∧ s.heap.get? T = none ∧ H' a = none ∧ H' T = none ∧ E (.ref C) none H'
theorem Out.pass {X : Cx} {EX : St → XK} (o : Out X EX) (hx : X.ex = []) {pins : List (Addr × Obj)} {σ : St} {H : Hp} {s s' : Shared} {e : Value} (I : Inv X pins σ H s) (h : CXR X.prog X.w X.stack H s (EX σ) e s') : X.xe e s' := by
  obtain ⟨a, C, H', T, rfl, ho, hg, u, hok, fl, sa, sT, na, nT, q⟩ := h
  have I2 : Inv X pins σ H' s' := I.call' (ch := []) ho (u.mono (fun _ z => z) fun _ z => z) hok hg fun b hb => nomatch hb
  refine o pins σ H' s' a C I2 ⟨[T], fun b hb => ?_, rfl, fl⟩ q
  rcases List.mem_cons.mp hb with z | z
  · subst z
    exact I.fpN hx sa na
  · have z' : b = T := by simpa using z
    subst z'
    exact I.fpN hx sT nT
theorem passX {X : Cx} {P : Program} {w : World} : Passes (CXR P w) X E0 := by
  intro pins σ H s e s' I h
  obtain ⟨_, _, _, _, _, _, _, _, _, _, _, _, _, _, q⟩ := h
  exact q.elim
section
variable {P : Program} {w : World} {K : PySem.W.Frag} {mg : Str → Option Value} {base : Heap}
/-- an exception leaves the def -/
theorem out_def {N : List Str} {qual : Str} {scope : Scope} {f : Addr} {cd : Value} {A : Around} {outer : List Env} {s : Shared} {H : Hp} {E : XK} : Out (cxOf (CXR P w) P w K mg base N qual scope f cd A outer s H E) fun _ => E := by
  intro pins σ H' s' a C I fly e
  obtain ⟨ts, fa, r⟩ := fly
  show wpAny (model P w) (A.deeper (envOfC qual scope s.heap.objs.size f cd)) (leaving (envOfC qual scope s.heap.objs.size f cd) (.ref a)) _ _ s'
  unfold leaving
  refine wpAny_bind (fly_noted (L := s.heap.objs.size) I.ok.frames I.stack rfl r fun g U nk sz fl => ?_)
  have I2 := I.noted fa nk
  have old : ∀ b, b ∈ a :: ts → s.heap.get? b = none := fun b hb => (fa b hb).2.2.2.1
  exact ⟨a, C, H', U, rfl, I2.os, I2.bare, I2.base, I2.hok, fl, old a List.mem_cons_self, Heap.get?_none_of_le (Nat.le_trans I.sz sz), (fa a List.mem_cons_self).1, I.hok.fresh sz, e⟩
/-- THE RULE for a def that may raise -/
theorem Fun.okX {x qual : Str} {st : Stmt} {f : Addr} {fd : FuncData} {N ps : List Str} {k : Nat} {sp : Sp} (F : Fun K x qual st f fd) (S : FnScope N ps (defScope st)) (len : ∀ vs H Q E, sp vs H Q E → vs.length = ps.length)
    (hbody : ∀ (cdv : Value) (A : Around) (outer : List Env) (s : Shared) (H : Hp) (vs : List V) (Q : VK) (E : XK), Room k (A.deeper (envOfC qual (defScope st) s.heap.objs.size f cdv)) → sp vs H Q E →
      Out (cxOf (CXR P w) P w K mg base N qual (defScope st) f cdv A outer s H E) (fun _ => E) →
      ∃ t, QSs (cxOf (CXR P w) P w K mg base N qual (defScope st) f cdv A outer s H E) (defBody st) t ∧ t { nx := fun _ H' => Q .non H', rt := Q } (start N vs) H) : FnOk P w K mg base (CXR P w) (k + 1) f fd ps sp := by
  obtain ⟨oc, od, kV, doc, pm, an, cdv, ct, osl, rfl, lk, hcd⟩ := F.ex
  refine fn_of lk hcd S len fun A outer s H vs Q E hr hsp => ?_
  obtain ⟨t, h, q⟩ := hbody cdv A outer s H vs Q E hr hsp out_def
  exact ⟨t, h.u, q⟩
end
/-- a def of the text that may raise, to be called -/
inductive CalX (P : Program) (w : World) (K : PySem.W.Frag) (mg : Str → Option Value) (base : Heap) (k : Nat) (x : Str) (ps : List Str) (sp : Sp) : Prop where
  | mk {f : Addr} {fd : FuncData} (F : FnOk P w K mg base (CXR P w) k f fd ps sp) (hm : mg x = some (.ref f)) (hk : PySem.W.keepIn K (.ref f) = true) (hb : Binds K fd ps [])
/-- a call of a def that may raise: what is wanted of its exceptions may speak of the names -/
def tCallS (sp : Sp) (EX : St → XK) (t : TA) : TE := fun σ H Q => t σ H fun vs H1 => sp (vs ++ []) H1 Q (EX σ)
section
variable {X : Cx} {k : Nat} {ps : List Str} {sp : Sp} {x : Str} {p pos : Pos} {e : Expr} {es : List Expr} {t : TA} {EX : St → XK}
theorem run_X {f : Addr} {fd : FuncData} {pins : List (Addr × Obj)} {σ : St} {H : Hp} {s : Shared} {Q : VK} {us : List Value} {vs : List V} (F : FnOk X.prog X.w X.K X.mg X.base (CXR X.prog X.w) k f fd ps sp) (hr : Room k X.A) (hb : Binds X.K fd ps []) (o : Out X EX) (hx : X.ex = [])
    (I : Inv X pins σ H s) (r : Vals vs us) (h : sp (vs ++ []) H Q (EX σ)) : wpAny (model X.prog X.w) X.A (call (.ref f) us) (EP X pins σ Q) X.xe s := by
  have rr : Vals (vs ++ []) (us ++ []) := r.append .nil
  have ll : (us ++ []).length = ps.length := rr.length ▸ F.len _ _ _ _ h
  have run := F.run X.A X.stack s H ⟨us, []⟩ (us ++ []) (vs ++ []) Q (EX σ) hr I.env0 (hb s us I.kIn ll) rr h
  refine wpAny_call (codeAny_mono run fun
    | .error _, _, z => o.pass hx I z
    | .ok (.ret _), _, z => I.after z
    | .ok .next, _, z => z.elim
    | .ok .brk, _, z => z.elim
    | .ok .cont, _, z => z.elim)
theorem qe_calX (C : CalX X.prog X.w X.K X.mg X.base k x ps sp) (o : Out X EX) (hr : Room k X.A) (hg : Gl X x) (ha : QA X (e :: es) t) (hx : X.ex = [] := by rfl) (hp : (e :: es).all plainE = true := by rfl) (hdb : (x == ("__debug__" : Str)) = false := by decide) :
    QE X (.Call (.Name x p) (e :: es) [] pos) (tCallS sp EX t) := by
  cases C with
  | mk F hm hk hb =>
    refine ⟨fun pins s σ H Q I h => wpAny_Call_Name_kw (ld_glob I hg hm ?_ hdb)⟩
    exact PySem.W.callWith_K (h₀ := X.base) I.ok.mod.kin hk (thn (ha.u pos pins s σ H _ I h) fun us s1 ⟨vs, H1, I1, r, q⟩ => ⟨I1.kIn, run_X F hr hb o hx I1 r q⟩) (star_cons (all2 hp).1) (star_none (all2 hp).2)
/-- .. where it doesn't raise -/
theorem qe_calN (C : CalX X.prog X.w X.K X.mg X.base k x ps sp) (hr : Room k X.A) (hg : Gl X x) (ha : QA X (e :: es) t) (hp : (e :: es).all plainE = true := by rfl) (hdb : (x == ("__debug__" : Str)) = false := by decide) :
    QE X (.Call (.Name x p) (e :: es) [] pos) (tCall sp [] E0 t) := by
  cases C with
  | mk F hm hk hb => exact ⟨pe_call F hr hg hm hk hb .nil passX ha.u hdb (star_cons (all2 hp).1) (star_none (all2 hp).2)⟩
end
/-! ### raise -/
abbrev bmV : List Value := [.type "ValueError", .type "Exception", .type "BaseException", .type "object"]
abbrev OwnX (K : PySem.W.Frag) (C : Addr) : Prop := PySem.W.excIn K C bmV "ValueError.__new__" = true
theorem own_facts {K : PySem.W.Frag} {h : Heap} {C : Addr} (X : K.In h) (q : OwnX K C) : ∃ bm N nm qn bs hdct sn sub ab col dd k0 k1 k2 k3 k5 mN,
    h.get? C = some (excClassObj nm qn C N bs bm hdct sn sub ab col dd k0 k1 k2 k3 k5 "ValueError.__new__") ∧ h.Ns N mN ∧ mN "__init__" = none ∧ OwnTail h bmV bm := by
  unfold OwnX PySem.W.excIn at q
  split at q
  · rename_i dct cld slt look
    split at q
    · rename_i C1 rest j0 j1 j2 j3 nw j5 em es
      simp only [Bool.and_eq_true, beq_iff_eq, Bool.not_eq_true'] at q
      obtain ⟨⟨⟨⟨⟨c1, c2⟩, c3⟩, c4⟩, c5⟩, c6⟩ := q
      subst c1 c2
      cases cld with
      | mk nm bs mro ns qn hd sn sub ab col del =>
        obtain ⟨l⟩ := slt
        dsimp only at em es c3 c5 c6
        subst em c3 es
        exact ⟨rest, ns, nm, qn, bs, hd, sn, sub, ab, col, dct, j0, j1, j2, j3, j5, _, X _ _ look, .of_isNs (PySem.W.isNs_of_in X c5), PySem.W.nsMap_none_of_in X c5 c6, PySem.W.tail_of_in X c4⟩
    · cases q
  · cases q
theorem ObjOk.here {P : Program} {w : World} {H : Hp} {h : Heap} {a : Addr} {o : HO} (x : ObjOk P w H h a o) : ∃ ob, h.get? a = some ob := by
  cases o with
  | lst xs => obtain ⟨_, _, _, _, e⟩ := x; exact ⟨_, e⟩
  | tup xs => obtain ⟨_, _, _, p⟩ := x; obtain ⟨ob, e, _⟩ := p; exact ⟨ob, e⟩
  | dK kvs => obtain ⟨_, _, _, _, ob, _, _, e, _⟩ := x; exact ⟨_, e⟩
  | dT kvs => obtain ⟨_, _, _, _, ob, _, _, e, _⟩ := x; exact ⟨_, e⟩
  | set S n => obtain ⟨ob, _, _, _, e, _⟩ := x; exact ⟨_, e⟩
  | ins C dx fs => obtain ⟨_, _, _, e, _⟩ := x; exact ⟨_, e⟩
  | own y => exact x
  | xd fs => obtain ⟨_, ⟨_, _, _, e, _⟩, _⟩ := x; exact ⟨_, e⟩
  | met f y => exact ⟨_, x⟩
  | rng lo hi => obtain ⟨_, _, _, e⟩ := x; exact ⟨_, e⟩
  | frz ob u => exact ⟨_, x.1⟩
  | tbl ps => exact ⟨_, x⟩
  | ext φ => exact x.2.1
section
variable {X : Cx} {pins : List (Addr × Obj)} {σ : St} {H : Hp} {s : Shared}
/-- things are made that nothing tracks -/
theorem Inv.grown {h' : Heap} (I : Inv X pins σ H s) (k : ∀ b o, s.heap.get? b = some o → h'.get? b = some o) : Inv X pins σ H { s with heap := h' } := by
  refine I.call (g' := s.gens) (t' := s.toks) (d' := s.drawn) (ch := []) ⟨fun b o e _ _ _ => k b o e, fun b o e _ _ _ => ⟨o.slots, k b o e⟩, fun _ _ _ n _ => n, fun b o e _ => ⟨o, k b o e⟩, fun _ _ q => q, fun _ _ _ q => q, fun _ ps q => ⟨#[], by rw [q]; simp⟩⟩
    (fun b u e => (I.hok b u e).stay (fun c v _ q => k c v q) (fun _ q => q) fun _ _ q => q) I.bare fun b hb => nomatch hb
/-- raise C(..) of an own class under ValueError -/
def tRaise (C : Addr) (EX : St → XK) (t : TA) : TS := fun _ σ H => t σ H fun vs H1 => vs.length ≤ sizeLine ∧ EX σ (.ref C) none H1
theorem qs_raise {x : Str} {C : Addr} {EX : St → XK} {np cpos pos : Pos} {e : Expr} {es : List Expr} {t : TA} (q : OwnX X.K C) (hm : X.mg x = some (.ref C)) (hg : Gl X x) (hc : X.calm = true) (o : Out X EX) (ha : QA X (e :: es) t)
    (hx : X.ex = [] := by rfl) (hp : (e :: es).all plainE = true := by rfl) (hdb : (x == ("__debug__" : Str)) = false := by decide) :
    QS X (.Raise (some (.Call (.Name x np) (e :: es) [] cpos)) none pos) (tRaise C EX t) := by
  refine ⟨fun pins s σ H D I h => ?_⟩
  obtain ⟨bm, N, nm, qn, bs, hdct, sn, sub, ab, col, dd, k0, k1, k2, k3, k5, mN, hC, hN, hni, T⟩ := own_facts I.ok.mod.kin q
  have st : starEach (e :: es) X.env = (false, eval e X.env) :: starEach es X.env := star_cons (all2 hp).1
  have pl : (backTo cpos (starEach es X.env)).any (·.1) = false := star_none (all2 hp).2
  refine wpAny_Raise_call_subU (C := C) (nm := nm) (q := qn) (N := N) (bs := bs) (bm := bm) (hdct := hdct) (sn := sn) (sub := sub) (ab := ab) (col := col) (dd := dd) (k0 := k0) (k1 := k1) (k2 := k2) (k3 := k3) (k5 := k5)
    PySem.F.excBase_ValueError (by decide) PySem.F.excBase_ValueError (mN := mN) (T.hasType PySem.F.excBase_ValueError.hasBase) (I.ok.hd hc) (by rw [st]; show (false || (backTo cpos (starEach es X.env)).any (·.1)) = false; rw [pl]; rfl) hni (ld_glob I hg hm ⟨rfl, ?_⟩ hdb)
  have run := ha.u cpos pins s σ H _ I h
  rw [st] at run ⊢
  refine Calls.evalArgs_plain (thn run fun us s1 ⟨vs, H1, I1, r, hl, qx⟩ => ⟨rfl, by rw [← r.length]; exact hl, I1.bk _ _ hC, hN.keeps I1.bk, T.keeps I1.bk, fun h' a made => ?_⟩)
  obtain ⟨tt, h1, h2, h3⟩ := made.there
  have I2 := I1.grown made.keeps
  have na : H1 a = none := by
    cases z : H1 a with
    | none => rfl
    | some u =>
      obtain ⟨ob, eo⟩ := (I1.hok a u z).here
      rw [made.new] at eo
      cases eo
  exact o pins σ H1 _ a C I2 ⟨[], fun b hb => by
    have e : b = a := by simpa using hb
    subst e
    exact I1.fpN hx made.new na, ⟨_, _, h1, ⟨rfl, rfl⟩, rfl, rfl⟩⟩ qx
end
/-! ### try -/
/-- another wish, and what was pinned for good -/
abbrev Cx.tryB (X : Cx) (pn : List (Addr × Obj)) (E : Value → Shared → Prop) : Cx := { X with pn := pn, xe := E }
/-- a clause's suite: the exception is marked -/
abbrev Cx.hand (X : Cx) (e : Value) (pn : List (Addr × Obj)) (E : Value → Shared → Prop) : Cx := { X with A := X.A.mark (some e), calm := false, pn := pn, xe := E }
section
variable {X : Cx} {pins pins' : List (Addr × Obj)} {σ : St} {H : Hp} {s : Shared} {E : Value → Shared → Prop} {e : Value}
theorem Inv.tryB (I : Inv X pins σ H s) : Inv (X.tryB (X.pn ++ pins) E) [] σ H s :=
  ⟨⟨I.ok.mod, I.ok.kind, I.ok.glob, I.ok.blt, I.ok.above, I.ok.inj, I.ok.has, I.ok.cab, I.ok.hd, I.ok.frames, I.ok.stk, I.ok.exf, I.ok.bs, I.ok.bsz, I.ok.noex, I.ok.exfs, I.ok.funs, I.ok.frf⟩, I.os, I.bare, I.base, I.loc, I.cell, I.free, I.freeC,
    fun p hp => I.pin p (by simpa using hp), I.hok, I.len⟩
theorem Inv.untryB (I : Inv (X.tryB (X.pn ++ pins) E) pins' σ H s) : Inv X pins σ H s :=
  ⟨⟨I.ok.mod, I.ok.kind, I.ok.glob, I.ok.blt, I.ok.above, I.ok.inj, I.ok.has, I.ok.cab, I.ok.hd, I.ok.frames, I.ok.stk, I.ok.exf, I.ok.bs, I.ok.bsz, I.ok.noex, I.ok.exfs, I.ok.funs, I.ok.frf⟩, I.os, I.bare, I.base, I.loc, I.cell, I.free, I.freeC,
    fun p hp => I.pin p (List.mem_append.mpr (.inl hp)), I.hok, I.len⟩
theorem Inv.hand (I : Inv X pins σ H s) : Inv (X.hand e (X.pn ++ pins) E) [] σ H s :=
  ⟨⟨I.ok.mod, I.ok.kind, I.ok.glob, I.ok.blt, I.ok.above, I.ok.inj, I.ok.has, I.ok.cab, (fun z => nomatch z), I.ok.frames, I.ok.stk, I.ok.exf, I.ok.bs, I.ok.bsz, I.ok.noex, I.ok.exfs, I.ok.funs, I.ok.frf⟩, I.os, I.bare, I.base, I.loc, I.cell, I.free, I.freeC,
    fun p hp => I.pin p (by simpa using hp), I.hok, I.len⟩
theorem Inv.unhand (ok : X.Ok) (I : Inv (X.hand e (X.pn ++ pins) E) pins' σ H s) : Inv X pins σ H s :=
  ⟨ok, I.os, I.bare, I.base, I.loc, I.cell, I.free, I.freeC, fun p hp => I.pin p (List.mem_append.mpr (.inl hp)), I.hok, I.len⟩
theorem SP.untryB {D : Ends} {f : Flow} (h : SP (X.tryB (X.pn ++ pins) E) pins' D f s) : SP X pins D f s := by
  cases f with
  | next => obtain ⟨_, _, I, q⟩ := h; exact ⟨_, _, I.untryB, q⟩
  | brk => obtain ⟨_, _, I, q⟩ := h; exact ⟨_, _, I.untryB, q⟩
  | cont => obtain ⟨_, _, I, q⟩ := h; exact ⟨_, _, I.untryB, q⟩
  | ret u => obtain ⟨_, _, _, I, r, q⟩ := h; exact ⟨_, _, _, I.untryB, r, q⟩
theorem SP.unhand {D : Ends} {f : Flow} (ok : X.Ok) (h : SP (X.hand e (X.pn ++ pins) E) pins' D f s) : SP X pins D f s := by
  cases f with
  | next => obtain ⟨_, _, I, q⟩ := h; exact ⟨_, _, I.unhand ok, q⟩
  | brk => obtain ⟨_, _, I, q⟩ := h; exact ⟨_, _, I.unhand ok, q⟩
  | cont => obtain ⟨_, _, I, q⟩ := h; exact ⟨_, _, I.unhand ok, q⟩
  | ret u => obtain ⟨_, _, _, I, r, q⟩ := h; exact ⟨_, _, _, I.unhand ok, r, q⟩
end
/-- what the clauses do with an exception of a class -/
abbrev TH := Value → TS
/-- the clauses, from the first on: the exception at a, noted, its newest entry at U -/
def PH (X : Cx) (hs : List ExceptHandler) (th : TH) : Prop :=
  ∀ (pins : List (Addr × Obj)) (s : Shared) (σ : St) (H : Hp) (D : Ends) (a C U : Addr), Inv X pins σ H s → FlT s.heap a (.ref C) U .none → FpN X pins H a → FpN X pins H U → th (.ref C) D σ H →
    wpAny (model X.prog X.w) X.A (handleBy (.ref a) X.env hs) (SP X pins D) X.xe s
structure QH (X : Cx) (hs : List ExceptHandler) (th : TH) : Prop where
  u : PH X hs th
def thNil : TH := fun _ _ _ _ => False
def thCons (K : PySem.W.Frag) (c : Value) (t : TS) (th : TH) : TH := fun C D σ H => ∃ b, PySem.W.exmOne K C c = some b ∧ if b = true then t D σ H else th C D σ H
def tTry (tb : (St → XK) → TS) (th : TH) : TS := fun D σ H => tb (fun σ' C _ H' => th C D σ' H') D σ H
section
variable {X : Cx} {x : Str} {c : Value} {t : TS} {th : TH} {np pos : Pos} {b0 : Stmt} {suite body : List Stmt} {rest : List ExceptHandler}
theorem qh_nil : QH X [] thNil := ⟨fun _ _ _ _ _ _ _ _ _ _ _ _ h => h.elim⟩
theorem qh_cons (hm : X.mg x = some c) (hg : Gl X x) (hs : ∀ e pn E, QSs (X.hand e pn E) (b0 :: suite) t) (hr : QH X rest th) (hdb : (x == ("__debug__" : Str)) = false := by decide) :
    QH X (.ExceptHandler (some (.Name x np)) none (b0 :: suite) pos :: rest) (thCons X.K c t th) := by
  refine ⟨fun pins s σ H D a C U I fl fa fu ⟨b, hx, q⟩ => ?_⟩
  obtain ⟨oa, ha, hc⟩ := fl.there
  have IH : ∀ E, Inv (X.hand (.ref a) (X.pn ++ pins) E) [] σ H s := fun E => I.hand
  refine wpAny_handleBy_cons (codeAny_handlers_test (ld_glob (X := X.hand (.ref a) (X.pn ++ pins) X.xe) (IH _) hg hm ?_ hdb)) (by intro z; cases z)
  have LT : PySem.W.Looks (model X.prog X.w) s.heap (typeOf (.ref a)) (.ref C) := by
    rw [← hc]
    exact (PySem.W.Looks.ld ha).andThen .now
  refine (PySem.W.exm_one I.kIn LT hx).here ?_
  cases b with
  | false =>
    exact hr.u pins s σ H D a C U I fl fa fu q
  | true =>
    refine codeAny_handlers_suite (flight_none fl fun g nk fl2 _ => ?_)
    have I2 : Inv X pins σ H { s with heap := g } := I.noted (a := U) (ts := []) (fun b hb => by
      have e : b = U := by simpa using hb
      rw [e]
      exact fu) ⟨fun b o _ h2 e => nk.keep b o (by simp) h2 e, fun b o _ h2 e => ⟨o.slots, nk.keep b o (by simp) h2 e⟩, nk.there⟩
    refine thn ((hs (.ref a) (X.pn ++ pins) _).u [] _ σ H D I2.hand q) fun f s2 z => ?_
    exact z.unhand I.ok
theorem qs_try {tb : (St → XK) → TS} {h0 : ExceptHandler} (hb : ∀ pn E EX, PassesOwn (model X.prog X.w) X.A X.env E → Out (X.tryB pn E) EX → QSs (X.tryB pn E) body (tb EX)) (hh : QH X (h0 :: rest) th) (hst : X.stack = X.env :: X.outer := by rfl) (hfr : X.env.frame = some X.env.locals := by rfl) (hx : X.ex = [] := by rfl) :
    QS X (.Try body (h0 :: rest) [] [] pos) (tTry tb th) := by
  refine ⟨fun pins s σ H D I h => wpAny_Try_except ?_⟩
  refine wpAny_mono ((hb (X.pn ++ pins) _ _ PassesOwn.looking ?_).u [] s σ H D I.tryB h) (fun f s2 z => ?_) fun _ _ z => z
  · intro pins1 σ1 H1 s1 a C I1 ⟨ts, fa, r⟩ q
    have I2 : Inv X pins σ1 H1 s1 := I1.untryB
    have fa2 : ∀ b ∈ a :: ts, FpN X pins H1 b := fun b hb => ⟨(fa b hb).1, (fa b hb).2.1, (fa b hb).2.2.1, (fa b hb).2.2.2.1, (fa b hb).2.2.2.2.1, fun p hp => (fa b hb).2.2.2.2.2 p (List.mem_append.mpr (.inl hp))⟩
    refine fly_noted (L := X.env.locals) (by rw [← hst]; exact I2.ok.frames) (by rw [← hst]; exact I2.stack) hfr r fun g U nk sz fl => ?_
    rw [← hst] at nk
    have I3 := I2.noted fa2 nk
    refine hh.u pins _ σ1 H1 D a C U I3 fl (fa2 a List.mem_cons_self) ?_ q
    exact I2.fpN hx (Heap.get?_none_of_le sz) (I2.hok.fresh sz)
  · cases f with
    | next => exact wpAny_execs_nil z.untryB
    | brk => exact z.untryB
    | cont => exact z.untryB
    | ret u => exact z.untryB
end
/-! ### except .. as -/
/-- nothing is known of the names -/
def wipe (σ : St) : St := List.replicate σ.length none
def Ends.wiped (D : Ends) : Ends := { nx := fun σ H => D.nx (wipe σ) H, rt := D.rt, bk := fun σ H => D.bk (wipe σ) H, ct := fun σ H => D.ct (wipe σ) H }
theorem wipe_none {σ : St} {j : Nat} {v : V} (e : (wipe σ)[j]? = some (some v)) : False := by
  unfold wipe at e
  obtain ⟨h, e⟩ := List.getElem?_eq_some_iff.mp e
  rw [List.getElem_replicate] at e
  cases e
/-- a thing of an own exception class -/
def excO (a C : Addr) : HO := .ext fun h => ∃ o, h.get? a = some o ∧ (o.cls = .ref C ∧ o.dict = none) ∧ PySem.W.notCls o = true
section
variable {X : Cx} {pins : List (Addr × Obj)} {σ : St} {H : Hp} {s : Shared} {a C : Addr}
theorem name_goes {M : Model} {A : Around} {E : Value → Shared → Prop} {n : Str} {pos : Pos} {Q : Unit → Shared → Prop} (I : Inv X pins σ H s) (hk : X.env.scope.names.lookup n = some .local) (h : ∀ s', Inv X pins (wipe σ) H s' → Q () s') :
    wpAny M A (do bindName X.env n .none; unbindBehindTheSuite X.env n pos) Q E s := by
  obtain ⟨m, hn, _⟩ := id I.loc
  obtain ⟨oL, _, _, hoL, _⟩ := id hn
  refine wpAny_nameGoes hk hn (by rw [I.ok.kind]; rfl) fun h' m' hn' same => h _ ?_
  have low : ∀ (b : Addr) (o : Obj), X.s₀.heap.get? b = some o → h'.get? b = s.heap.get? b := fun b o e => same.2 b (Nat.ne_of_lt (Nat.lt_of_lt_of_le (Heap.lt_size e) I.ok.above))
  have hok : HOk X.prog X.w H h' := fun b ob e => by
    refine (I.hok b ob e).stay (fun c u hc q => (same.2 c fun z => ?_).trans q) (fun _ q => q) fun _ _ q => q
    rw [z] at hc
    rcases hc with hc | hc
    · rw [← hc, I.free] at e
      cases e
    · rw [I.free] at hc
      cases hc
  refine ⟨I.ok, I.os, I.bare, ⟨fun b o e n h1 h2 => (low b o e).trans (I.base.keep b o e n h1 h2), fun b o e n h1 h2 => ?_, I.base.free, fun b o e h2 => ?_, I.base.tups, I.base.frzs, I.base.tbls⟩, ⟨m', hn', fun j y v e1 e2 _ => (wipe_none e2).elim⟩,
    fun x c e => ?_, I.free, I.freeC, fun p hp => ?_, hok, ?_⟩
  · obtain ⟨sl, z⟩ := I.base.slot b o e n h1 h2
    exact ⟨sl, (low b o e).trans z⟩
  · obtain ⟨o', z⟩ := I.base.there b o e h2
    exact ⟨o', (low b o e).trans z⟩
  · obtain ⟨v, z⟩ := I.cell x c e
    exact ⟨v, z.sameBut same (I.cne x c e)⟩
  · obtain ⟨e, n, ne, nf, d⟩ := I.pin p hp
    exact ⟨(same.2 p.1 ne).trans e, n, ne, nf, d⟩
  · show (List.replicate σ.length none).length = _
    rw [List.length_replicate]
    exact I.len
/-- the exception becomes a thing that is known -/
theorem Inv.exc {o : Obj} (I : Inv X pins σ H s) (fa : FpN X pins H a) (e : s.heap.get? a = some o) (hc : o.cls = .ref C ∧ o.dict = none) (hd : PySem.W.notCls o = true) : Inv X pins σ (upd H a (excO a C)) s := by
  have fl : ∀ b ∈ [a], FpN X pins H b := fun b hb => by
    have z : b = a := by simpa using hb
    rw [z]
    exact fa
  have other : ∀ {b : Addr} {u : HO}, H b = some u → b ≠ a := fun {b u} q z => by rw [z, fa.1] at q; cases q
  have hok : HOk X.prog X.w (upd H a (excO a C)) s.heap := fun b u q => by
    by_cases hb : b = a
    · subst hb
      rw [upd_same] at q
      cases q
      exact ⟨⟨o, e, hc, hd⟩, ⟨o, e⟩, fun h1 h2 ⟨o1, y1, y2⟩ k => ⟨o1, k o1 y1, y2⟩⟩
    · rw [upd_ne hb] at q
      exact (I.hok b u q).stay (fun _ _ _ z => z) (fun c z => by rw [upd_ne (other z)]; exact z) fun c xs z => by rw [upd_ne (other z)]; exact z
  refine Inv.exLess I.ok (fun b hb => (fl b hb).2.2.2.1) ((I.exMore fl).call (g' := s.gens) (t' := s.toks) (d' := s.drawn) (h' := s.heap) (ch := [a]) ⟨fun b o e _ _ _ => e, fun b o e _ _ _ => ⟨o.slots, e⟩, fun b o _ n hx => ?_, fun b o e _ => ⟨o, e⟩, fun b xs q => ?_, fun b ob xs q => ?_, fun b ps q => ⟨#[], ?_⟩⟩ hok I.bare
    fun b hb => ⟨.inl (List.mem_append.mpr (.inl hb)), (fl b hb).2.1, (fl b hb).2.2.2.2.1, (fl b hb).2.2.2.2.2⟩)
  · rw [upd_ne (fun z => hx (by simp [z]))]
    exact n
  · rw [upd_ne (other q)]
    exact q
  · rw [upd_ne (other q)]
    exact q
  · rw [upd_ne (other q), q]
    simp
end
/-- a clause with a name: the exception under it, tracked; behind the suite the name is gone -/
def thAs (K : PySem.W.Frag) (c : Value) (i : Nat) (t : TS) (th : TH) : TH := fun C D σ H => ∃ b, PySem.W.exmOne K C c = some b ∧
  if b = true then ∀ (a Ca : Addr), C = .ref Ca → H a = none → t D.wiped (σ.set i (some (.ref a))) (upd H a (excO a Ca)) else th C D σ H
theorem SP.wiped {X : Cx} {pins : List (Addr × Obj)} {D : Ends} {f : Flow} {s : Shared} {M : Model} {A : Around} {E : Value → Shared → Prop} {n : Str} {pos : Pos} (hk : X.env.scope.names.lookup n = some .local) (h : SP X pins D.wiped f s) :
    wpAny M A (do bindName X.env n .none; unbindBehindTheSuite X.env n pos) (fun _ s' => SP X pins D f s') E s := by
  cases f with
  | next => obtain ⟨_, _, I, q⟩ := h; exact name_goes I hk fun s' I' => ⟨_, _, I', q⟩
  | brk => obtain ⟨_, _, I, q⟩ := h; exact name_goes I hk fun s' I' => ⟨_, _, I', q⟩
  | cont => obtain ⟨_, _, I, q⟩ := h; exact name_goes I hk fun s' I' => ⟨_, _, I', q⟩
  | ret u => obtain ⟨_, _, _, I, r, q⟩ := h; exact name_goes I hk fun s' I' => ⟨_, _, _, I', r, q⟩
section
variable {X : Cx} {x n : Str} {i : Nat} {c : Value} {t : TS} {th : TH} {np pos : Pos} {b0 : Stmt} {suite body : List Stmt} {rest : List ExceptHandler}
theorem qh_as (hN : X.N.Nodup) (hi : X.N[i]? = some n) (hl : X.env.scope.names.lookup n = some .local) (hm : X.mg x = some c) (hg : Gl X x) (hs : ∀ e pn E, QSs (X.hand e pn E) (b0 :: suite) t) (hr : QH X rest th) (hdb : (x == ("__debug__" : Str)) = false := by decide) :
    QH X (.ExceptHandler (some (.Name x np)) (some n) (b0 :: suite) pos :: rest) (thAs X.K c i t th) := by
  refine ⟨fun pins s σ H D a C U I fl fa fu ⟨b, hx, q⟩ => ?_⟩
  obtain ⟨oa, ha, hc⟩ := fl.there
  have IH : ∀ E, Inv (X.hand (.ref a) (X.pn ++ pins) E) [] σ H s := fun E => I.hand
  refine wpAny_handleBy_cons (codeAny_handlers_test (ld_glob (X := X.hand (.ref a) (X.pn ++ pins) X.xe) (IH _) hg hm ?_ hdb)) (by intro z; cases z)
  have LT : PySem.W.Looks (model X.prog X.w) s.heap (typeOf (.ref a)) (.ref C) := by
    rw [← hc]
    exact (PySem.W.Looks.ld ha).andThen .now
  refine (PySem.W.exm_one I.kIn LT hx).here ?_
  cases b with
  | false =>
    exact hr.u pins s σ H D a C U I fl fa fu q
  | true =>
    refine codeAny_handlers_suite_as (flight_none fl fun g nk fl2 _ => ?_)
    have I2 : Inv X pins σ H { s with heap := g } := I.noted (a := U) (ts := []) (fun b hb => by
      have e : b = U := by simpa using hb
      rw [e]
      exact fu) ⟨fun b o _ h2 e => nk.keep b o (by simp) h2 e, fun b o _ h2 e => ⟨o.slots, nk.keep b o (by simp) h2 e⟩, nk.there⟩
    obtain ⟨ob, hb, hcb, hnb⟩ := fl2.thing
    have I3 := I2.exc fa hb hcb hnb
    refine store_ok I3 hN hi (.inl hl) (v := .ref a) rfl (fun s3 I4 => ?_) (.inr hl)
    refine thn ((hs (.ref a) (X.pn ++ pins) _).u [] _ _ _ D.wiped I4.hand (q a C rfl fa.1)) fun f s2 z => ?_
    exact SP.wiped hl (z.unhand I.ok)
end
open PySem.W
/-! ### isinstance of an exception -/
/-- what is asked of an own exception class -/
structure ExcK (K : Frag) (C : Addr) : Prop where
  ga : findIn K (.ref C) "__getattribute__" = some (some (.builtin "BaseException.__getattribute__"))
  gn : findIn K (.ref C) "__getattr__" = some none
  gc : findIn K (.ref C) "__class__" = some (some (.builtin "object.__class__"))
  mo : mroIn K C (.type "object") = some true
  mb : mroIn K C (.type "BaseException") = some true
  hd : hasDictIn K C = true
section
variable {prog : Program} {w : World} {A : Around} {E : Value → Shared → Prop} {h : Heap} {g : Array GenState} {d : Drawn} {t : Nat} {os : OsState} {K : Frag} {a C : Addr} {o : Obj}
theorem exc_check {M : Model} {nv : Value} {Q : Unit → Shared → Prop} (X : K.In h) (k : ExcK K C) (hx : h.get? a = some o) (hc : o.cls = .ref C) (q : Q () ⟨h, g, d, t, os⟩) :
    wpAny M A (checkBuiltinCall "BaseException.__getattribute__" ⟨[.ref a, nv], []⟩) Q E ⟨h, g, d, t, os⟩ := by
  have k1 : builtinKind "BaseException.__getattribute__" = some .slot := by decide +kernel
  have k2 : splitId "BaseException.__getattribute__" = some ("BaseException", "__getattribute__") := by decide +kernel
  have k3 := F.args_bexc_ga (.ref a) nv
  have LM := looks_mroIn (M := M) X k.mb
  simp only [checkBuiltinCall, k1, k2]
  refine wpAny_bind ?_
  unfold isInstance
  repeat (first | (with_reducible refine wpAny_loadPart_at hx ?_; rw [hc]) | with_reducible refine LM.at ?_ | wp_step)
  exact q
theorem exc_entry {tk : Tok} {Q : Fin → Shared → Prop} (X : K.In h) (k : ExcK K C) (hx : h.get? a = some o) (hc : o.cls = .ref C) (hn : notCls o = true) (hd : o.dict = none) (q : Q (.done (.ret (.ref C))) ⟨h, g, d, t, os⟩) :
    wpAny (model prog w) A (Builtin.«object.__getattribute__» ⟨[.ref a, .str "__class__" tk], []⟩) Q E ⟨h, g, d, t, os⟩ := by
  have hT5 : (⟨h, g, d, t, os⟩ : Shared).TypeIs (.builtin "object.__class__") "getset_descriptor" := F.typeOf_object_class
  have f5 := F.typeOf_object_class
  have f6 := F.slot_gs_get.lookup
  have f7 := F.slot_gs_set.lookup
  have L1 := looks_findIn (M := model prog w) X k.gc
  repeat (any_goals (first | assumption | (with_reducible refine wpAny_loadPart_at hx ?_; rw [hc]) | with_reducible refine L1.at ?_ | wp_step))
  refine class_get (s := ⟨h, g, d, t, os⟩) (ox := o) (od := none) X ⟨hx, hc, hn, by rw [hd]; trivial⟩ k.mo ?_
  repeat (any_goals (first | assumption | wp_step))
theorem exc_by {tk : Tok} {Q : Value → Shared → Prop} (X : K.In h) (k : ExcK K C) (hx : h.get? a = some o) (hc : o.cls = .ref C) (hn : notCls o = true) (hd : o.dict = none) (q : Q (.ref C) ⟨h, g, d, t, os⟩) :
    wpAny (model prog w) A (getAttrBy (.ref a) (.str "__class__" tk) false) Q E ⟨h, g, d, t, os⟩ := by
  have L1 := looks_findIn (M := model prog w) X k.ga
  have L2 := looks_findIn (M := model prog w) X k.gn
  have f3 := F.attrBase_ValueError.ga.bind (.ref a)
  have e2 : (Value.builtin "BaseException.__getattribute__" == Value.builtin "object.__getattribute__") = false := by decide +kernel
  have e1 : (onTheHeap (Value.ref C) && Value.builtin "BaseException.__getattribute__" == Value.builtin "object.__getattribute__") = false := by rw [e2]; rfl
  repeat (any_goals (first | assumption | (with_reducible refine wpAny_loadPart_at hx ?_; rw [hc]) | with_reducible refine L1.at ?_ | with_reducible refine L2.at ?_ | wp_step))
  refine codeAny_call_builtin F.attrBase_ValueError.ga.plain F.entry_bexc_ga (exc_check X k hx hc (exc_entry X k hx hc hn hd ?_))
  repeat (any_goals (first | assumption | wp_step))
theorem exc_class {Q : Option Value → Shared → Prop} (X : K.In h) (k : ExcK K C) (hx : h.get? a = some o) (hc : o.cls = .ref C) (hn : notCls o = true) (hd : o.dict = none) (q : Q (some (.ref C)) ⟨h, g, d, t + 1, os⟩) :
    wpAny (model prog w) A (getAttr? (.ref a) "__class__") Q E ⟨h, g, d, t, os⟩ := by
  unfold getAttr? getAttrBy?
  repeat (any_goals (first | assumption | with_reducible apply exc_by X k hx hc hn hd | wp_step))
end
theorem cls_of {K : Frag} {C : Addr} (k : hasDictIn K C = true) : ∃ c d cd sl, K.lookup C = some ⟨c, d, .cls cd, sl⟩ := by
  obtain ⟨cd, e, _⟩ := any_some k
  unfold clsIn at e
  split at e
  · rename_i look
    exact ⟨_, _, _, _, look⟩
  · cases e
theorem kitx_exc {K : Frag} {a C : Addr} (k : ExcK K C) : KitX K (.ref a) (.ref C) (fun h => ∃ o, h.get? a = some o ∧ (o.cls = .ref C ∧ o.dict = none) ∧ notCls o = true) where
  ty := fun M h _ ⟨o, e, c, _⟩ => c.1 ▸ (Looks.ld e).andThen .now
  it := fun M h X _ => by
    obtain ⟨c, d, cd, sl, look⟩ := cls_of k.hd
    intro A Q E s kk q
    unfold isType loadHead
    exact wpAny_bind (wpAny_loadPart (kk _ _ (X _ _ look)) (wpAny_pure q))
  ne := fun h tp dd its n sl X e => by
    obtain ⟨c, d, cd, sl', look⟩ := cls_of k.hd
    refine Bool.eq_false_iff.mpr fun q => ?_
    have z : C = tp := Value.ref.inj (beq_iff_eq.mp q)
    subst z
    have y := (X _ _ look).symm.trans e
    cases y
  ca := fun {prog w A E Q s} X ⟨o, e, c, n⟩ q => by
    obtain ⟨h, g, d, t, os⟩ := s
    exact exc_class X k e c.1 n c.2 q
section
variable {X : Cx}
/-- isinstance(e, c): an own class or a built-in one -/
theorem call_isinstX : CallR X (.builtin "isinstance") (fun xs H Q => ∃ a C x c b, xs = [.ref a, x] ∧ H a = some (excO a C) ∧ ExcK X.K C ∧ (∀ u, RelV x u → u = c) ∧ kitOne X.K (.ref C) c = some b ∧ Q (.bl b) H) := by
  intro pins s σ H xs us Q I r h
  obtain ⟨a, C, x, c, b, rfl, ea, k, hc, e, q⟩ := h
  obtain ⟨u, v, rfl, ru, rv⟩ := vals2 r
  cases (show u = Value.ref a from ru)
  cases hc v rv
  obtain ⟨p, _, _⟩ := (show ObjOk X.prog X.w H s.heap a (excO a C) from I.hok a _ ea)
  exact kia_one (kitx_exc k) I.kIn p e (fun z => nomatch z) fun tk => ⟨.bl b, H, I.tok tk, rfl, q⟩
/-- isinstance(e, (c, ..)) -/
theorem call_isinstXs : CallR X (.builtin "isinstance") (fun xs H Q => ∃ a C tp vs cs b, xs = [.ref a, .ref tp] ∧ H a = some (excO a C) ∧ H tp = some (.tup vs) ∧ ExcK X.K C ∧ (∀ us, Vals vs us → us = cs) ∧ kitAny X.K (.ref C) cs = some b ∧ Q (.bl b) H) := by
  intro pins s σ H xs us Q I r h
  obtain ⟨a, C, tp, vs, cs, b, rfl, ea, et, k, hc, e, q⟩ := h
  obtain ⟨u, v, rfl, ru, rv⟩ := vals2 r
  cases (show u = Value.ref a from ru)
  cases (show v = Value.ref tp from rv)
  obtain ⟨p, _, _⟩ := (show ObjOk X.prog X.w H s.heap a (excO a C) from I.hok a _ ea)
  obtain ⟨_, its, rt, ob, hb, hcl, n, hdat⟩ := (show ObjOk X.prog X.w H s.heap tp (.tup vs) from I.hok tp _ et)
  cases hc its rt
  obtain ⟨oc, od, oda, osl⟩ := ob
  dsimp only at hcl hdat
  subst hcl hdat
  exact kia_tup (kitx_exc k) I.kIn p hb e (fun z => nomatch z) fun tk => ⟨.bl b, H, I.tok tk, rfl, q⟩
end
/-! ### defs that may be called while an exception is handled -/
structure RoomH (k : Nat) (A : Around) : Prop where
  dp : A.depth + 3 * k + 5 < recursionLimit
  un : A.units + 16 * k + 200 < cLine
theorem Room.h {k : Nat} {A : Around} (r : Room k A) : RoomH k A := ⟨r.dp, r.un⟩
theorem RoomH.room {k : Nat} {A : Around} (r : RoomH k A) : Room k { A with handled := none } := ⟨rfl, r.dp, r.un⟩
theorem RoomH.mono {j k : Nat} {A : Around} (r : RoomH k A) (h : j ≤ k) : RoomH j A := ⟨(r.room.mono h).dp, (r.room.mono h).un⟩
theorem RoomH.deeper {k : Nat} {A : Around} (r : RoomH (k + 1) A) (env : Env) : RoomH k (A.deeper env) := ⟨(r.room.deeper env).dp, (r.room.deeper env).un⟩
structure FnOkH (P : Program) (w : World) (K : Frag) (mg : Str → Option Value) (base : Heap) (CX : CXT) (k : Nat) (f : Addr) (fd : FuncData) (ps : List Str) (sp : Sp) : Prop where
  len : ∀ vs H Q E, sp vs H Q E → vs.length = ps.length
  run : ∀ (A : Around) (outer : List Env) (s : Shared) (H : Hp) (args : Args) (us : List Value) (vs : List V) (Q : VK) (E : XK), RoomH k A → Env0 P w K mg base A outer s H → BindsTo s fd args (ps.zip us) → Vals vs us → sp vs H Q E →
    codeAny (model P w) A (.call (.ref f) args) (CR CX outer P w H s Q E) s
section
variable {P : Program} {w : World} {K : Frag} {mg : Str → Option Value} {base : Heap} {CX : CXT} {k : Nat} {f : Addr}
theorem FnOkH.ok {fd : FuncData} {ps : List Str} {sp : Sp} (F : FnOkH P w K mg base CX k f fd ps sp) : FnOk P w K mg base CX k f fd ps sp := ⟨F.len, fun A outer s H args us vs Q E hr => F.run A outer s H args us vs Q E hr.h⟩
/-- a body's context, whatever is handled -/
def cxHd (CX : CXT) (P : Program) (w : World) (K : Frag) (mg : Str → Option Value) (base : Heap) (N : List Str) (qual : Str) (scope : Scope) (f : Addr) (cd : Value) (A : Around) (outer : List Env) (s : Shared) (H : Hp) (E : XK) : Cx :=
  { cxOf CX P w K mg base N qual scope f cd A outer s H E with calm := false }
theorem inv_startH {N ps : List Str} {qual : Str} {scope : Scope} {cd : Value} {A : Around} {outer : List Env} {s s1 : Shared} {H : Hp} {E : XK} {us : List Value} {vs : List V} (S : FnScope N ps scope) (e0 : Env0 P w K mg base A outer s H) (hl : vs.length = ps.length) (r : Vals vs us)
    (x : InCallC s s.heap.objs.size (bindL (envOfC qual scope s.heap.objs.size f cd).kindOf (ps.zip us) fun _ => none) (cellsFrom (s.heap.objs.size + 1) scope.names []) (bindC (envOfC qual scope s.heap.objs.size f cd).kindOf (ps.zip us) fun _ => none) s1) :
    Inv (cxHd CX P w K mg base N qual scope f cd A outer s H E) [] (start N vs) H s1 := by
  have e1 : Env0 P w K mg base { A with handled := none } outer s H := ⟨e0.frames, e0.mod, e0.bs, e0.bsz, e0.funs, e0.frf, e0.hok, e0.bare⟩
  have I : Inv (cxOf CX P w K mg base N qual scope f cd { A with handled := none } outer s H E) [] (start N vs) H s1 := inv_start S rfl e1 hl r x
  have o := I.ok
  exact ⟨⟨o.mod, o.kind, o.glob, o.blt, o.above, o.inj, o.has, o.cab, (fun z => nomatch z), Around.frames_deeper e0.frames, o.stk, o.exf, o.bs, o.bsz, o.noex, o.exfs, o.funs, o.frf⟩, I.os, I.bare, I.base, I.loc, I.cell, I.free, I.freeC, I.pin, I.hok, I.len⟩
theorem fn_ofH {name qual : Str} {params : Arguments} {body : List Stmt} {scope : Scope} {dV kV doc pm cdv ct oc : Value} {an od : Option Addr} {osl : Array (Option Value)} {N ps : List Str} {sp : Sp}
    (look : K.lookup f = some ⟨oc, od, .func (fnOf name qual params body scope dV kV doc pm an cdv ct), osl⟩) (code : codeIn K cdv qual = true) (S : FnScope N ps scope) (len : ∀ vs H Q E, sp vs H Q E → vs.length = ps.length)
    (hbody : ∀ (A : Around) (outer : List Env) (s : Shared) (H : Hp) (vs : List V) (Q : VK) (E : XK), RoomH k (A.deeper (envOfC qual scope s.heap.objs.size f cdv)) → sp vs H Q E →
      ∃ t, PSs (cxHd CX P w K mg base N qual scope f cdv A outer s H E) body t ∧ t { nx := fun _ H' => Q .non H', rt := Q } (start N vs) H) :
    FnOkH P w K mg base CX (k + 1) f (fnOf name qual params body scope dV kV doc pm an cdv ct) ps sp := by
  refine ⟨len, fun A outer s H args us vs Q E room e0 bnd rel want => ?_⟩
  have low : ∀ b o, base.get? b = some o → s.heap.get? b = some o := fun b o e => (e0.bs b o e).1
  have KX : K.In s.heap := e0.mod.kin.keeps low
  have kinds : ∀ y ∈ ps.zip us, scope.names.lookup y.1 = some .local ∨ (scope.names.lookup y.1 = some .cell ∧ ((cellsFrom (s.heap.objs.size + 1) scope.names []).lookup y.1).isSome = true) := fun y hy =>
    (S.par y.1 (List.of_mem_zip (a := y.1) (b := y.2) hy).1).imp id fun c => ⟨c, cellsFrom_some _ _ _ (.inl c)⟩
  refine codeAny_call_function room.room.depth (KX _ _ look) rfl S.co S.gen rfl (codeRec_of KX code) (bnd _ _ _ _ ?_)
  refine wpAny_newFunctionEnv_cells S.kind kinds fun env he s1 x => ?_
  subst he
  refine ⟨(e0.mod.nolimit.keeps low).keeps x.toInCall.keep, codeAny_func ?_⟩
  obtain ⟨t, ht, q⟩ := hbody A outer s H vs Q E (room.deeper _) want
  refine wpAny_mono (ht [] s1 (start N vs) H _ (inv_startH S e0 (len _ _ _ _ want) rel x) q) (fun fl s' z => ?_) fun _ _ z => z
  match fl, z with
  | .ret u, ⟨v, σ', H', J, rv, q⟩ => exact ⟨v, H', J.os, J.bare, J.base, J.hok, rv, q⟩
  | .next, ⟨σ', H', J, q⟩ => exact ⟨V.non, H', J.os, J.bare, J.base, J.hok, rfl, q⟩
  | .brk, ⟨_, _, _, q⟩ => exact q.elim
  | .cont, ⟨_, _, _, q⟩ => exact q.elim
theorem Fun.okH {x qual : Str} {st : Stmt} {fd : FuncData} {N ps : List Str} {sp : Sp} (F : Fun K x qual st f fd) (S : FnScope N ps (defScope st)) (len : ∀ vs H Q E, sp vs H Q E → vs.length = ps.length)
    (hbody : ∀ (cdv : Value) (A : Around) (outer : List Env) (s : Shared) (H : Hp) (vs : List V) (Q : VK) (E : XK), RoomH k (A.deeper (envOfC qual (defScope st) s.heap.objs.size f cdv)) → sp vs H Q E →
      ∃ t, QSs (cxHd CX0 P w K mg base N qual (defScope st) f cdv A outer s H E) (defBody st) t ∧ t { nx := fun _ H' => Q .non H', rt := Q } (start N vs) H) : FnOkH P w K mg base CX0 (k + 1) f fd ps sp := by
  obtain ⟨oc, od, kV, doc, pm, an, cdv, ct, osl, rfl, look, code⟩ := F.ex
  refine fn_ofH look code S len fun A outer s H vs Q E room want => ?_
  obtain ⟨t, h, q⟩ := hbody cdv A outer s H vs Q E room want
  exact ⟨t, h.u, q⟩
end
/-- a def to be called, also from a clause's suite -/
inductive CalH (P : Program) (w : World) (K : Frag) (mg : Str → Option Value) (base : Heap) (k : Nat) (x : Str) (ps : List Str) (sp : Sp) : Prop where
  | mk {f : Addr} {fd : FuncData} (F : FnOkH P w K mg base CX0 k f fd ps sp) (hm : mg x = some (.ref f)) (hk : keepIn K (.ref f) = true) (hb : Binds K fd ps [])
theorem CalH.cal {P : Program} {w : World} {K : Frag} {mg : Str → Option Value} {base : Heap} {k : Nat} {x : Str} {ps : List Str} {sp : Sp} (C : CalH P w K mg base k x ps sp) : Cal P w K mg base k x ps sp := by
  cases C with
  | mk F hm hk hb => exact .mk F.ok hm hk hb
section
variable {X : Cx} {k : Nat} {ps : List Str} {sp : Sp} {x : Str} {p pos : Pos} {e : Expr} {es : List Expr} {t : TA}
theorem qe_calH (C : CalH X.prog X.w X.K X.mg X.base k x ps sp) (hr : RoomH k X.A) (hg : Gl X x) (ha : QA X (e :: es) t) (hp : (e :: es).all plainE = true := by rfl) (hdb : (x == ("__debug__" : Str)) = false := by decide) :
    QE X (.Call (.Name x p) (e :: es) [] pos) (tCall sp [] E0 t) := by
  cases C with
  | mk F hm hk hb =>
    refine ⟨fun pins s σ H Q I h => wpAny_Call_Name_kw (ld_glob I hg hm ?_ hdb)⟩
    refine callWith_K (h₀ := X.base) I.ok.mod.kin hk (thn (ha.u pos pins s σ H _ I h) fun us s1 ⟨vs, H1, I1, r, q⟩ => ⟨I1.kIn, ?_⟩) (star_cons (all2 hp).1) (star_none (all2 hp).2)
    have rr : Vals (vs ++ []) (us ++ []) := r.append .nil
    have ll : (us ++ []).length = ps.length := rr.length ▸ F.len _ _ _ _ q
    refine wpAny_call (codeAny_mono (F.run X.A X.stack s1 H1 ⟨us, []⟩ (us ++ []) (vs ++ []) Q E0 hr I1.env0 (hb s1 us I1.kIn ll) rr q) fun
      | .error _, _, z => (pass0 (X := X)) pins σ H1 s1 _ _ I1 z
      | .ok (.ret _), _, z => I1.after z
      | .ok .next, _, z => z.elim
      | .ok .brk, _, z => z.elim
      | .ok .cont, _, z => z.elim)
end
end L2
/-! VALUES: data (nested tuples, lists, dicts), the values that stand for it, and == of it. -/
namespace L2
open PySem PySem.Spec PyProof.Rows
inductive D where
  | non
  | bl (b : Bool)
  | int (i : Int)
  | str (x : Str)
  | tup (xs : List D)
  | lst (xs : List D)
  | dT (ks : List (List Str)) (ds : List D)
  | dK (ks : List Str) (ds : List D)
  | scr (ns : List Int)
  | kt (ss : List Str)
  | exc (n : Str)
/-- the class that the module calls n -/
def clsOf (K : PySem.W.Frag) (n : Str) (C : Addr) : Prop := PySem.W.nsIn K mainGlobals n = some (some (.ref C))
/-- a way as a key of a dict -/
def wK (ws : List Str) : List Key := ws.map Sum.inr
/-- a tuple is tracked, or an object of the module (then it has a text without signs in it, and is no way) -/
def TupAt (K : PySem.W.Frag) (H : Hp) (a : Addr) (ds : List D) (xs : List V) : Prop := H a = some (.tup xs) ∨ (SqT K (fun _ => none) a xs ∧ D.str "" ∈ ds)
mutual
/-- the value stands for the data -/
def Rep (K : PySem.W.Frag) (H : Hp) : D → V → Prop
  | .non, v => v = .non
  | .bl b, v => v = .bl b
  | .int i, v => v = .int i
  | .str x, v => v = .str x
  | .tup ds, v => ∃ a xs, v = .ref a ∧ TupAt K H a ds xs ∧ Reps K H ds xs
  | .lst ds, v => ∃ a xs, v = .ref a ∧ H a = some (.lst xs) ∧ Reps K H ds xs
  | .dT ks ds, v => ∃ a kvs, v = .ref a ∧ H a = some (.dT kvs) ∧ kvs.map (·.1) = ks.map wK ∧ Reps K H ds (kvs.map (·.2))
  | .dK ks ds, v => ∃ a kvs, v = .ref a ∧ H a = some (.dK kvs) ∧ kvs.map (·.1) = ks.map Sum.inr ∧ Reps K H ds (kvs.map (·.2))
  | .scr ns, v => ∃ a, v = .ref a ∧ SqL K H a (ns.map V.int)
  | .kt ss, v => ∃ a, v = .ref a ∧ SqT K (fun _ => none) a (ss.map V.str)
  | .exc n, v => ∃ a C, v = .ref a ∧ H a = some (excO a C) ∧ clsOf K n C
def Reps (K : PySem.W.Frag) (H : Hp) : List D → List V → Prop
  | [], xs => xs = []
  | d :: ds, xs => ∃ x r, xs = x :: r ∧ Rep K H d x ∧ Reps K H ds r
end
noncomputable def eqD (d e : D) : Bool := @decide (d = e) (Classical.propDecidable _)
noncomputable def eqDs (d e : List D) : Bool := @decide (d = e) (Classical.propDecidable _)
theorem eqD_iff {d e : D} : eqD d e = true ↔ d = e := @decide_eq_true_iff _ (Classical.propDecidable _)
theorem eqDs_iff {d e : List D} : eqDs d e = true ↔ d = e := @decide_eq_true_iff _ (Classical.propDecidable _)
theorem eqD_eq {d e : D} (h : eqD d e = true) : d = e := eqD_iff.mp h
theorem eqDs_eq {d e : List D} (h : eqDs d e = true) : d = e := eqDs_iff.mp h
theorem eqD_refl (d : D) : eqD d d = true := eqD_iff.mpr rfl
theorem eqDs_refl (d : List D) : eqDs d d = true := eqDs_iff.mpr rfl
theorem bool_iff {a b : Bool} (h : a = true ↔ b = true) : a = b := by cases a <;> cases b <;> simp_all
theorem eqD_tup (ds es : List D) : eqD (.tup ds) (.tup es) = eqDs ds es := bool_iff (by rw [eqD_iff, eqDs_iff]; exact ⟨fun h => D.tup.inj h, fun h => h ▸ rfl⟩)
theorem eqD_lst (ds es : List D) : eqD (.lst ds) (.lst es) = eqDs ds es := bool_iff (by rw [eqD_iff, eqDs_iff]; exact ⟨fun h => D.lst.inj h, fun h => h ▸ rfl⟩)
/-- data that is a value by itself -/
def dV : D → Option V
  | .non => some .non
  | .bl b => some (.bl b)
  | .int i => some (.int i)
  | .str x => some (.str x)
  | _ => none
theorem dV_inj {d e : D} {v : V} (h : dV d = some v) (h' : dV e = some v) : d = e := by
  cases d <;> cases e <;> simp_all [dV] <;> (subst h; simp_all)
theorem eqD_scal {d e : D} {v z : V} (h : dV d = some v) (h' : dV e = some z) : eqD d e = decide (v = z) := bool_iff (by
  rw [eqD_iff, decide_eq_true_iff]
  exact ⟨fun q => by subst q; exact Option.some.inj (h.symm.trans h'), fun q => by subst q; exact dV_inj h h'⟩)
mutual
/-- what == is told of here: scalars with scalars (but no truths with whole numbers), tuples with tuples, lists with lists -/
def cmpD : D → D → Bool
  | .tup a, .tup b => cmpDs a b
  | .lst a, .lst b => cmpDs a b
  | .non, .non => true | .non, .int _ => true | .int _, .non => true | .non, .bl _ => true | .bl _, .non => true | .non, .str _ => true | .str _, .non => true
  | .int _, .int _ => true | .bl _, .bl _ => true | .str _, .str _ => true | .int _, .str _ => true | .str _, .int _ => true | .bl _, .str _ => true | .str _, .bl _ => true
  | _, _ => false
def cmpDs : List D → List D → Bool
  | x :: xs, y :: ys => cmpD x y && cmpDs xs ys
  | _, _ => true
end
mutual
def depD : D → Nat
  | .tup a => depDs a + 1
  | .lst a => depDs a + 1
  | _ => 0
def depDs : List D → Nat
  | [] => 0
  | x :: xs => max (depD x) (depDs xs)
end
theorem Same.emp (H : Hp) : Same (fun _ => none) H := fun _ _ h => by cases h
theorem Same.sqT {K : PySem.W.Frag} {H H' : Hp} (sm : Same H H') {a : Addr} {xs : List V} (h : SqT K H a xs) : SqT K H' a xs := by
  rcases h with (h | ⟨o, h⟩) | h
  · exact .inl (.inl (sm _ _ h))
  · exact .inl (.inr ⟨o, sm _ _ h⟩)
  · exact .inr h
theorem TupAt.sq {K : PySem.W.Frag} {H : Hp} {a : Addr} {ds : List D} {xs : List V} (h : TupAt K H a ds xs) : SqT K H a xs := h.elim SqT.of fun q => (Same.emp H).sqT q.1
theorem TupAt.same {K : PySem.W.Frag} {H H' : Hp} {a : Addr} {ds : List D} {xs : List V} (h : TupAt K H a ds xs) (sm : Same H H') : TupAt K H' a ds xs := h.elim (fun q => .inl (sm _ _ q)) .inr
section
variable {X : Cx} {pins : List (Addr × Obj)} {σ : St} {H : Hp} {s : Shared}
mutual
theorem Rep.inj (I : Inv X pins σ H s) : ∀ {d e : D} {v : V}, Rep X.K H d v → Rep X.K H e v → cmpD d e = true → d = e
  | .non, e, v, h, h', hc => by
    unfold Rep at h
    subst h
    cases e <;> unfold Rep at h' <;> first | rfl | (obtain ⟨_, _, z, _⟩ := h'; cases z; done) | (obtain ⟨_, z, _⟩ := h'; cases z; done) | (cases h'; done)
  | .bl i, e, v, h, h', hc => by
    unfold Rep at h
    subst h
    cases e <;> unfold Rep at h' <;> first | rfl | (obtain ⟨_, _, z, _⟩ := h'; cases z; done) | (obtain ⟨_, z, _⟩ := h'; cases z; done) | (cases h'; rfl) | (cases h'; done)
  | .int i, e, v, h, h', hc => by
    unfold Rep at h
    subst h
    cases e <;> unfold Rep at h' <;> first | rfl | (obtain ⟨_, _, z, _⟩ := h'; cases z; done) | (obtain ⟨_, z, _⟩ := h'; cases z; done) | (cases h'; rfl) | (cases h'; done)
  | .str i, e, v, h, h', hc => by
    unfold Rep at h
    subst h
    cases e <;> unfold Rep at h' <;> first | rfl | (obtain ⟨_, _, z, _⟩ := h'; cases z; done) | (obtain ⟨_, z, _⟩ := h'; cases z; done) | (cases h'; rfl) | (cases h'; done)
  | .tup ds, e, v, h, h', hc => by
    cases e with
    | tup es =>
      unfold Rep at h h'
      obtain ⟨a, xs, rfl, ha, hr⟩ := h
      obtain ⟨b, ys, z, hb, hs⟩ := h'
      cases z
      cases I.tuple_inj ha.sq hb.sq
      unfold cmpD at hc
      rw [Reps.inj I hr hs hc]
    | _ => unfold cmpD at hc; cases hc
  | .lst ds, e, v, h, h', hc => by
    cases e with
    | lst es =>
      unfold Rep at h h'
      obtain ⟨a, xs, rfl, ha, hr⟩ := h
      obtain ⟨b, ys, z, hb, hs⟩ := h'
      cases z
      rw [ha] at hb
      cases hb
      unfold cmpD at hc
      rw [Reps.inj I hr hs hc]
    | _ => unfold cmpD at hc; cases hc
  | .dT _ _, e, _, _, _, h => by cases e <;> (unfold cmpD at h; cases h)
  | .dK _ _, e, _, _, _, h => by cases e <;> (unfold cmpD at h; cases h)
  | .scr _, e, _, _, _, h => by cases e <;> (unfold cmpD at h; cases h)
  | .kt _, e, _, _, _, h => by cases e <;> (unfold cmpD at h; cases h)
  | .exc _, e, _, _, _, h => by cases e <;> (unfold cmpD at h; cases h)
theorem Reps.inj (I : Inv X pins σ H s) : ∀ {ds es : List D} {xs : List V}, Reps X.K H ds xs → Reps X.K H es xs → cmpDs ds es = true → ds = es
  | [], es, xs, h, h', _ => by
    unfold Reps at h
    subst h
    cases es with
    | nil => rfl
    | cons e es => unfold Reps at h'; obtain ⟨_, _, z, _⟩ := h'; cases z
  | d :: ds, es, xs, h, h', hc => by
    unfold Reps at h
    obtain ⟨x, r, rfl, h1, h2⟩ := h
    cases es with
    | nil => unfold Reps at h'; cases h'
    | cons e es =>
      unfold Reps at h'
      obtain ⟨x', r', z, h3, h4⟩ := h'
      cases z
      unfold cmpDs at hc
      rw [Bool.and_eq_true] at hc
      rw [Rep.inj I h1 h3 hc.1, Reps.inj I h2 h4 hc.2]
end
end
mutual
theorem Rep.same {K : PySem.W.Frag} {H H' : Hp} (sm : Same H H') : ∀ {d : D} {v : V}, Rep K H d v → Rep K H' d v
  | .non, _, h => h
  | .bl _, _, h => h
  | .int _, _, h => h
  | .str _, _, h => h
  | .tup _, _, h => by
    unfold Rep at h ⊢
    obtain ⟨a, xs, e, ha, r⟩ := h
    exact ⟨a, xs, e, ha.same sm, Reps.same sm r⟩
  | .lst _, _, h => by
    unfold Rep at h ⊢
    obtain ⟨a, xs, e, ha, r⟩ := h
    exact ⟨a, xs, e, sm _ _ ha, Reps.same sm r⟩
  | .dT _ _, _, h => by
    unfold Rep at h ⊢
    obtain ⟨a, xs, e, ha, k, r⟩ := h
    exact ⟨a, xs, e, sm _ _ ha, k, Reps.same sm r⟩
  | .dK _ _, _, h => by
    unfold Rep at h ⊢
    obtain ⟨a, xs, e, ha, k, r⟩ := h
    exact ⟨a, xs, e, sm _ _ ha, k, Reps.same sm r⟩
  | .scr _, _, h => by
    unfold Rep at h ⊢
    obtain ⟨a, e, ha⟩ := h
    exact ⟨a, e, sm.seq ha⟩
  | .kt _, _, h => h
  | .exc _, _, h => by
    unfold Rep at h ⊢
    obtain ⟨a, C, e, ha, hc⟩ := h
    exact ⟨a, C, e, sm _ _ ha, hc⟩
theorem Reps.same {K : PySem.W.Frag} {H H' : Hp} (sm : Same H H') : ∀ {ds : List D} {xs : List V}, Reps K H ds xs → Reps K H' ds xs
  | [], _, h => h
  | _ :: _, _, h => by
    unfold Reps at h ⊢
    obtain ⟨x, r, e, h1, h2⟩ := h
    exact ⟨x, r, e, Rep.same sm h1, Reps.same sm h2⟩
end
theorem Reps.length {K : PySem.W.Frag} {H : Hp} : ∀ {ds : List D} {xs : List V}, Reps K H ds xs → ds.length = xs.length
  | [], xs, h => by unfold Reps at h; rw [h]; rfl
  | d :: ds, xs, h => by
    unfold Reps at h
    obtain ⟨x, r, rfl, h1, h2⟩ := h
    rw [List.length_cons, List.length_cons, Reps.length h2]
theorem Reps.at {K : PySem.W.Frag} {H : Hp} : ∀ {ds : List D} {xs : List V} {j : Nat} {d : D}, Reps K H ds xs → ds[j]? = some d → ∃ x, xs[j]? = some x ∧ Rep K H d x
  | [], xs, j, d, h, e => by simp at e
  | d0 :: ds, xs, 0, d, h, e => by
    unfold Reps at h
    obtain ⟨x, r, rfl, h1, h2⟩ := h
    have e' : d0 = d := by simpa using e
    subst e'
    exact ⟨x, rfl, h1⟩
  | d0 :: ds, xs, j + 1, d, h, e => by
    unfold Reps at h
    obtain ⟨x, r, rfl, h1, h2⟩ := h
    obtain ⟨y, h3, h4⟩ := Reps.at (j := j) (d := d) h2 (by simpa using e)
    exact ⟨y, by simpa using h3, h4⟩
theorem eqDs_range : ∀ (ds es : List D), ((List.range (min ds.length es.length)).all (fun j => eqD (ds.getD j .non) (es.getD j .non)) && ds.length == es.length) = eqDs ds es := by
  intro ds es
  cases h : eqDs ds es with
  | true =>
    have e := eqDs_eq h
    subst e
    rw [Bool.and_eq_true]
    refine ⟨?_, by simp⟩
    rw [List.all_eq_true]
    intro j _
    exact eqD_refl _
  | false =>
    apply Classical.byContradiction
    intro hn
    have ht := eq_true_of_ne_false hn
    rw [Bool.and_eq_true, List.all_eq_true] at ht
    obtain ⟨h1, h2⟩ := ht
    have hl : ds.length = es.length := by simpa using h2
    have e : ds = es := by
      apply List.ext_getElem hl
      intro i hi1 hi2
      have := eqD_eq (h1 i (by rw [List.mem_range]; omega))
      simpa [List.getD_eq_getElem?_getD, hi1, hi2] using this
    rw [e, eqDs_refl] at h
    cases h
theorem cmpDs_at : ∀ {ds es : List D} {j : Nat} {d e : D}, cmpDs ds es = true → ds[j]? = some d → es[j]? = some e → cmpD d e = true
  | [], _, j, d, e, _, h, _ => by simp at h
  | _ :: _, [], j, d, e, _, _, h => by simp at h
  | d0 :: ds, e0 :: es, 0, d, e, h, h1, h2 => by
    unfold cmpDs at h
    rw [Bool.and_eq_true] at h
    have q1 : d0 = d := by simpa using h1
    have q2 : e0 = e := by simpa using h2
    subst q1 q2
    exact h.1
  | d0 :: ds, e0 :: es, j + 1, d, e, h, h1, h2 => by
    unfold cmpDs at h
    rw [Bool.and_eq_true] at h
    exact cmpDs_at (j := j) h.2 (by simpa using h1) (by simpa using h2)
theorem depDs_at : ∀ {ds : List D} {j : Nat} {d : D}, ds[j]? = some d → depD d ≤ depDs ds
  | [], j, d, h => by simp at h
  | d0 :: ds, 0, d, h => by
    have q : d0 = d := by simpa using h
    subst q
    unfold depDs
    exact Nat.le_max_left _ _
  | d0 :: ds, j + 1, d, h => by
    have := depDs_at (j := j) (d := d) (ds := ds) (by simpa using h)
    unfold depDs
    exact Nat.le_trans this (Nat.le_max_right _ _)
theorem sizeD_at {ds : List D} {j : Nat} {d : D} (h : ds[j]? = some d) : sizeOf d < sizeOf ds := List.sizeOf_lt_of_mem (List.mem_of_getElem? h)
section
variable {X : Cx} {pins : List (Addr × Obj)} {σ : St} {H : Hp} {s : Shared}
theorem rep_scal {d : D} {v : V} (h : Rep X.K H d v) {z : V} (e : dV d = some z) : v = z := by
  cases d <;> first | (unfold Rep at h; subst h; exact Option.some.inj e) | (cases e; done)
theorem scal_of {d e : D} (h : cmpD d e = true) (h0 : ∀ ds, d ≠ .tup ds) (h1 : ∀ ds, d ≠ .lst ds) : ∃ v z, dV d = some v ∧ dV e = some z ∧ scal v z = true := by
  cases d <;> cases e <;> first | exact ⟨_, _, rfl, rfl, rfl⟩ | exact absurd rfl (h0 _) | exact absurd rfl (h1 _) | (unfold cmpD at h; cases h; done)
theorem flat_dV {d : D} {v : V} (h : dV d = some v) : flatV v = true := by
  cases d <;> first | (cases h; rfl) | (cases h; done)
theorem eqV_scal {v z : V} (h : scal v z = true) (hv : flatV v = true) : eqV v z = decide (v = z) := by
  cases v <;> cases z <;> first | (cases h; done) | (cases hv; done) | rfl | (simp [eqV]; done) | (unfold eqV; exact bool_iff (by simp))
theorem items_D {A' : Around} {ds es : List D} {xs ys : List V} {its its2 : List Value} (r1 : Reps X.K H ds xs) (r2 : Reps X.K H es ys) (v1 : Vals xs its) (v2 : Vals ys its2) (hc : cmpDs ds es = true)
    (ih : ∀ d ∈ ds, ∀ (e : D) (v z : V) (u w : Value), Rep X.K H d v → Rep X.K H e z → RelV v u → RelV z w → cmpD d e = true → SeqAt.EqAt A' s u w (eqD d e)) :
    ∀ j (h1 : j < its.toArray.size) (h2 : j < its2.toArray.size), SeqAt.EqAt A' s its.toArray[j] its2.toArray[j] (eqD (ds.getD j .non) (es.getD j .non)) := fun j h1 h2 => by
  have l1 : j < ds.length := by rw [r1.length, v1.length]; simpa using h1
  have l2 : j < es.length := by rw [r2.length, v2.length]; simpa using h2
  have q1 : ds[j]? = some ds[j] := List.getElem?_eq_getElem l1
  have q2 : es[j]? = some es[j] := List.getElem?_eq_getElem l2
  obtain ⟨x, hx, rx⟩ := r1.at q1
  obtain ⟨y, hy, ry⟩ := r2.at q2
  obtain ⟨ux, hux, rux⟩ := v1.get hx
  obtain ⟨uy, huy, ruy⟩ := v2.get hy
  have e1 : its.toArray[j] = ux := by
    have : its[j]? = some its.toArray[j] := by simp
    rw [hux] at this
    exact (Option.some.inj this).symm
  have e2 : its2.toArray[j] = uy := by
    have : its2[j]? = some its2.toArray[j] := by simp
    rw [huy] at this
    exact (Option.some.inj this).symm
  have e3 : ds.getD j .non = ds[j] := by simp [List.getD_eq_getElem?_getD, l1]
  have e4 : es.getD j .non = es[j] := by simp [List.getD_eq_getElem?_getD, l2]
  rw [e1, e2, e3, e4]
  exact ih ds[j] (List.getElem_mem l1) es[j] x y ux uy rx ry rux ruy (cmpDs_at hc q1 q2)
theorem rc_tup {A : Around} (I : Inv X pins σ H s) {a b : Addr} {ds es : List D} {xs ys : List V} (ha : SqT X.K H a xs) (hb : SqT X.K H b ys) (r1 : Reps X.K H ds xs) (r2 : Reps X.K H es ys) (hc : cmpDs ds es = true) (hu : A.units < cLine)
    (ih : ∀ d ∈ ds, ∀ (e : D) (v z : V) (u w : Value), Rep X.K H d v → Rep X.K H e z → RelV v u → RelV z w → cmpD d e = true → SeqAt.EqAt A.in1 s u w (eqD d e)) : SeqAt.RcAt A s (.ref a) (.ref b) (eqD (.tup ds) (.tup es)) := by
  obtain ⟨its, v1, p1, _⟩ := I.tuple ha
  obtain ⟨its2, v2, p2, _⟩ := I.tuple hb
  have := SeqAt.RcAt.tuples (A := A) (s := s) (e := fun j => eqD (ds.getD j .non) (es.getD j .non)) (show s.heap.IsTuple a its.toArray from p1) (show s.heap.IsTuple b its2.toArray from p2) hu (items_D r1 r2 v1 v2 hc ih)
  rw [List.size_toArray, List.size_toArray, ← v1.length, ← v2.length, ← r1.length, ← r2.length, eqDs_range] at this
  rw [eqD_tup]
  exact this
theorem rc_lst {A : Around} (I : Inv X pins σ H s) {a b : Addr} {ds es : List D} {xs ys : List V} (ha : H a = some (.lst xs)) (hb : H b = some (.lst ys)) (r1 : Reps X.K H ds xs) (r2 : Reps X.K H es ys) (hc : cmpDs ds es = true) (hu : A.units < cLine)
    (ih : ∀ d ∈ ds, ∀ (e : D) (v z : V) (u w : Value), Rep X.K H d v → Rep X.K H e z → RelV v u → RelV z w → cmpD d e = true → SeqAt.EqAt A.in1 s u w (eqD d e)) : SeqAt.RcAt A s (.ref a) (.ref b) (eqD (.lst ds) (.lst es)) := by
  obtain ⟨its, v1, p1, _⟩ := I.list (SqL.of ha)
  obtain ⟨its2, v2, p2, _⟩ := I.list (SqL.of hb)
  have er := eqDs_range ds es
  rw [eqD_lst]
  by_cases hl : ds.length = es.length
  · have hz : its.toArray.size = its2.toArray.size := by rw [List.size_toArray, List.size_toArray, ← v1.length, ← v2.length, ← r1.length, ← r2.length, hl]
    have := SeqAt.RcAt.lists (A := A) (s := s) (e := fun j => eqD (ds.getD j .non) (es.getD j .non)) p1.isList p2.isList hz hu (items_D r1 r2 v1 v2 hc ih)
    rw [List.size_toArray, ← v1.length, ← r1.length] at this
    rw [← hl, Nat.min_self] at er
    have e2 : (ds.length == ds.length) = true := by simp
    rw [e2, Bool.and_true] at er
    rw [er] at this
    exact this
  · have e2 : (ds.length == es.length) = false := by simpa using hl
    rw [e2, Bool.and_false] at er
    rw [← er]
    refine SeqAt.RcAt.lists_lengths p1.isList p2.isList ?_ hu
    rw [List.size_toArray, List.size_toArray, ← v1.length, ← v2.length, ← r1.length, ← r2.length]
    simpa using hl
theorem depD_mem {ds : List D} {d : D} (h : d ∈ ds) : depD d ≤ depDs ds := by
  obtain ⟨j, hj⟩ := List.mem_iff_getElem?.mp h
  exact depDs_at hj
theorem eqAt_D (I : Inv X pins σ H s) : ∀ (n : Nat) (A : Around) (d e : D) (v z : V) (u w : Value), sizeOf d ≤ n → Rep X.K H d v → Rep X.K H e z → RelV v u → RelV z w → cmpD d e = true → A.units + depD d < cLine → SeqAt.EqAt A s u w (eqD d e)
  | 0, _, d, _, _, _, _, _, hn, _, _, _, _, _, _ => by cases d <;> simp at hn
  | n + 1, A, d, e, v, z, u, w, hn, hd, he, ru, rw', hc, hu => by
    have un : A.in1.units = A.units + 1 := rfl
    cases d with
    | tup ds =>
      cases e with
      | tup es =>
        have hd' := hd
        have he' := he
        unfold Rep at hd he
        obtain ⟨a, xs, rfl, ha, r1⟩ := hd
        obtain ⟨b, ys, rfl, hb, r2⟩ := he
        cases ru
        cases rw'
        unfold depD at hu
        by_cases hab : a = b
        · subst hab
          rw [Rep.inj I hd' he' hc, eqD_refl]
          exact SeqAt.EqAt.same _
        · unfold cmpD at hc
          refine SeqAt.EqAt.of_refs hab (rc_tup I ha.sq hb.sq r1 r2 hc (by omega) fun d hd e v z u w h1 h2 h3 h4 h5 => eqAt_D I n A.in1 d e v z u w ?_ h1 h2 h3 h4 h5 ?_)
          · have := List.sizeOf_lt_of_mem hd
            simp at hn
            omega
          · have := depD_mem hd
            omega
      | _ => unfold cmpD at hc; cases hc
    | lst ds =>
      cases e with
      | lst es =>
        have hd' := hd
        have he' := he
        unfold Rep at hd he
        obtain ⟨a, xs, rfl, ha, r1⟩ := hd
        obtain ⟨b, ys, rfl, hb, r2⟩ := he
        cases ru
        cases rw'
        unfold depD at hu
        by_cases hab : a = b
        · subst hab
          rw [Rep.inj I hd' he' hc, eqD_refl]
          exact SeqAt.EqAt.same _
        · unfold cmpD at hc
          refine SeqAt.EqAt.of_refs hab (rc_lst I ha hb r1 r2 hc (by omega) fun d hd e v z u w h1 h2 h3 h4 h5 => eqAt_D I n A.in1 d e v z u w ?_ h1 h2 h3 h4 h5 ?_)
          · have := List.sizeOf_lt_of_mem hd
            simp at hn
            omega
          · have := depD_mem hd
            omega
      | _ => unfold cmpD at hc; cases hc
    | _ =>
      obtain ⟨v', z', q1, q2, q3⟩ := scal_of hc (fun _ h => by cases h) (fun _ h => by cases h)
      have e1 := rep_scal hd q1
      have e2 := rep_scal he q2
      subst e1 e2
      rw [eqD_scal q1 q2, ← eqV_scal q3 (flat_dV q1)]
      exact eqAt_V ru rw' (flat_dV q1) (flat_dV q2)
/-- x == y of data -/
def rEqD (K : PySem.W.Frag) (g : Bool → Bool) : R2 := fun x y H Q => ∃ d e, Rep K H d x ∧ Rep K H e y ∧ cmpD d e = true ∧ depD d ≤ 50 ∧ Q (.bl (g (eqD d e))) H
theorem op_eqD (hu : X.A.units + 60 < cLine) : OpR X (compareOp .Eq) (rEqD X.K id) := by
  intro pins s σ H x y v u Q I rx ry h
  obtain ⟨d, e, hd, he, hc, hn, q⟩ := h
  have fin : EP X pins σ Q (.bool (eqD d e)) s := ⟨.bl (eqD d e), H, I, rfl, q⟩
  have un : X.A.in1.units = X.A.units + 1 := rfl
  cases d with
  | tup ds =>
    cases e with
    | tup es =>
      unfold Rep at hd he
      obtain ⟨a, xs, rfl, ha, r1⟩ := hd
      obtain ⟨b, ys, rfl, hb, r2⟩ := he
      cases rx
      cases ry
      unfold cmpD at hc
      unfold depD at hn
      exact rc_tup I ha.sq hb.sq r1 r2 hc (by omega) (fun d hd e v z u w h1 h2 h3 h4 h5 => eqAt_D I _ X.A.in1 d e v z u w (Nat.le_refl _) h1 h2 h3 h4 h5 (by have := depD_mem hd; omega)) _ _ _ _ fin
    | _ => unfold cmpD at hc; cases hc
  | lst ds =>
    cases e with
    | lst es =>
      unfold Rep at hd he
      obtain ⟨a, xs, rfl, ha, r1⟩ := hd
      obtain ⟨b, ys, rfl, hb, r2⟩ := he
      cases rx
      cases ry
      unfold cmpD at hc
      unfold depD at hn
      exact rc_lst I ha hb r1 r2 hc (by omega) (fun d hd e v z u w h1 h2 h3 h4 h5 => eqAt_D I _ X.A.in1 d e v z u w (Nat.le_refl _) h1 h2 h3 h4 h5 (by have := depD_mem hd; omega)) _ _ _ _ fin
    | _ => unfold cmpD at hc; cases hc
  | _ =>
    obtain ⟨v', z', q1, q2, q3⟩ := scal_of hc (fun _ h => by cases h) (fun _ h => by cases h)
    have e1 := rep_scal hd q1
    have e2 := rep_scal he q2
    subst e1 e2
    have q' : Q (.bl (eqD _ _)) H := q
    rw [eqD_scal q1 q2] at q'
    exact op_eq pins s σ H _ _ v u Q I rx ry ⟨q3, q'⟩
end
end L2
/-! THE VALUE LAYER: a state is data by names. What is protected (B) never changes; a list or dict that a name owns may. -/
namespace L2
open PySem PySem.Spec PyProof.Rows
/-- what an expression gives: data; a new list or dict that nobody else has; what a name owns (to be read at once) -/
inductive R where
  | val (d : D)
  | own (d : D)
  | peek (d : D)
  | exc (n : Str)
def R.d : R → D
  | .val d => d
  | .own d => d
  | .peek d => d
  | .exc _ => .scr []
abbrev VSt := List (Option R)
/-- the list or dict at a, its items protected -/
def OwnAt (K : PySem.W.Frag) (B H : Hp) (d : D) (a : Addr) : Prop := match d with
  | .lst ds => ∃ xs, H a = some (.lst xs) ∧ Reps K B ds xs
  | .dT ks ds => ∃ kvs, H a = some (.dT kvs) ∧ kvs.map (·.1) = ks.map wK ∧ Reps K B ds (kvs.map (·.2))
  | .dK ks ds => ∃ kvs, H a = some (.dK kvs) ∧ kvs.map (·.1) = ks.map Sum.inr ∧ Reps K B ds (kvs.map (·.2))
  | _ => False
/-- what may be read: r stands at v -/
def Pk (K : PySem.W.Frag) (B H : Hp) (r : R) (v : V) : Prop := match r with
  | .val d => Rep K B d v
  | .own d => ∃ a, v = .ref a ∧ B a = none ∧ OwnAt K B H d a
  | .peek d => ∃ a, v = .ref a ∧ B a = none ∧ OwnAt K B H d a
  | .exc _ => False
/-- what an expression gave, H0 being the heap ahead of it -/
def RepR (K : PySem.W.Frag) (B H0 H : Hp) (r : R) (v : V) : Prop := match r with
  | .val d => Rep K B d v
  | .own d => ∃ a, v = .ref a ∧ H0 a = none ∧ B a = none ∧ OwnAt K B H d a
  | .peek d => ∃ a, v = .ref a ∧ B a = none ∧ OwnAt K B H d a
  | .exc _ => False
structure Stp (B H B' H' : Hp) : Prop where
  b : Same B B'
  h : Same H H'
  s : Same B' H'
  d : ∀ a, B' a ≠ none → B a ≠ none ∨ H a = none ∨ ∃ xs, H a = some (.tup xs)
theorem Stp.refl {B H : Hp} (s : Same B H) : Stp B H B H := ⟨Same.refl _, Same.refl _, s, fun _ h => .inl h⟩
theorem Stp.trans {B H B1 H1 B2 H2 : Hp} (p : Stp B H B1 H1) (q : Stp B1 H1 B2 H2) : Stp B H B2 H2 :=
  ⟨p.b.trans q.b, p.h.trans q.h, q.s, fun a h => by
    rcases q.d a h with z | z | ⟨xs, z⟩
    · exact p.d a z
    · exact .inr (.inl (p.h.free z))
    · cases e : H a with
      | none => exact .inr (.inl rfl)
      | some o =>
        rw [p.h _ _ e] at z
        exact .inr (.inr ⟨xs, z⟩)⟩
theorem Stp.keep {B H B' H' : Hp} (p : Stp B H B' H') {a : Addr} (hb : B a = none) (hh : H a ≠ none) (nt : ∀ xs, H a ≠ some (.tup xs)) : B' a = none := by
  cases e : B' a with
  | none => rfl
  | some o =>
    rcases p.d a (by rw [e]; exact fun z => by cases z) with z | z | ⟨xs, z⟩
    · exact absurd hb z
    · exact absurd z hh
    · exact absurd z (nt xs)
/-- the heap has grown, nothing of it is protected -/
theorem Stp.grow {B H H' : Hp} (s : Same B H) (h : Same H H') : Stp B H B H' := ⟨Same.refl _, h, s.trans h, fun _ z => .inl z⟩
/-- the new thing at p is protected -/
theorem Stp.new {B H : Hp} {p : Addr} {o : HO} (s : Same B H) (hp : H p = none) : Stp B H (upd B p o) (upd H p o) :=
  ⟨same_upd (s.free hp) o, same_upd hp o, fun b u e => by
    unfold upd at e ⊢
    by_cases z : b = p
    · rw [if_pos z] at e ⊢
      exact e
    · rw [if_neg z] at e ⊢
      exact s _ _ e, fun a h => by
    by_cases z : a = p
    · exact .inr (.inl (z ▸ hp))
    · rw [upd_ne z] at h
      exact .inl h⟩
/-- all that a larger heap has may be protected, where nothing of the heap is that was not so -/
theorem Stp.all {B H H' : Hp} (s : Same B H) (h : Same H H') : Stp B H (fun a => if H a = none then H' a else B a) H' := by
  refine ⟨fun b o e => ?_, h, fun b o e => ?_, fun a z => ?_⟩
  · show (if H b = none then H' b else B b) = some o
    rw [if_neg (by rw [s _ _ e]; exact fun z => by cases z)]
    exact e
  · have e' : (if H b = none then H' b else B b) = some o := e
    by_cases z : H b = none
    · rw [if_pos z] at e'; exact e'
    · rw [if_neg z] at e'; exact h _ _ (s _ _ e')
  · by_cases q : H a = none
    · exact .inr (.inl q)
    · have z' : (if H a = none then H' a else B a) ≠ none := z
      rw [if_neg q] at z'
      exact .inl z'
section
variable {K : PySem.W.Frag} {B H B' H' H0 : Hp} {d : D} {a : Addr} {r : R} {v : V}
theorem OwnAt.some (h : OwnAt K B H d a) : H a ≠ none := by
  unfold OwnAt at h
  split at h
  · obtain ⟨xs, e, _⟩ := h; rw [e]; exact fun z => by cases z
  · obtain ⟨xs, e, _⟩ := h; rw [e]; exact fun z => by cases z
  · obtain ⟨xs, e, _⟩ := h; rw [e]; exact fun z => by cases z
  · exact h.elim
theorem OwnAt.nt (h : OwnAt K B H d a) : ∀ xs, H a ≠ Option.some (.tup xs) := by
  intro ys
  unfold OwnAt at h
  split at h
  · obtain ⟨xs, e, _⟩ := h; rw [e]; exact fun z => by cases z
  · obtain ⟨xs, e, _⟩ := h; rw [e]; exact fun z => by cases z
  · obtain ⟨xs, e, _⟩ := h; rw [e]; exact fun z => by cases z
  · exact h.elim
theorem OwnAt.step (h : OwnAt K B H d a) (b : Same B B') (e : H' a = H a) : OwnAt K B' H' d a := by
  unfold OwnAt at h ⊢
  split at h
  · obtain ⟨xs, q, r⟩ := h; exact ⟨xs, by rw [e, q], r.same b⟩
  · obtain ⟨xs, q, k, r⟩ := h; exact ⟨xs, by rw [e, q], k, r.same b⟩
  · obtain ⟨xs, q, k, r⟩ := h; exact ⟨xs, by rw [e, q], k, r.same b⟩
  · exact h.elim
theorem Same.at {a : Addr} (h : Same H H') (n : H a ≠ none) : H' a = H a := by
  cases e : H a with
  | none => exact absurd e n
  | some o => exact h _ _ e
theorem Pk.step (h : Pk K B H r v) (p : Stp B H B' H') : Pk K B' H' r v := by
  cases r with
  | val d => exact Rep.same p.b h
  | own d =>
    obtain ⟨a, e, q, o⟩ := h
    exact ⟨a, e, p.keep q o.some o.nt, o.step p.b (p.h.at o.some)⟩
  | peek d =>
    obtain ⟨a, e, q, o⟩ := h
    exact ⟨a, e, p.keep q o.some o.nt, o.step p.b (p.h.at o.some)⟩
  | exc n => exact h.elim
theorem RepR.pk (h : RepR K B H0 H r v) : Pk K B H r v := by
  cases r with
  | val d => exact h
  | own d =>
    obtain ⟨a, e, _, q, o⟩ := h
    exact ⟨a, e, q, o⟩
  | peek d => exact h
  | exc n => exact h
/-- in the whole heap it is data -/
theorem OwnAt.rep (s : Same B H) (h : OwnAt K B H d a) : Rep K H d (.ref a) := by
  unfold OwnAt at h
  split at h
  · obtain ⟨xs, q, r⟩ := h; unfold Rep; exact ⟨a, xs, rfl, q, r.same s⟩
  · obtain ⟨xs, q, k, r⟩ := h; unfold Rep; exact ⟨a, xs, rfl, q, k, r.same s⟩
  · obtain ⟨xs, q, k, r⟩ := h; unfold Rep; exact ⟨a, xs, rfl, q, k, r.same s⟩
  · exact h.elim
theorem Pk.rep (s : Same B H) (h : Pk K B H r v) : Rep K H r.d v := by
  cases r with
  | val d => exact Rep.same s h
  | own d =>
    obtain ⟨a, rfl, _, o⟩ := h
    exact o.rep s
  | peek d =>
    obtain ⟨a, rfl, _, o⟩ := h
    exact o.rep s
  | exc n => exact h.elim
/-- it becomes protected -/
theorem OwnAt.pub (h : OwnAt K B H d a) (hb : B a = none) : ∃ o, H a = Option.some o ∧ Rep K (upd B a o) d (.ref a) := by
  unfold OwnAt at h
  split at h
  · obtain ⟨xs, q, r⟩ := h
    refine ⟨_, q, ?_⟩
    unfold Rep
    exact ⟨a, xs, rfl, upd_same, r.same (same_upd hb _)⟩
  · obtain ⟨xs, q, k, r⟩ := h
    refine ⟨_, q, ?_⟩
    unfold Rep
    exact ⟨a, xs, rfl, upd_same, k, r.same (same_upd hb _)⟩
  · obtain ⟨xs, q, k, r⟩ := h
    refine ⟨_, q, ?_⟩
    unfold Rep
    exact ⟨a, xs, rfl, upd_same, k, r.same (same_upd hb _)⟩
  · exact h.elim
theorem same_updL {o : HO} (s : Same B H) (e : H a = Option.some o) : Same (upd B a o) H := fun b u q => by
  unfold upd at q
  by_cases z : b = a
  · rw [if_pos z] at q
    rw [z, e]
    exact q
  · rw [if_neg z] at q
    exact s _ _ q
/-- data that is kept: a value, or a new thing that becomes one -/
def pubR : R → (D → Prop) → Prop
  | .val d, Q => Q d
  | .own d, Q => Q d
  | .peek _, _ => False
  | .exc _, _ => False
/-- an exception goes on -/
def exR : R → (R → Prop) → Prop → Prop
  | .exc n, Q, _ => Q (.exc n)
  | .val _, _, k => k
  | .own _, _, k => k
  | .peek _, _, k => k
theorem pub {Q : D → Prop} (p : Stp B H B' H') (h : RepR K B' H H' r v) (q : pubR r Q) : ∃ d B2, Stp B H B2 H' ∧ Same B' B2 ∧ Rep K B2 d v ∧ Q d := by
  cases r with
  | val d => exact ⟨d, B', p, Same.refl _, h, q⟩
  | own d =>
    obtain ⟨a, rfl, h0, hb, o⟩ := h
    obtain ⟨u, e, rp⟩ := o.pub hb
    refine ⟨d, upd B' a u, ⟨p.b.trans (same_upd hb _), p.h, same_updL p.s e, fun c z => ?_⟩, same_upd hb _, rp, q⟩
    by_cases w : c = a
    · exact .inr (.inl (w ▸ h0))
    · rw [upd_ne w] at z
      exact p.d c z
  | peek d => exact q.elim
  | exc n => exact q.elim
/-! ### a state -/
structure Slots (K : PySem.W.Frag) (H0 B H : Hp) (τ : VSt) (σ : St) : Prop where
  len : σ.length = τ.length
  val : ∀ (i : Nat) (d : D), τ[i]? = some (some (R.val d)) → ∃ v, σ[i]? = some (some v) ∧ Rep K B d v
  own : ∀ (i : Nat) (d : D), τ[i]? = some (some (R.own d)) → ∃ a, σ[i]? = some (some (.ref a)) ∧ H0 a = none ∧ B a = none ∧ OwnAt K B H d a
  sep : ∀ (i j : Nat) (d e : D) (a : Addr), τ[i]? = some (some (R.own d)) → τ[j]? = some (some (R.own e)) → σ[i]? = some (some (.ref a)) → σ[j]? = some (some (.ref a)) → i = j
variable {τ : VSt} {σ : St}
theorem Slots.step (S : Slots K H0 B H τ σ) (p : Stp B H B' H') : Slots K H0 B' H' τ σ where
  len := S.len
  val := fun i d e => let ⟨v, q, r⟩ := S.val i d e; ⟨v, q, r.same p.b⟩
  own := fun i d e => let ⟨a, q, h0, hb, o⟩ := S.own i d e; ⟨a, q, h0, p.keep hb o.some o.nt, o.step p.b (p.h.at o.some)⟩
  sep := S.sep
theorem getSet {α : Type} {xs : List α} {i j : Nat} {x y : α} (h : (xs.set i x)[j]? = some y) : (i = j ∧ x = y ∧ i < xs.length) ∨ (i ≠ j ∧ xs[j]? = some y) := by
  by_cases e : i = j
  · subst e
    by_cases l : i < xs.length
    · rw [List.getElem?_set_self l] at h
      exact .inl ⟨rfl, Option.some.inj h, l⟩
    · rw [List.getElem?_eq_none (by rw [List.length_set]; omega)] at h
      cases h
  · rw [List.getElem?_set_ne e] at h
    exact .inr ⟨e, h⟩
theorem Slots.setVal (S : Slots K H0 B H τ σ) (i : Nat) (h : Rep K B d v) : Slots K H0 B H (τ.set i (some (.val d))) (σ.set i (some v)) where
  len := by rw [List.length_set, List.length_set, S.len]
  val := fun j e q => by
    rcases getSet q with ⟨rfl, z, l⟩ | ⟨n, q⟩
    · cases z
      exact ⟨v, List.getElem?_set_self (by rw [S.len]; exact l), h⟩
    · obtain ⟨w, q, r⟩ := S.val j e q
      exact ⟨w, by rw [List.getElem?_set_ne n]; exact q, r⟩
  own := fun j e q => by
    rcases getSet q with ⟨rfl, z, l⟩ | ⟨n, q⟩
    · cases z
    · obtain ⟨w, q, r⟩ := S.own j e q
      exact ⟨w, by rw [List.getElem?_set_ne n]; exact q, r⟩
  sep := fun j k e f c q1 q2 q3 q4 => by
    rcases getSet q1 with ⟨rfl, z, l⟩ | ⟨n, q1⟩
    · cases z
    rcases getSet q2 with ⟨rfl, z, l⟩ | ⟨n2, q2⟩
    · cases z
    rw [List.getElem?_set_ne n] at q3
    rw [List.getElem?_set_ne n2] at q4
    exact S.sep j k e f c q1 q2 q3 q4
theorem Slots.setNone (S : Slots K H0 B H τ σ) (i : Nat) (w : Option V) : Slots K H0 B H (τ.set i none) (σ.set i w) where
  len := by rw [List.length_set, List.length_set, S.len]
  val := fun j e q => by
    rcases getSet q with ⟨rfl, z, l⟩ | ⟨n, q⟩
    · cases z
    · obtain ⟨w, q, r⟩ := S.val j e q
      exact ⟨w, by rw [List.getElem?_set_ne n]; exact q, r⟩
  own := fun j e q => by
    rcases getSet q with ⟨rfl, z, l⟩ | ⟨n, q⟩
    · cases z
    · obtain ⟨w, q, r⟩ := S.own j e q
      exact ⟨w, by rw [List.getElem?_set_ne n]; exact q, r⟩
  sep := fun j k e f c q1 q2 q3 q4 => by
    rcases getSet q1 with ⟨rfl, z, l⟩ | ⟨n, q1⟩
    · cases z
    rcases getSet q2 with ⟨rfl, z, l⟩ | ⟨n2, q2⟩
    · cases z
    rw [List.getElem?_set_ne n] at q3
    rw [List.getElem?_set_ne n2] at q4
    exact S.sep j k e f c q1 q2 q3 q4
/-- a name gets a new thing of its own; at no name's own address -/
theorem Slots.setOwn (S : Slots K H0 B H τ σ) (i : Nat) (h0 : H0 a = none) (hb : B a = none) (o : OwnAt K B H d a) (nw : ∀ (j : Nat) (e : D), τ[j]? = some (some (.own e)) → σ[j]? ≠ some (some (.ref a))) :
    Slots K H0 B H (τ.set i (some (.own d))) (σ.set i (some (.ref a))) where
  len := by rw [List.length_set, List.length_set, S.len]
  val := fun j e q => by
    rcases getSet q with ⟨rfl, z, l⟩ | ⟨n, q⟩
    · cases z
    · obtain ⟨w, q, r⟩ := S.val j e q
      exact ⟨w, by rw [List.getElem?_set_ne n]; exact q, r⟩
  own := fun j e q => by
    rcases getSet q with ⟨rfl, z, l⟩ | ⟨n, q⟩
    · cases z
      exact ⟨a, List.getElem?_set_self (by rw [S.len]; exact l), h0, hb, o⟩
    · obtain ⟨w, q, r⟩ := S.own j e q
      exact ⟨w, by rw [List.getElem?_set_ne n]; exact q, r⟩
  sep := fun j k e f c q1 q2 q3 q4 => by
    rcases getSet q1 with ⟨rfl, z, l⟩ | ⟨n, q1⟩
    · rcases getSet q2 with ⟨rfl, z, l2⟩ | ⟨n2, q2⟩
      · rfl
      · rw [List.getElem?_set_self (by rw [S.len]; exact l)] at q3
        cases q3
        rw [List.getElem?_set_ne n2] at q4
        exact absurd q4 (nw k f q2)
    · rcases getSet q2 with ⟨rfl, z, l2⟩ | ⟨n2, q2⟩
      · rw [List.getElem?_set_self (by rw [S.len]; exact l2)] at q4
        cases q4
        rw [List.getElem?_set_ne n] at q3
        exact absurd q3 (nw j e q1)
      · rw [List.getElem?_set_ne n] at q3
        rw [List.getElem?_set_ne n2] at q4
        exact S.sep j k e f c q1 q2 q3 q4
/-- what a name owns is changed -/
theorem Slots.upd (S : Slots K H0 B H τ σ) {i : Nat} {e : D} {o : HO} (hi : τ[i]? = some (some (.own e))) (ha : σ[i]? = some (some (.ref a))) (n : OwnAt K B (upd H a o) d a) :
    Slots K H0 B (upd H a o) (τ.set i (some (.own d))) σ where
  len := by rw [List.length_set, S.len]
  val := fun j f q => by
    rcases getSet q with ⟨rfl, z, l⟩ | ⟨n, q⟩
    · cases z
    · exact S.val j f q
  own := fun j f q => by
    rcases getSet q with ⟨rfl, z, l⟩ | ⟨ne, q⟩
    · cases z
      obtain ⟨c, q1, h0, hb, _⟩ := S.own i e hi
      rw [ha] at q1
      cases q1
      exact ⟨a, ha, h0, hb, n⟩
    · obtain ⟨c, q1, h0, hb, w⟩ := S.own j f q
      refine ⟨c, q1, h0, hb, w.step (Same.refl _) (upd_ne fun z => ?_)⟩
      subst z
      exact ne (S.sep i j e f c hi q ha q1)
  sep := fun j k e' f c q1 q2 q3 q4 => by
    have hj : ∃ e', τ[j]? = some (some (.own e')) := by
      rcases getSet q1 with ⟨rfl, z, l⟩ | ⟨_, q⟩
      · exact ⟨e, hi⟩
      · exact ⟨_, q⟩
    have hk : ∃ e', τ[k]? = some (some (.own e')) := by
      rcases getSet q2 with ⟨rfl, z, l⟩ | ⟨_, q⟩
      · exact ⟨e, hi⟩
      · exact ⟨_, q⟩
    obtain ⟨_, hj⟩ := hj
    obtain ⟨_, hk⟩ := hk
    exact S.sep j k _ _ c hj hk q3 q4
theorem Stp.upd (p : Stp B H B' H') {o : HO} (h0 : H a = none) (hb : B' a = none) : Stp B H B' (L2.upd H' a o) :=
  ⟨p.b, p.h.put h0, fun b u q => by
    rw [upd_ne (fun z => by rw [z, hb] at q; cases q)]
    exact p.s _ _ q, p.d⟩
/-- what a name owns becomes data for good -/
def frz (i : Nat) (τ : VSt) : VSt := match τ[i]? with
  | some (some (.own d)) => τ.set i (some (.val d))
  | _ => τ
theorem Slots.frz (S : Slots K H0 B' H' τ σ) (p : Stp B H0 B' H') (i : Nat) : ∃ B2, Stp B H0 B2 H' ∧ Same B' B2 ∧ Slots K H0 B2 H' (frz i τ) σ := by
  unfold L2.frz
  split
  · rename_i d e
    obtain ⟨a, q, h0, hb, o⟩ := S.own i d e
    obtain ⟨u, eu, rp⟩ := o.pub hb
    refine ⟨L2.upd B' a u, ⟨p.b.trans (same_upd hb _), p.h, same_updL p.s eu, fun c z => ?_⟩, same_upd hb _, ?_⟩
    · by_cases w : c = a
      · exact .inr (.inl (w ▸ h0))
      · rw [upd_ne w] at z
        exact p.d c z
    · refine ⟨by rw [List.length_set, S.len], fun j f q' => ?_, fun j f q' => ?_, fun j k f g c q1 q2 q3 q4 => ?_⟩
      · rcases getSet q' with ⟨rfl, z, l⟩ | ⟨n, q'⟩
        · cases z
          exact ⟨_, q, rp⟩
        · obtain ⟨w, q1, r⟩ := S.val j f q'
          exact ⟨w, q1, r.same (same_upd hb _)⟩
      · rcases getSet q' with ⟨rfl, z, l⟩ | ⟨n, q'⟩
        · cases z
        · obtain ⟨c, q1, h0', hb', w⟩ := S.own j f q'
          have ne : c ≠ a := fun z => by subst z; exact n (S.sep i j d f c e q' q q1)
          exact ⟨c, q1, h0', by rw [upd_ne ne]; exact hb', w.step (same_upd hb _) rfl⟩
      · rcases getSet q1 with ⟨rfl, z, l⟩ | ⟨n, q1⟩
        · cases z
        rcases getSet q2 with ⟨rfl, z, l⟩ | ⟨n2, q2⟩
        · cases z
        exact S.sep j k f g c q1 q2 q3 q4
  · exact ⟨B', p, Same.refl _, S⟩
end
end L2
/-! THE VALUE LAYER, judgements: each a sealed judgement and its reading over data. -/
namespace L2
open PySem PySem.Spec PyProof.Rows
abbrev TV := VSt → (R → Prop) → Prop
abbrev TVT := VSt → (Bool → Prop) → Prop
/-- arguments, or an exception -/
inductive AR where
  | ok (ds : List D)
  | exc (n : Str)
abbrev TVA := VSt → (AR → Prop) → Prop
abbrev TVG := D → VSt → (VSt → Prop) → Prop
structure VEnds where
  nx : VSt → Prop
  rt : R → Prop
  bk : VSt → Prop := fun _ => False
  ct : VSt → Prop := fun _ => False
  xc : VSt → Str → Prop := fun _ _ => False
abbrev TVS := VEnds → VSt → Prop
section
variable (K : PySem.W.Frag) (EX : St → XK)
def RfE (te : TE) (t : TV) : Prop := ∀ (H0 B H : Hp) (τ : VSt) (σ : St) (Q : VK) (Qd : R → Prop), Same B H → Slots K H0 B H τ σ → t τ Qd → (∀ n C B' H', Stp B H B' H' → clsOf K n C → Qd (.exc n) → EX σ (.ref C) none H') → (∀ r v B' H', Stp B H B' H' → RepR K B' H H' r v → Qd r → Q v H') → te σ H Q
def RfT (te : TT) (t : TVT) : Prop := ∀ (H0 B H : Hp) (τ : VSt) (σ : St) (Q : Bool → Hp → Prop) (Qd : Bool → Prop), Same B H → Slots K H0 B H τ σ → t τ Qd → (∀ b B' H', Stp B H B' H' → Qd b → Q b H') → te σ H Q
def RfA (te : TA) (t : TVA) : Prop := ∀ (H0 B H : Hp) (τ : VSt) (σ : St) (Q : List V → Hp → Prop) (Qd : AR → Prop), Same B H → Slots K H0 B H τ σ → t τ Qd → (∀ n C B' H', Stp B H B' H' → clsOf K n C → Qd (.exc n) → EX σ (.ref C) none H') → (∀ ds vs B' H', Stp B H B' H' → Reps K B' ds vs → Qd (.ok ds) → Q vs H') → te σ H Q
def RfO (r : R2) (rd : R → R → (R → Prop) → Prop) : Prop := ∀ (B H : Hp) (x y : V) (rx ry : R) (Q : VK) (Qd : R → Prop), Same B H → Pk K B H rx x → Pk K B H ry y → rd rx ry Qd → (∀ r v B' H', Stp B H B' H' → RepR K B' H H' r v → Qd r → Q v H') → r x y H Q
def RfC (r : List V → Hp → VK → Prop) (rd : R → (R → Prop) → Prop) : Prop := ∀ (B H : Hp) (x : V) (rx : R) (Q : VK) (Qd : R → Prop), Same B H → Pk K B H rx x → rd rx Qd → (∀ r v B' H', Stp B H B' H' → RepR K B' H H' r v → Qd r → Q v H') → r [x] H Q
def Kp (τ : VSt) (σ : St) (τ' : VSt) (σ' : St) : Prop := ∀ (j : Nat) (e : D), τ'[j]? = some (some (R.own e)) → τ[j]? = some (some (R.own e)) ∧ σ'[j]? = σ[j]?
def RfG (g : TG) (t : TVG) : Prop := ∀ (H0 B H : Hp) (τ : VSt) (σ : St) (x : V) (d : D) (Q : St → Hp → Prop) (Qd : VSt → Prop), Same B H → Slots K H0 B H τ σ → Rep K B d x → t d τ Qd → (∀ τ' σ', Slots K H0 B H τ' σ' → Kp τ σ τ' σ' → Qd τ' → Q σ' H) → g x σ H Q
def RfGs (g : TGs) (t : List D → VSt → (VSt → Prop) → Prop) : Prop := ∀ (H0 B H : Hp) (τ : VSt) (σ : St) (xs : List V) (ds : List D) (Q : St → Hp → Prop) (Qd : VSt → Prop), Same B H → Slots K H0 B H τ σ → Reps K B ds xs → t ds τ Qd → (∀ τ' σ', Slots K H0 B H τ' σ' → Kp τ σ τ' σ' → Qd τ' → Q σ' H) → g xs σ H Q
def ItOk (B : Hp) (J : It) (ds : List D) : Prop := ∀ (i : Nat) (H : Hp), Same B H → (∀ d, ds[i]? = some d → J.go i H ∧ ∀ x H', J.yld i H x H' → H' = H ∧ Rep K B d x) ∧ (ds[i]? = none → J.stop i H)
def RfI (wi : TI) (vi : TVA) : Prop := ∀ (H0 B H : Hp) (τ : VSt) (σ : St) (Q : It → Hp → Prop) (Qd : AR → Prop), Same B H → Slots K H0 B H τ σ → vi τ Qd → (∀ n C B' H', Stp B H B' H' → clsOf K n C → Qd (.exc n) → EX σ (.ref C) none H') → (∀ J ds B' H', Stp B H B' H' → ItOk K B' J ds → Qd (.ok ds) → Q J H') → wi σ H Q
def RfF (ti : TF) (t : TVT) : Prop := ∀ (H0 B H : Hp) (τ : VSt) (σ : St) (Y N : Hp → Prop) (Qd : Bool → Prop), Same B H → Slots K H0 B H τ σ → t τ Qd → (∀ b B' H', Stp B H B' H' → Qd b → if b = true then Y H' else N H') → ti σ H Y N
structure EndsOk (B0 H0 : Hp) (Dv : VEnds) (Dh : Ends) : Prop where
  nx : ∀ B H τ σ, Stp B0 H0 B H → Slots K H0 B H τ σ → Dv.nx τ → Dh.nx σ H
  rt : ∀ r v B H, Stp B0 H0 B H → RepR K B H0 H r v → Dv.rt r → Dh.rt v H
  bk : ∀ B H τ σ, Stp B0 H0 B H → Slots K H0 B H τ σ → Dv.bk τ → Dh.bk σ H
  ct : ∀ B H τ σ, Stp B0 H0 B H → Slots K H0 B H τ σ → Dv.ct τ → Dh.ct σ H
  xc : ∀ B H τ σ n C, Stp B0 H0 B H → Slots K H0 B H τ σ → clsOf K n C → Dv.xc τ n → EX σ (.ref C) none H
def RfS (ts : TS) (t : TVS) : Prop := ∀ (B0 H0 B H : Hp) (τ : VSt) (σ : St) (Dv : VEnds) (Dh : Ends), Stp B0 H0 B H → Slots K H0 B H τ σ → t Dv τ → EndsOk K EX B0 H0 Dv Dh → ts Dh σ H
end
section
structure VE (X : Cx) (EX : St → XK) (e : Expr) (t : TV) : Prop where
  u : ∃ te, QE X e te ∧ RfE X.K EX te t
structure VC (X : Cx) (EX : St → XK) (e : Expr) (t : TV) : Prop where
  u : ∃ te, QC X e te ∧ RfE X.K EX te t
structure VT (X : Cx) (EX : St → XK) (e : Expr) (t : TVT) : Prop where
  u : ∃ te, QT X e te ∧ RfT X.K te t
structure VW (X : Cx) (EX : St → XK) (e : Expr) (t : TVT) : Prop where
  u : ∃ te, QW X e te ∧ RfT X.K te t
structure VA (X : Cx) (EX : St → XK) (es : List Expr) (t : TVA) : Prop where
  u : ∃ te, QA X es te ∧ RfA X.K EX te t
structure VI (X : Cx) (EX : St → XK) (tg e : Expr) (t : TVA) : Prop where
  u : ∃ wi, QI X tg e wi ∧ RfI X.K EX wi t
structure VFs (X : Cx) (EX : St → XK) (ifs : List Expr) (t : TVT) : Prop where
  u : ∃ ti, QF X ifs ti ∧ RfF X.K ti t
structure VS (X : Cx) (EX : St → XK) (st : Stmt) (t : TVS) : Prop where
  u : ∃ ts, QS X st ts ∧ RfS X.K EX ts t
structure VSs (X : Cx) (EX : St → XK) (st : List Stmt) (t : TVS) : Prop where
  u : ∃ ts, QSs X st ts ∧ RfS X.K EX ts t
end
section
variable (X : Cx)
structure VO (f : Value → Value → Sem Value) (rd : R → R → (R → Prop) → Prop) : Prop where
  u : ∃ r, OpR X f r ∧ RfO X.K r rd
structure VX (rd : R → R → (R → Prop) → Prop) : Prop where
  u : ∃ r, IxR X r ∧ RfO X.K r rd
structure VF (f : Value) (rd : R → (R → Prop) → Prop) : Prop where
  u : ∃ r, CallR X f r ∧ RfC X.K r rd
structure VG (tg : Expr) (t : TVG) : Prop where
  u : ∃ g, QG X tg g ∧ RfG X.K g t
structure VGs (ts : List Expr) (t : List D → VSt → (VSt → Prop) → Prop) : Prop where
  u : ∃ g, QGs X ts g ∧ RfGs X.K g t
end
section
variable {X : Cx} {EX : St → XK} {K : PySem.W.Frag} {a b c e o i : Expr} {es : List Expr} {pos pos' p p2 apos cpos : Pos} {x : Str} {ta tb tc te : TV} {tA : TVA} {tT tU : TVT} {B H B' H' H0 H1 H2 : Hp} {r : R} {v : V}
theorem RepR.back (h : RepR K B H1 H2 r v) (s : Same H H1) : RepR K B H H2 r v := by
  cases r with
  | val d => exact h
  | own d =>
    obtain ⟨a, e, h0, q⟩ := h
    exact ⟨a, e, s.free h0, q⟩
  | peek d => exact h
  | exc n => exact h
/-- what stands there is a scalar -/
theorem Pk.scal {z : V} (h : Pk K B H r v) (e : dV r.d = some z) : v = z := by
  cases r with
  | val d =>
    have e' : dV d = some z := e
    have h' : Rep K B d v := h
    cases d <;> first | (unfold Rep at h'; subst h'; exact Option.some.inj e') | (cases e'; done)
  | own d =>
    obtain ⟨a, _, _, q⟩ := h
    have e' : dV d = some z := e
    cases d <;> first | (cases e'; done) | exact q.elim
  | peek d =>
    obtain ⟨a, _, _, q⟩ := h
    have e' : dV d = some z := e
    cases d <;> first | (cases e'; done) | exact q.elim
  | exc n => exact h.elim
theorem Pk.tup {ds : List D} (h : Pk K B H r v) (e : r.d = .tup ds) : ∃ a xs, v = .ref a ∧ TupAt K B a ds xs ∧ Reps K B ds xs := by
  cases r with
  | val d =>
    cases (show d = _ from e)
    have h' : Rep K B (.tup ds) v := h
    unfold Rep at h'
    exact h'
  | own d => cases (show d = _ from e); obtain ⟨_, _, _, q⟩ := h; exact q.elim
  | peek d => cases (show d = _ from e); obtain ⟨_, _, _, q⟩ := h; exact q.elim
  | exc n => exact h.elim
/-- a list's items are protected, whoever has it -/
theorem Pk.lst {ds : List D} (s : Same B H) (h : Pk K B H r v) (e : r.d = .lst ds) : ∃ a xs, v = .ref a ∧ H a = some (.lst xs) ∧ Reps K B ds xs := by
  cases r with
  | val d =>
    cases (show d = _ from e)
    have h' : Rep K B (.lst ds) v := h
    unfold Rep at h'
    obtain ⟨a, xs, rfl, q, rp⟩ := h'
    exact ⟨a, xs, rfl, s _ _ q, rp⟩
  | own d => cases (show d = _ from e); obtain ⟨a, rfl, _, xs, q, rp⟩ := h; exact ⟨a, xs, rfl, q, rp⟩
  | peek d => cases (show d = _ from e); obtain ⟨a, rfl, _, xs, q, rp⟩ := h; exact ⟨a, xs, rfl, q, rp⟩
  | exc n => exact h.elim
theorem Pk.scr {ns : List Int} (s : Same B H) (h : Pk K B H r v) (e : r.d = .scr ns) : ∃ a, v = .ref a ∧ SqL K H a (ns.map V.int) := by
  cases r with
  | val d =>
    cases (show d = _ from e)
    have h' : Rep K B (.scr ns) v := h
    unfold Rep at h'
    obtain ⟨a, rfl, q⟩ := h'
    exact ⟨a, rfl, s.seq q⟩
  | own d => cases (show d = _ from e); obtain ⟨_, _, _, q⟩ := h; exact q.elim
  | peek d => cases (show d = _ from e); obtain ⟨_, _, _, q⟩ := h; exact q.elim
  | exc n => exact h.elim
/-- a scalar that is given -/
theorem rep_dV {d : D} {z : V} (e : dV d = some z) : Rep K B d z := by
  cases d <;> first | (cases e; done) | (unfold Rep; exact (Option.some.inj e).symm)
theorem repV {d : D} {z : V} (e : dV d = some z) : RepR K B H0 H (.val d) z := rep_dV e
theorem xst {B1 : Hp} {σ : St} {P : Str → Prop} (x : ∀ n C B' H', Stp B H B' H' → clsOf K n C → P n → EX σ (.ref C) none H') (p : Stp B H B1 H1) : ∀ n C B' H', Stp B1 H1 B' H' → clsOf K n C → P n → EX σ (.ref C) none H' := fun n C B' H' q c h => x n C B' H' (p.trans q) c h
/-- no exception -/
theorem xno {σ : St} {P : Str → Prop} (h : ∀ n, ¬ P n) : ∀ n C B' H', Stp B H B' H' → clsOf K n C → P n → EX σ (.ref C) none H' := fun n _ _ _ _ _ q => absurd q (h n)
/-! ### names, constants -/
def vVar (i : Nat) : TV := fun τ Q => match τ[i]? with
  | some (some (.val d)) => Q (.val d)
  | some (some (.own d)) => Q (.peek d)
  | _ => False
theorem rf_var {i : Nat} : RfE K EX (tVar i) (vVar i) := fun H0 B H τ σ Q Qd s S h _ k => by
  unfold vVar at h
  split at h
  · rename_i d e
    obtain ⟨v, q, rp⟩ := S.val i d e
    exact ⟨v, q, k (.val d) v B H (.refl s) rp h⟩
  · rename_i d e
    obtain ⟨a, q, _, hb, ow⟩ := S.own i d e
    exact ⟨.ref a, q, k (.peek d) (.ref a) B H (.refl s) ⟨a, rfl, hb, ow⟩ h⟩
  · exact h.elim
theorem vv (i : Nat) (hN : X.N[i]? = some x := by rfl) (hv : Vis X.env.scope x := by first | exact Or.inl rfl | exact Or.inr (Or.inl rfl) | exact Or.inr (Or.inr rfl)) (hd : (x == ("__debug__" : Str)) = false := by decide)
    (hcd : (x == ("__classdict__" : Str)) = false := by decide) : VE X EX (.Name x pos) (vVar i) := ⟨_, qv i hN hv hd hcd, rf_var⟩
def vC (d : D) : TV := fun _ Q => Q (.val d)
theorem rf_c {d : D} {z : V} (e : dV d = some z) : RfE K EX (tC z) (vC d) := fun _ B H _ _ _ _ s _ h _ k => k (.val d) z B H (.refl s) (rep_dV e) h
theorem ve_int {k : Int} {j : Nat} : VE X EX (.Constant (.int k) j pos) (vC (.int k)) := ⟨_, qe_int, rf_c rfl⟩
theorem ve_bl {k : Bool} {j : Nat} : VE X EX (.Constant (.bool k) j pos) (vC (.bl k)) := ⟨_, qe_bl, rf_c rfl⟩
theorem ve_non {j : Nat} : VE X EX (.Constant .none j pos) (vC .non) := ⟨_, qe_non, rf_c rfl⟩
theorem ve_str {z : Str} {j : Nat} : VE X EX (.Constant (.str z) j pos) (vC (.str z)) := ⟨_, qe_str, rf_c rfl⟩
/-- a name of the module that holds a text, a whole number -/
theorem ve_globS {d : D} {z : V} {w : Value} (hg : Gl X x) (hm : X.mg x = some w) (r : RelV z w) (e : dV d = some z) (hd : (x == ("__debug__" : Str)) = false := by decide) : VE X EX (.Name x pos) (vC d) := ⟨_, qe_glob hg hm r hd, rf_c e⟩
/-- a name of the module that holds a tuple -/
theorem ve_globT {ds : List D} {xs : List V} {ad : Addr} (hg : Gl X x) (hm : X.mg x = some (.ref ad)) (h : SqT X.K (fun _ => none) ad xs ∧ D.str "" ∈ ds ∧ Reps X.K (fun _ => none) ds xs) (hd : (x == ("__debug__" : Str)) = false := by decide) : VE X EX (.Name x pos) (vC (.tup ds)) :=
  ⟨_, qe_glob (v := .ref ad) hg hm rfl hd, fun _ B H _ _ _ _ s _ q _ k => k (.val _) _ B H (.refl s) (by show Rep X.K B (.tup ds) _; unfold Rep; exact ⟨ad, xs, rfl, .inr ⟨h.1, h.2.1⟩, h.2.2.same (Same.emp B)⟩) q⟩
/-- a name of the module that holds a tuple of texts, to be asked what is in it -/
theorem ve_globK {ss : List Str} {ad : Addr} (hg : Gl X x) (hm : X.mg x = some (.ref ad)) (h : SqT X.K (fun _ => none) ad (ss.map V.str)) (hd : (x == ("__debug__" : Str)) = false := by decide) : VE X EX (.Name x pos) (vC (.kt ss)) :=
  ⟨_, qe_glob (v := .ref ad) hg hm rfl hd, fun _ B H _ _ _ _ s _ q _ k => k (.val _) _ B H (.refl s) (by show Rep X.K B (.kt ss) _; unfold Rep; exact ⟨ad, rfl, h⟩) q⟩
/-- what came is no exception -/
theorem RepR.ok {Q : R → Prop} {k : Prop} (h : RepR K B H0 H r v) (q : exR r Q k) : k := by
  cases r with
  | exc n => exact h.elim
  | val d => exact q
  | own d => exact q
  | peek d => exact q
/-! ### operations -/
def vOp (rd : R → R → (R → Prop) → Prop) (ta tb : TV) : TV := fun τ Q => ta τ fun rx => exR rx Q (tb τ fun ry => exR ry Q (rd rx ry Q))
theorem rf_op {rr : R2} {rd : R → R → (R → Prop) → Prop} {ea eb : TE} (hr : RfO K rr rd) (ha : RfE K EX ea ta) (hb : RfE K EX eb tb) : RfE K EX (tOp rr ea eb) (vOp rd ta tb) := fun H0 B H τ σ Q Qd s S h xc k =>
  ha H0 B H τ σ _ _ s S h xc fun rx x B1 H1 p1 q1 h1 => hb H0 B1 H1 τ σ _ _ p1.s (S.step p1) (q1.ok h1) (xst xc p1) fun ry y B2 H2 p2 q2 h2 =>
    hr B2 H2 x y rx ry _ _ p2.s (q1.pk.step p2) q2.pk (q2.ok h2) fun r v B3 H3 p3 q3 h3 => k r v B3 H3 (p1.trans (p2.trans p3)) (q3.back (p1.trans p2).h) h3
theorem ve_op {op : Operator} {rd : R → R → (R → Prop) → Prop} (hr : VO X (binaryOp op) rd) (ha : VE X EX a ta) (hb : VE X EX b tb) : VE X EX (.BinOp a op b pos) (vOp rd ta tb) :=
  let ⟨_, h1, h2⟩ := hr.u; let ⟨_, a1, a2⟩ := ha.u; let ⟨_, b1, b2⟩ := hb.u; ⟨_, qe_op h1 a1 b1, rf_op h2 a2 b2⟩
theorem ve_cmp {op : CmpOp} {rd : R → R → (R → Prop) → Prop} (hr : VO X (compareOp op) rd) (ha : VE X EX a ta) (hb : VE X EX b tb) (hm : behindInMarks op b = false := by with_unfolding_all rfl) : VE X EX (.Compare a [op] [b] pos) (vOp rd ta tb) :=
  let ⟨_, h1, h2⟩ := hr.u; let ⟨_, a1, a2⟩ := ha.u; let ⟨_, b1, b2⟩ := hb.u; ⟨_, qe_cmpR h1 a1 b1 hm, rf_op h2 a2 b2⟩
theorem ve_ix {rd : R → R → (R → Prop) → Prop} (hr : VX X rd) (ha : VE X EX a ta) (hb : VE X EX b tb) (hs : PlainIx b := by exact fun _ _ => rfl) : VE X EX (.Subscript a b pos) (vOp rd ta tb) :=
  let ⟨_, h1, h2⟩ := hr.u; let ⟨_, a1, a2⟩ := ha.u; let ⟨_, b1, b2⟩ := hb.u; ⟨_, qe_ix h1 a1 b1 hs, rf_op h2 a2 b2⟩
def vBl (t : TV) : TVT := fun τ Q => t τ fun r => match r.d with
  | .bl b => Q b
  | _ => False
theorem rf_bl {ea : TE} (ha : RfE K EX ea ta) : RfT K (tB ea) (vBl ta) := fun H0 B H τ σ Q Qd s S h k => ha H0 B H τ σ _ _ s S h (xno fun _ q => q) fun r v B' H' p q h1 => by
  split at h1
  · rename_i bb e
    exact ⟨bb, q.pk.scal (by rw [e]; rfl), k bb B' H' p h1⟩
  · exact h1.elim
theorem vt_val (ha : VE X EX e ta) (he : ∀ whole, isTrue e X.env whole = (do let v ← whole; standAt e.pos; holding [v] (truthy v)) := by intro _; rfl) : VT X EX e (vBl ta) :=
  let ⟨_, a1, a2⟩ := ha.u; ⟨_, qt_val a1 he, rf_bl a2⟩
theorem vt_cmp {op : CmpOp} {rd : R → R → (R → Prop) → Prop} (hr : VO X (compareOp op) rd) (ha : VE X EX a ta) (hb : VE X EX b tb) (hm : behindInMarks op b = false := by with_unfolding_all rfl) : VT X EX (.Compare a [op] [b] pos) (vBl (vOp rd ta tb)) :=
  let ⟨_, h1, h2⟩ := hr.u; let ⟨_, a1, a2⟩ := ha.u; let ⟨_, b1, b2⟩ := hb.u; ⟨_, qt_cmpR h1 a1 b1 hm, rf_bl (rf_op h2 a2 b2)⟩
/-! ### and, or, not -/
def vAndT (t u : TVT) : TVT := fun τ Q => t τ fun c => if c = true then u τ Q else Q false
def vOrT (t u : TVT) : TVT := fun τ Q => t τ fun c => if c = true then Q true else u τ Q
def vNotT (t : TVT) : TVT := fun τ Q => t τ fun c => Q (!c)
theorem rf_not {e1 : TT} (h1 : RfT K e1 tT) : RfT K (tNot e1) (vNotT tT) := fun H0 B H τ σ Q Qd s S h k => h1 H0 B H τ σ _ _ s S h fun b B' H' p q => k _ B' H' p q
theorem rf_and {e1 e2 : TT} (h1 : RfT K e1 tT) (h2 : RfT K e2 tU) : RfT K (tAnd e1 e2) (vAndT tT tU) := fun H0 B H τ σ Q Qd s S h k => h1 H0 B H τ σ _ _ s S h fun b B' H' p q => by
  cases b with
  | true => exact iteT (h2 H0 B' H' τ σ _ _ p.s (S.step p) (by rw [if_pos rfl] at q; exact q) fun b2 B2 H2 p2 q2 => k b2 B2 H2 (p.trans p2) q2)
  | false => exact iteF (k false B' H' p (by rw [if_neg Bool.false_ne_true] at q; exact q))
theorem rf_or {e1 e2 : TT} (h1 : RfT K e1 tT) (h2 : RfT K e2 tU) : RfT K (tOr e1 e2) (vOrT tT tU) := fun H0 B H τ σ Q Qd s S h k => h1 H0 B H τ σ _ _ s S h fun b B' H' p q => by
  cases b with
  | true => exact iteT (k true B' H' p (by rw [if_pos rfl] at q; exact q))
  | false => exact iteF (h2 H0 B' H' τ σ _ _ p.s (S.step p) (by rw [if_neg Bool.false_ne_true] at q; exact q) fun b2 B2 H2 p2 q2 => k b2 B2 H2 (p.trans p2) q2)
theorem vt_not (h : VT X EX a tT) : VT X EX (.UnaryOp .Not a pos) (vNotT tT) := let ⟨_, a1, a2⟩ := h.u; ⟨_, qt_not a1, rf_not a2⟩
theorem vw_and1 (h : VT X EX a tT) : VW X EX (.BoolOp .And [a] pos) tT := let ⟨_, a1, a2⟩ := h.u; ⟨_, qw_and1 a1, a2⟩
theorem vw_or1 (h : VT X EX a tT) : VW X EX (.BoolOp .Or [a] pos) tT := let ⟨_, a1, a2⟩ := h.u; ⟨_, qw_or1 a1, a2⟩
theorem vw_and (ha : VT X EX a tT) (hb : VW X EX (.BoolOp .And (b :: es) pos) tU) : VW X EX (.BoolOp .And (a :: b :: es) pos) (vAndT tT tU) := let ⟨_, a1, a2⟩ := ha.u; let ⟨_, b1, b2⟩ := hb.u; ⟨_, qw_and a1 b1, rf_and a2 b2⟩
theorem vw_or (ha : VT X EX a tT) (hb : VW X EX (.BoolOp .Or (b :: es) pos) tU) : VW X EX (.BoolOp .Or (a :: b :: es) pos) (vOrT tT tU) := let ⟨_, a1, a2⟩ := ha.u; let ⟨_, b1, b2⟩ := hb.u; ⟨_, qw_or a1 b1, rf_or a2 b2⟩
theorem vw_t (h : VW X EX e tT) : VT X EX e tT := let ⟨_, a1, a2⟩ := h.u; ⟨_, qw_t a1, a2⟩
def vAndE (ta tb : TV) : TV := fun τ Q => ta τ fun r => match r.d with
  | .bl c => if c = true then tb τ Q else Q (.val (.bl false))
  | _ => False
def vOrE (ta tb : TV) : TV := fun τ Q => ta τ fun r => match r.d with
  | .bl c => if c = true then Q (.val (.bl true)) else tb τ Q
  | _ => False
def vNotE (ta : TV) : TV := fun τ Q => ta τ fun r => match r.d with
  | .bl c => Q (.val (.bl (!c)))
  | _ => False
theorem ve_one {op : BoolOp} (h : VE X EX a ta) : VE X EX (.BoolOp op [a] pos) ta := let ⟨_, a1, a2⟩ := h.u; ⟨_, qe_one a1, a2⟩
theorem ve_and (ha : VE X EX a ta) (hb : VE X EX (.BoolOp .And (b :: es) pos) tb) : VE X EX (.BoolOp .And (a :: b :: es) pos) (vAndE ta tb) :=
  let ⟨_, a1, a2⟩ := ha.u; let ⟨_, b1, b2⟩ := hb.u; ⟨_, qe_and a1 b1, fun H0 B H τ σ Q Qd s S h xc k => a2 H0 B H τ σ _ _ s S h (xno fun _ q => q) fun r v B' H' p q h1 => by
    split at h1
    · rename_i c e
      refine ⟨c, q.pk.scal (by rw [e]; rfl), ?_⟩
      cases c with
      | true => exact iteT (b2 H0 B' H' τ σ _ _ p.s (S.step p) (by rw [if_pos rfl] at h1; exact h1) (xst xc p) fun r2 v2 B2 H2 p2 q2 h2 => k r2 v2 B2 H2 (p.trans p2) (q2.back p.h) h2)
      | false => exact iteF (k (.val (.bl false)) _ B' H' p (repV (d := .bl false) rfl) (by rw [if_neg Bool.false_ne_true] at h1; exact h1))
    · exact h1.elim⟩
theorem ve_or (ha : VE X EX a ta) (hb : VE X EX (.BoolOp .Or (b :: es) pos) tb) : VE X EX (.BoolOp .Or (a :: b :: es) pos) (vOrE ta tb) :=
  let ⟨_, a1, a2⟩ := ha.u; let ⟨_, b1, b2⟩ := hb.u; ⟨_, qe_or a1 b1, fun H0 B H τ σ Q Qd s S h xc k => a2 H0 B H τ σ _ _ s S h (xno fun _ q => q) fun r v B' H' p q h1 => by
    split at h1
    · rename_i c e
      refine ⟨c, q.pk.scal (by rw [e]; rfl), ?_⟩
      cases c with
      | true => exact iteT (k (.val (.bl true)) _ B' H' p (repV (d := .bl true) rfl) (by rw [if_pos rfl] at h1; exact h1))
      | false => exact iteF (b2 H0 B' H' τ σ _ _ p.s (S.step p) (by rw [if_neg Bool.false_ne_true] at h1; exact h1) (xst xc p) fun r2 v2 B2 H2 p2 q2 h2 => k r2 v2 B2 H2 (p.trans p2) (q2.back p.h) h2)
    · exact h1.elim⟩
theorem ve_not (ha : VE X EX a ta) : VE X EX (.UnaryOp .Not a pos) (vNotE ta) :=
  let ⟨_, a1, a2⟩ := ha.u; ⟨_, qe_not a1, fun H0 B H τ σ Q Qd s S h xc k => a2 H0 B H τ σ _ _ s S h (xno fun _ q => q) fun r v B' H' p q h1 => by
    split at h1
    · rename_i c e
      exact ⟨c, q.pk.scal (by rw [e]; rfl), k (.val (.bl (!c))) _ B' H' p (repV (d := .bl (!c)) rfl) h1⟩
    · exact h1.elim⟩
def vIfE (tT : TVT) (ta tb : TV) : TV := fun τ Q => tT τ fun c => if c = true then ta τ Q else tb τ Q
theorem ve_ifExp (hc : VT X EX c tT) (ha : VE X EX a ta) (hb : VE X EX b tb) : VE X EX (.IfExp c a b pos) (vIfE tT ta tb) :=
  let ⟨_, c1, c2⟩ := hc.u; let ⟨_, a1, a2⟩ := ha.u; let ⟨_, b1, b2⟩ := hb.u; ⟨_, qe_ifExp c1 a1 b1, fun H0 B H τ σ Q Qd s S h xc k => c2 H0 B H τ σ _ _ s S h fun cb B' H' p q => by
    cases cb with
    | true => exact iteT (a2 H0 B' H' τ σ _ _ p.s (S.step p) (by rw [if_pos rfl] at q; exact q) (xst xc p) fun r2 v2 B2 H2 p2 q2 h2 => k r2 v2 B2 H2 (p.trans p2) (q2.back p.h) h2)
    | false => exact iteF (b2 H0 B' H' τ σ _ _ p.s (S.step p) (by rw [if_neg Bool.false_ne_true] at q; exact q) (xst xc p) fun r2 v2 B2 H2 p2 q2 h2 => k r2 v2 B2 H2 (p.trans p2) (q2.back p.h) h2)⟩
/-! ### arguments, tuples, lists -/
/-- the arguments have come, or an exception goes on -/
def exA : AR → (R → Prop) → (List D → Prop) → Prop
  | .ok ds, _, k => k ds
  | .exc n, Q, _ => Q (.exc n)
def vNil : TVA := fun _ Q => Q (.ok [])
def moreA (d : D) : AR → AR
  | .ok ds => .ok (d :: ds)
  | .exc n => .exc n
def excA : R → (AR → Prop) → Prop → Prop
  | .exc n, Q, _ => Q (.exc n)
  | .val _, _, k => k
  | .own _, _, k => k
  | .peek _, _, k => k
theorem RepR.okA {Q : AR → Prop} {k : Prop} (h : RepR K B H0 H r v) (q : excA r Q k) : k := by
  cases r with
  | exc n => exact h.elim
  | val d => exact q
  | own d => exact q
  | peek d => exact q
def vCons (te : TV) (tA : TVA) : TVA := fun τ Q => te τ fun r => excA r Q (pubR r fun d => tA τ fun a => Q (moreA d a))
theorem va_nil : VA X EX [] vNil := ⟨_, qa_nil, fun _ B H _ _ _ _ s _ h _ k => k [] [] B H (.refl s) (by unfold Reps; rfl) h⟩
theorem vac (ha : VE X EX e te) (hr : VA X EX es tA) (hs : plainE e = true := by rfl) : VA X EX (e :: es) (vCons te tA) :=
  let ⟨_, a1, a2⟩ := ha.u; let ⟨_, b1, b2⟩ := hr.u; ⟨_, qac a1 b1 hs, fun H0 B H τ σ Q Qd s S h xc k => a2 H0 B H τ σ _ _ s S h xc fun r v B1 H1 p q h1 => by
    obtain ⟨d, B2, p2, _, rp, h2⟩ := pub p q (q.okA h1)
    exact b2 H0 B2 H1 τ σ _ _ p2.s (S.step p2) h2 (xst xc p2) fun ds vs B3 H3 p3 q3 h3 => k (d :: ds) (v :: vs) B3 H3 (p2.trans p3) (by unfold Reps; exact ⟨v, vs, rfl, rp.same p3.b, q3⟩) h3⟩
def vTup (tA : TVA) : TV := fun τ Q => tA τ fun a => exA a Q fun ds => ds.length ≤ sizeLine ∧ Q (.val (.tup ds))
def vLst (tA : TVA) : TV := fun τ Q => tA τ fun a => exA a Q fun ds => ds.length ≤ sizeLine ∧ Q (.own (.lst ds))
theorem Reps.up {ds : List D} {xs : List V} (h : Reps K B ds xs) (s : Same B B') : Reps K B' ds xs := h.same s
theorem rep_newT {ds : List D} {xs : List V} {q : Addr} (h : Reps K B ds xs) (hb : B q = none) : Rep K (upd B q (.tup xs)) (.tup ds) (.ref q) := by
  unfold Rep
  exact ⟨q, xs, rfl, .inl upd_same, h.same (same_upd hb _)⟩
theorem own_newL {ds : List D} {xs : List V} {q : Addr} (h : Reps K B ds xs) : OwnAt K B (upd H q (.lst xs)) (.lst ds) q := ⟨xs, upd_same, h⟩
theorem ve_tup {k : Nat} (h : VA X EX es tA) : VE X EX (.Tuple es k pos) (vTup tA) :=
  let ⟨_, a1, a2⟩ := h.u; ⟨_, qe_tup a1, fun H0 B H τ σ Q Qd s S h xc k => a2 H0 B H τ σ _ _ s S h xc fun ds vs B1 H1 p q h1 =>
    ⟨by rw [← q.length]; exact h1.1, fun ad had => k (.val (.tup ds)) _ (upd B1 ad (.tup vs)) _ (p.trans (.new p.s had)) (rep_newT q (p.s.free had)) h1.2⟩⟩
theorem ve_lst (h : VA X EX es tA) : VE X EX (.List es pos) (vLst tA) :=
  let ⟨_, a1, a2⟩ := h.u; ⟨_, qe_lst a1, fun H0 B H τ σ Q Qd s S h xc k => a2 H0 B H τ σ _ _ s S h xc fun ds vs B1 H1 p q h1 =>
    ⟨by rw [← q.length]; exact h1.1, fun ad had => k (.own (.lst ds)) _ B1 _ (p.trans (.grow p.s (same_upd had _))) ⟨ad, rfl, p.h.free had, p.s.free had, own_newL q⟩ h1.2⟩⟩
/-! ### a def that may be called, by what it promises of data -/
abbrev DP := List D → (R → Prop) → Prop
def spOf (K : PySem.W.Frag) (g : DP) : Sp := fun vs H Q E => ∃ ds B Qd, Same B H ∧ Reps K B ds vs ∧ g ds Qd ∧ (∀ n C B' H', Qd (.exc n) → Stp B H B' H' → clsOf K n C → E (.ref C) none H') ∧ ∀ r v B' H', Qd r → Stp B H B' H' → RepR K B' H H' r v → Q v H'
def vCall (g : DP) (tA : TVA) : TV := fun τ Q => tA τ fun a => exA a Q fun ds => g ds Q
/-- a call of a def that raises nothing -/
def vCallN (g : DP) (tA : TVA) : TV := fun τ Q => tA τ fun a => exA a Q fun ds => g ds fun r => exR r (fun _ => False) (Q r)
theorem ve_cal {k : Nat} {ps : List Str} {g : DP} (C : Cal X.prog X.w X.K X.mg X.base k x ps (spOf X.K g)) (hr : Room k X.A) (hg : Gl X x) (ha : VA X EX (e :: es) tA) (hp : (e :: es).all plainE = true := by rfl) (hdb : (x == ("__debug__" : Str)) = false := by decide) :
    VE X EX (.Call (.Name x p) (e :: es) [] pos) (vCallN g tA) :=
  let ⟨_, a1, a2⟩ := ha.u; ⟨_, qe_cal C hr hg a1 hp hdb, fun H0 B H τ σ Q Qd s S h xc k => a2 H0 B H τ σ _ _ s S h xc fun ds vs B1 H1 p q h1 =>
    ⟨ds, B1, _, p.s, by rw [List.append_nil]; exact q, h1, fun n C B' H' hq _ _ => hq.elim, fun r v B2 H2 hq p2 q2 => k r v B2 H2 (p.trans p2) (q2.back p.h) (q2.ok hq)⟩⟩
/-- a built-in that reads its one argument -/
def vF1 (rd : R → (R → Prop) → Prop) (te : TV) : TV := fun τ Q => te τ fun r => exR r Q (rd r Q)
theorem rf_f1 {rr : List V → Hp → VK → Prop} {rd : R → (R → Prop) → Prop} {ea : TE} (hr : RfC K rr rd) (ha : RfE K EX ea te) : RfE K EX (tCB rr (tCons ea tNil)) (vF1 rd te) := fun H0 B H τ σ Q Qd s S h xc k =>
  ha H0 B H τ σ _ _ s S h xc fun rx x B1 H1 p1 q1 h1 => hr B1 H1 x rx _ _ p1.s q1.pk (q1.ok h1) fun r v B2 H2 p2 q2 h2 => k r v B2 H2 (p1.trans p2) (q2.back p1.h) h2
theorem ve_fb {id : String} {rd : R → (R → Prop) → Prop} (hc : VF X (.builtin id) rd) (hg : Gl X x) (hm : X.mg x = none) (hv : bootBuiltins x = some (.builtin id)) (ha : VE X EX e te) (hp : plainE e = true := by rfl) (hn : x ≠ "__name__" := by decide)
    (hdb : (x == ("__debug__" : Str)) = false := by decide) : VE X EX (.Call (.Name x p) [e] [] pos) (vF1 rd te) :=
  let ⟨_, c1, c2⟩ := hc.u; let ⟨_, a1, a2⟩ := ha.u; ⟨_, qcb c1 hg hm hv (qac a1 qa_nil hp) (by simp [hp]) hn hdb, rf_f1 c2 a2⟩
theorem ve_ft {T : String} {rd : R → (R → Prop) → Prop} (hc : VF X (.type T) rd) (hg : Gl X x) (hm : X.mg x = none) (hv : bootBuiltins x = some (.type T)) (ha : VE X EX e te) (hp : plainE e = true := by rfl) (hn : x ≠ "__name__" := by decide)
    (hdb : (x == ("__debug__" : Str)) = false := by decide) : VE X EX (.Call (.Name x p) [e] [] pos) (vF1 rd te) :=
  let ⟨_, c1, c2⟩ := hc.u; let ⟨_, a1, a2⟩ := ha.u; ⟨_, qct c1 hg hm hv (qac a1 qa_nil hp) (by simp [hp]) hn hdb, rf_f1 c2 a2⟩
end
end L2
/-! THE VALUE LAYER, operations and built-ins. -/
namespace L2
open PySem PySem.Spec PyProof.Rows
section
variable {X : Cx} {EX : St → XK} {K : PySem.W.Frag} {B H B' H' H0 : Hp}
theorem op_catP : OpR X (binaryOp .Add) (fun x y H Q => ∃ a b xs ys, x = .ref a ∧ y = .ref b ∧ SqT X.K H a xs ∧ SqT X.K H b ys ∧ xs.length + ys.length ≤ sizeLine ∧ (xs = [] → Q (.ref b) H) ∧ (xs ≠ [] → ys = [] → Q (.ref a) H) ∧
    (xs ≠ [] → ys ≠ [] → ∀ p, H p = none → Q (.ref p) (upd H p (.tup (xs ++ ys))))) := by
  intro pins s σ H x y v u Q I rx ry h
  obtain ⟨a, b, xs, ys, rfl, rfl, ha, hb, hz, q1, q2, q3⟩ := h
  by_cases hx : xs = []
  · subst hx
    cases rx
    cases ry
    obtain ⟨its, r1, p1, _⟩ := I.tuple ha
    obtain ⟨its2, r2, p2, _⟩ := I.tuple hb
    obtain ⟨⟨cls, dd, data, sl⟩, ho, hc, n, hd⟩ := id p1
    obtain ⟨⟨cls2, dd2, data2, sl2⟩, ho2, hc2, n2, hd2⟩ := id p2
    simp only at hc hd hc2 hd2
    subst hc hd hc2 hd2
    have e1 : its = [] := r1.nil_iff.mpr rfl
    exact concat_meets ⟨_, ho, rfl⟩ ⟨_, ho2, rfl⟩ noFill_tuple_add seq_tuple_add PySem.F.slot_tuple_add PySem.F.entry_tuple_add (PySem.F.args_tuple_add_2 _ _)
      (tuple_addW0 a b its.toArray its2.toArray n n2 dd dd2 sl sl2 (by simp [e1])) ⟨ho, ho2, ⟨.ref b, H, I, rfl, q1 rfl⟩⟩
  · exact op_catT pins s σ H (.ref a) (.ref b) v u Q I rx ry ⟨a, b, xs, ys, rfl, rfl, ha, hb, hx, hz, fun e => q2 hx e, fun e p hp => q3 hx e p hp⟩
theorem sl_tupP : SlR X (fun x lo hi H Q => ∃ a xs, x = .ref a ∧ SqT X.K H a xs ∧ ((HT.sIx xs.length 0 lo = 0 ∧ HT.sIx xs.length xs.length hi = xs.length) → Q (.ref a) H) ∧
    (¬ (HT.sIx xs.length 0 lo = 0 ∧ HT.sIx xs.length xs.length hi = xs.length) → ∀ p, H p = none → Q (.ref p) (upd H p (.tup (cutV xs lo hi))))) := by
  intro pins s σ H x v vl vu lo hi sl Q I rx hs pl pu h
  obtain ⟨a, xs, rfl, hx, q1, q2⟩ := h
  by_cases hw : HT.sIx xs.length 0 lo = 0 ∧ HT.sIx xs.length xs.length hi = xs.length
  · cases rx
    obtain ⟨its, r, ht, hz⟩ := I.tuple hx
    have hlen : its.toArray.size = xs.length := by rw [List.size_toArray]; exact r.length.symm
    refine ⟨"tuple", _, PyProof.Rows.slot_tuple_getitem.lookup, ht.typeIs, ?_⟩
    exact HT.getItem_tuple_whole ht hs pl pu (by rw [hlen]; exact hw) ⟨.ref a, H, I, rfl, q1 hw⟩
  · exact sl_tup pins s σ H (.ref a) v vl vu lo hi sl Q I rx hs pl pu ⟨a, xs, rfl, hx, hw, q2 hw⟩
theorem Reps.append {ds es : List D} {xs ys : List V} (h1 : Reps K B ds xs) (h2 : Reps K B es ys) : Reps K B (ds ++ es) (xs ++ ys) := by
  induction ds generalizing xs with
  | nil => unfold Reps at h1; subst h1; exact h2
  | cons d ds ih =>
    unfold Reps at h1
    obtain ⟨x, r, rfl, q1, q2⟩ := h1
    show Reps K B (d :: (ds ++ es)) (x :: (r ++ ys))
    unfold Reps
    exact ⟨x, r ++ ys, rfl, q1, ih q2⟩
theorem Reps.nil : Reps K B [] [] := by unfold Reps; rfl
theorem Reps.cons {d : D} {ds : List D} {x : V} {xs : List V} (h1 : Rep K B d x) (h2 : Reps K B ds xs) : Reps K B (d :: ds) (x :: xs) := by unfold Reps; exact ⟨x, xs, rfl, h1, h2⟩
theorem Reps.one {d : D} {x : V} (h : Rep K B d x) : Reps K B [d] [x] := .cons h .nil
theorem Reps.drop : ∀ (n : Nat) {ds : List D} {xs : List V}, Reps K B ds xs → Reps K B (ds.drop n) (xs.drop n)
  | 0, _, _, h => h
  | n + 1, [], _, h => by unfold Reps at h; subst h; exact .nil
  | n + 1, d :: ds, _, h => by
    unfold Reps at h
    obtain ⟨x, r, rfl, q1, q2⟩ := h
    exact Reps.drop n q2
theorem Reps.take : ∀ (n : Nat) {ds : List D} {xs : List V}, Reps K B ds xs → Reps K B (ds.take n) (xs.take n)
  | 0, _, _, _ => .nil
  | n + 1, [], _, h => by unfold Reps at h; subst h; exact .nil
  | n + 1, d :: ds, _, h => by
    unfold Reps at h
    obtain ⟨x, r, rfl, q1, q2⟩ := h
    exact .cons q1 (Reps.take n q2)
theorem Reps.set : ∀ (n : Nat) {ds : List D} {xs : List V} {d : D} {x : V}, Reps K B ds xs → Rep K B d x → Reps K B (ds.set n d) (xs.set n x)
  | _, [], _, _, _, h, _ => by unfold Reps at h; subst h; exact .nil
  | 0, d :: ds, _, _, _, h, q => by
    unfold Reps at h
    obtain ⟨x, r, rfl, q1, q2⟩ := h
    exact .cons q q2
  | n + 1, d :: ds, _, _, _, h, q => by
    unfold Reps at h
    obtain ⟨x, r, rfl, q1, q2⟩ := h
    exact .cons q1 (Reps.set n q2 q)
theorem Reps.cut {ds : List D} {xs : List V} (lo hi : Option Int) (h : Reps K B ds xs) : Reps K B (cutL ds lo hi) (cutV xs lo hi) := by
  unfold cutL cutV
  rw [h.length]
  exact (h.drop _).take _
theorem Reps.ints (ns : List Int) : Reps K B (ns.map D.int) (ns.map V.int) := by
  induction ns with
  | nil => exact .nil
  | cons n ns ih => exact .cons (rep_dV (d := .int n) rfl) ih
theorem Reps.strs : ∀ {ss : List Str} {xs : List V}, Reps K B (ss.map D.str) xs → xs = ss.map V.str
  | [], _, h => by unfold Reps at h; exact h
  | s :: ss, _, h => by
    have h' : Reps K B (.str s :: ss.map D.str) _ := h
    unfold Reps at h'
    obtain ⟨x, r, rfl, q1, q2⟩ := h'
    unfold Rep at q1
    rw [q1, Reps.strs q2]
    rfl
theorem Reps.bls : ∀ {ss : List Bool} {xs : List V}, Reps K B (ss.map D.bl) xs → xs = ss.map V.bl
  | [], _, h => by unfold Reps at h; exact h
  | s :: ss, _, h => by
    have h' : Reps K B (.bl s :: ss.map D.bl) _ := h
    unfold Reps at h'
    obtain ⟨x, r, rfl, q1, q2⟩ := h'
    unfold Rep at q1
    rw [q1, Reps.bls q2]
    rfl
theorem Reps.atI {ds : List D} {xs : List V} {i : Int} {d : D} (h : Reps K B ds xs) (e : L2.atI ds i = some d) : ∃ x, L2.atI xs i = some x ∧ Rep K B d x := by
  unfold L2.atI at e ⊢
  rw [← h.length]
  cases q : ixN ds.length i with
  | none => rw [q] at e; cases e
  | some j =>
    rw [q] at e
    exact h.at e
/-! ### + -/
def vAdd (rx ry : R) (Q : R → Prop) : Prop := match rx.d, ry.d with
  | .int i, .int j => Q (.val (.int (i + j)))
  | .str a, .str b => a.length + b.length ≤ sizeLine ∧ Q (.val (.str (a ++ b)))
  | .tup a, .tup b => a.length + b.length ≤ sizeLine ∧ Q (.val (.tup (a ++ b)))
  | .lst a, .lst b => a.length + b.length ≤ sizeLine ∧ Q (.own (.lst (a ++ b)))
  | _, _ => False
theorem vo_add : VO X (binaryOp .Add) vAdd := by
  refine ⟨_, op_add.or (op_add_str.or (op_catP.or op_cat)), fun B H x y rx ry Q Qd s px py h k => ?_⟩
  unfold vAdd at h
  split at h
  · rename_i i j e1 e2
    exact .inl ⟨i, j, px.scal (by rw [e1]; rfl), py.scal (by rw [e2]; rfl), k _ _ B H (.refl s) (repV rfl) h⟩
  · rename_i i j e1 e2
    exact .inr (.inl ⟨i, j, px.scal (by rw [e1]; rfl), py.scal (by rw [e2]; rfl), h.1, k _ _ B H (.refl s) (repV rfl) h.2⟩)
  · rename_i ds es e1 e2
    obtain ⟨a, xs, rfl, h1, r1⟩ := px.tup e1
    obtain ⟨b, ys, rfl, h2, r2⟩ := py.tup e2
    refine .inr (.inr (.inl ⟨a, b, xs, ys, rfl, rfl, s.sqT h1.sq, s.sqT h2.sq, by rw [← r1.length, ← r2.length]; exact h.1, fun z => ?_, fun _ z => ?_, fun _ _ p hp => ?_⟩))
    · refine k _ _ B H (.refl s) ?_ h.2
      show Rep X.K B (.tup (ds ++ es)) _
      have e : ds = [] := List.eq_nil_of_length_eq_zero (by rw [r1.length, z]; rfl)
      unfold Rep
      exact ⟨b, ys, rfl, by rw [e]; exact h2, by rw [e]; exact r2⟩
    · refine k _ _ B H (.refl s) ?_ h.2
      show Rep X.K B (.tup (ds ++ es)) _
      have e : es = [] := List.eq_nil_of_length_eq_zero (by rw [r2.length, z]; rfl)
      unfold Rep
      exact ⟨a, xs, rfl, by rw [e, List.append_nil]; exact h1, by rw [e, List.append_nil]; exact r1⟩
    · exact k (.val (.tup (ds ++ es))) _ (upd B p (.tup (xs ++ ys))) _ (.new s hp) (rep_newT (r1.append r2) (s.free hp)) h.2
  · rename_i ds es e1 e2
    obtain ⟨a, xs, rfl, h1, r1⟩ := px.lst s e1
    obtain ⟨b, ys, rfl, h2, r2⟩ := py.lst s e2
    exact .inr (.inr (.inr ⟨a, b, xs, ys, rfl, rfl, h1, h2, by rw [← r1.length, ← r2.length]; exact h.1, fun p hp => k (.own (.lst (ds ++ es))) _ B _ (.grow s (same_upd hp _)) ⟨p, rfl, hp, s.free hp, own_newL (r1.append r2)⟩ h.2⟩))
  · exact h.elim
/-! ### whole numbers -/
def vI2 (C : Int → Int → Prop) (f : Int → Int → D) (rx ry : R) (Q : R → Prop) : Prop := match rx.d, ry.d with
  | .int i, .int j => C i j ∧ Q (.val (f i j))
  | _, _ => False
def vI2' (f : Int → Int → D) (rx ry : R) (Q : R → Prop) : Prop := match rx.d, ry.d with
  | .int i, .int j => Q (.val (f i j))
  | _, _ => False
theorem vo_i2 {g : Value → Value → Sem Value} {C : Int → Int → Prop} {f : Int → Int → D} {f' : Int → Int → V} (hf : ∀ i j, dV (f i j) = some (f' i j)) (h : OpR X g (rI C f')) : VO X g (vI2 C f) := by
  refine ⟨_, h, fun B H x y rx ry Q Qd s px py h k => ?_⟩
  unfold vI2 at h
  split at h
  · rename_i i j e1 e2
    exact ⟨i, j, px.scal (by rw [e1]; rfl), py.scal (by rw [e2]; rfl), h.1, k _ _ B H (.refl s) (repV (hf i j)) h.2⟩
  · exact h.elim
theorem vo_i2' {g : Value → Value → Sem Value} {f : Int → Int → D} {f' : Int → Int → V} (hf : ∀ i j, dV (f i j) = some (f' i j)) (h : OpR X g (rI0 f')) : VO X g (vI2' f) := by
  refine ⟨_, h, fun B H x y rx ry Q Qd s px py h k => ?_⟩
  unfold vI2' at h
  split at h
  · rename_i i j e1 e2
    exact ⟨i, j, px.scal (by rw [e1]; rfl), py.scal (by rw [e2]; rfl), k _ _ B H (.refl s) (repV (hf i j)) h⟩
  · exact h.elim
abbrev vSub := vI2' fun i j => .int (i - j)
abbrev vMul := vI2 CMul fun i j => .int (i * j)
abbrev vDiv := vI2 CDiv fun i j => .int (i / j)
abbrev vMod := vI2 (fun _ j => 0 < j) fun i j => .int (i % j)
abbrev vPow := vI2 CPow fun i j => .int (i ^ j.toNat)
abbrev vLt := vI2' fun i j => .bl (decide (i < j))
abbrev vLe := vI2' fun i j => .bl (decide (i ≤ j))
abbrev vGt := vI2' fun i j => .bl (decide (j < i))
abbrev vGe := vI2' fun i j => .bl (decide (j ≤ i))
theorem vo_sub : VO X (binaryOp .Sub) vSub := vo_i2' (fun _ _ => rfl) op_sub
theorem vo_mul : VO X (binaryOp .Mult) vMul := vo_i2 (fun _ _ => rfl) op_mul
theorem vo_div : VO X (binaryOp .FloorDiv) vDiv := vo_i2 (fun _ _ => rfl) op_fdiv
theorem vo_mod : VO X (binaryOp .Mod) vMod := vo_i2 (fun _ _ => rfl) op_mod
theorem vo_pow : VO X (binaryOp .Pow) vPow := vo_i2 (fun _ _ => rfl) op_pow
theorem vo_lt : VO X (compareOp .Lt) vLt := vo_i2' (fun _ _ => rfl) op_lt
theorem vo_le : VO X (compareOp .LtE) vLe := vo_i2' (fun _ _ => rfl) op_le
theorem vo_gt : VO X (compareOp .Gt) vGt := vo_i2' (fun _ _ => rfl) op_gt
theorem vo_ge : VO X (compareOp .GtE) vGe := vo_i2' (fun _ _ => rfl) op_ge
/-! ### == and is -/
def vEq (rx ry : R) (Q : R → Prop) : Prop := cmpD rx.d ry.d = true ∧ depD rx.d ≤ 50 ∧ Q (.val (.bl (eqD rx.d ry.d)))
theorem vo_eq (hu : X.A.units + 64 < cLine) : VO X (compareOp .Eq) vEq :=
  ⟨_, op_eqD (by omega), fun B H x y rx ry Q Qd s px py h k => ⟨rx.d, ry.d, px.rep s, py.rep s, h.1, h.2.1, k _ _ B H (.refl s) (repV rfl) h.2.2⟩⟩
/-- != of scalars -/
def vNe (rx ry : R) (Q : R → Prop) : Prop := match dV rx.d, dV ry.d with
  | some u, some w => scal u w = true ∧ Q (.val (.bl (!decide (u = w))))
  | _, _ => False
theorem vo_ne : VO X (compareOp .NotEq) vNe := by
  refine ⟨_, op_ne, fun B H x y rx ry Q Qd s px py h k => ?_⟩
  unfold vNe at h
  split at h
  · rename_i u w e1 e2
    cases px.scal e1
    cases py.scal e2
    exact ⟨h.1, k _ _ B H (.refl s) (repV rfl) h.2⟩
  · exact h.elim
/-! ### cuts and places -/
def vSlR (rx : R) (lo hi : Option Int) (Q : R → Prop) : Prop := match rx.d with
  | .str z => z.length ≤ sizeLine ∧ Q (.val (.str (Txt.slice z lo hi)))
  | .tup ds => Q (.val (.tup (cutL ds lo hi)))
  | .lst ds => Q (.own (.lst (cutL ds lo hi)))
  | .scr ns => Q (.own (.lst ((cutL ns lo hi).map D.int)))
  | _ => False
abbrev TVO := VSt → (Option Int → Prop) → Prop
def vNoPart : TVO := fun _ Q => Q none
def vPart (te : TV) : TVO := fun τ Q => te τ fun r => match r.d with
  | .int i => Q (some i)
  | _ => False
def RfOp (K : PySem.W.Frag) (to : TO) (t : TVO) : Prop := ∀ (H0 B H : Hp) (τ : VSt) (σ : St) (Q : Option Int → Hp → Prop) (Qd : Option Int → Prop), Same B H → Slots K H0 B H τ σ → t τ Qd → (∀ o B' H', Stp B H B' H' → Qd o → Q o H') → to σ H Q
structure VPt (X : Cx) (EX : St → XK) (e : Option Expr) (t : TVO) : Prop where
  u : ∃ to, QO X e to ∧ RfOp X.K to t
variable {e : Expr} {te ta : TV} {es : List Expr} {lo hi : Option Expr} {tl th : TVO} {pos p p2 apos cpos : Pos} {x : Str}
theorem vp_none : VPt X EX none vNoPart := ⟨_, qo_none, fun _ B H _ _ _ _ s _ h k => k _ B H (.refl s) h⟩
theorem vp_some (h : VE X EX e te) : VPt X EX (some e) (vPart te) := let ⟨_, a1, a2⟩ := h.u; ⟨_, qo_some a1, fun H0 B H τ σ Q Qd s S h k => a2 H0 B H τ σ _ _ s S h (xno fun _ q => q) fun r v B' H' p q h1 => by
    split at h1
    · rename_i i e
      exact ⟨i, q.pk.scal (by rw [e]; rfl), k _ B' H' p h1⟩
    · exact h1.elim⟩
def vSlice (te : TV) (tl th : TVO) : TV := fun τ Q => te τ fun r => exR r Q (tl τ fun l => th τ fun u => vSlR r l u Q)
theorem ve_slice (he : VE X EX e te) (hl : VPt X EX lo tl) (hh : VPt X EX hi th) : VE X EX (.Subscript e (.Slice lo hi none p2) pos) (vSlice te tl th) :=
  let ⟨_, a1, a2⟩ := he.u; let ⟨_, b1, b2⟩ := hl.u; let ⟨_, c1, c2⟩ := hh.u; ⟨_, qe_slice (sl_str.or (sl_tupP.or sl_list)) a1 b1 c1, fun H0 B H τ σ Q Qd s S h xc k =>
    a2 H0 B H τ σ _ _ s S h xc fun r v B1 H1 p1 q1 h1 => b2 H0 B1 H1 τ σ _ _ p1.s (S.step p1) (q1.ok h1) fun l B2 H2 p2 h2 => c2 H0 B2 H2 τ σ _ _ p2.s (S.step (p1.trans p2)) h2 fun u B3 H3 p3 h3 => by
      have p12 := p1.trans p2
      have pp := p12.trans p3
      have pk := (q1.pk.step p2).step p3
      unfold vSlR at h3
      split at h3
      · rename_i z ez
        cases pk.scal (z := .str z) (by rw [ez]; rfl)
        exact .inl ⟨z, rfl, h3.1, k _ _ B3 H3 pp (repV rfl) h3.2⟩
      · rename_i ds ed
        obtain ⟨a, xs, rfl, h1, r1⟩ := pk.tup ed
        refine .inr (.inl ⟨a, xs, rfl, p3.s.sqT h1.sq, fun w => ?_, fun w p hp => ?_⟩)
        · refine k _ _ B3 H3 pp ?_ h3
          show Rep X.K B3 (.tup (cutL ds l u)) _
          unfold Rep
          have hc : cutL ds l u = ds := by
            unfold cutL
            rw [r1.length, w.1, w.2, List.drop_zero, Nat.sub_zero, ← r1.length, List.take_length]
          rw [hc]
          exact ⟨a, xs, rfl, h1, r1⟩
        · exact k (.val (.tup (cutL ds l u))) _ (upd B3 p (.tup (cutV xs l u))) _ (pp.trans (.new p3.s hp)) (rep_newT (r1.cut l u) (p3.s.free hp)) h3
      · rename_i ds ed
        obtain ⟨a, xs, rfl, h1, r1⟩ := pk.lst p3.s ed
        exact .inr (.inr ⟨a, xs, rfl, SqL.of h1, fun p hp => k (.own _) _ B3 _ (pp.trans (.grow p3.s (same_upd hp _))) ⟨p, rfl, pp.h.free hp, p3.s.free hp, own_newL (r1.cut l u)⟩ h3⟩)
      · rename_i ns en
        obtain ⟨a, rfl, h1⟩ := pk.scr p3.s en
        refine .inr (.inr ⟨a, _, rfl, h1, fun p hp => k (.own _) _ B3 _ (pp.trans (.grow p3.s (same_upd hp _))) ⟨p, rfl, pp.h.free hp, p3.s.free hp, ?_⟩ h3⟩)
        rw [cutV_map]
        exact own_newL (.ints _)
      · exact h3.elim⟩
def vIxR (rx ry : R) (Q : R → Prop) : Prop := match rx.d, ry.d with
  | .str z, .int i => z.length ≤ sizeLine ∧ ∃ c, atI z.cps.toList i = some c ∧ Q (.val (.str ⟨#[c]⟩))
  | .tup ds, .int i => ∃ d, atI ds i = some d ∧ Q (.val d)
  | .lst ds, .int i => ∃ d, atI ds i = some d ∧ Q (.val d)
  | .scr ns, .int i => ∃ n, atI ns i = some n ∧ Q (.val (.int n))
  | _, _ => False
theorem vx_seq : VX X vIxR := by
  refine ⟨_, ix_str.or (ix_tup.or ix_list), fun B H x y rx ry Q Qd s px py h k => ?_⟩
  unfold vIxR at h
  split at h
  · rename_i z i e1 e2
    obtain ⟨hz, c, hc, q⟩ := h
    exact .inl ⟨z, i, c, px.scal (by rw [e1]; rfl), py.scal (by rw [e2]; rfl), hz, hc, k _ _ B H (.refl s) (repV rfl) q⟩
  · rename_i ds i e1 e2
    obtain ⟨d, hd, q⟩ := h
    obtain ⟨a, xs, rfl, h1, r1⟩ := px.tup e1
    obtain ⟨w, hw, rw'⟩ := r1.atI hd
    exact .inr (.inl ⟨a, xs, i, w, rfl, py.scal (by rw [e2]; rfl), s.sqT h1.sq, hw, k (.val d) _ B H (.refl s) rw' q⟩)
  · rename_i ds i e1 e2
    obtain ⟨d, hd, q⟩ := h
    obtain ⟨a, xs, rfl, h1, r1⟩ := px.lst s e1
    obtain ⟨w, hw, rw'⟩ := r1.atI hd
    exact .inr (.inr ⟨a, xs, i, w, rfl, py.scal (by rw [e2]; rfl), SqL.of h1, hw, k (.val d) _ B H (.refl s) rw' q⟩)
  · rename_i ns i e1 e2
    obtain ⟨n, hn, q⟩ := h
    obtain ⟨a, rfl, h1⟩ := px.scr s e1
    exact .inr (.inr ⟨a, _, i, _, rfl, py.scal (by rw [e2]; rfl), h1, at_map hn, k _ _ B H (.refl s) (repV rfl) q⟩)
  · exact h.elim
/-! ### built-ins of one argument -/
def vLen (rx : R) (Q : R → Prop) : Prop := match rx.d with
  | .str z => z.length ≤ sizeLine ∧ Q (.val (.int z.length))
  | .tup ds => Q (.val (.int ds.length))
  | .lst ds => Q (.val (.int ds.length))
  | .scr ns => Q (.val (.int ns.length))
  | _ => False
theorem vf_len : VF X (.builtin "len") vLen := by
  refine ⟨_, call_len_str.or call_len_seq, fun B H x rx Q Qd s px h k => ?_⟩
  unfold vLen at h
  split at h
  · rename_i z e1
    exact .inl ⟨z, by rw [px.scal (z := .str z) (by rw [e1]; rfl)], h.1, k _ _ B H (.refl s) (repV rfl) h.2⟩
  · rename_i ds e1
    obtain ⟨a, xs, rfl, h1, r1⟩ := px.tup e1
    exact .inr ⟨a, xs, rfl, .inr (s.sqT h1.sq), k _ _ B H (.refl s) (repV rfl) (by rw [r1.length] at h; exact h)⟩
  · rename_i ds e1
    obtain ⟨a, xs, rfl, h1, r1⟩ := px.lst s e1
    exact .inr ⟨a, xs, rfl, .inl (SqL.of h1), k _ _ B H (.refl s) (repV rfl) (by rw [r1.length] at h; exact h)⟩
  · rename_i ns e1
    obtain ⟨a, rfl, h1⟩ := px.scr s e1
    exact .inr ⟨a, _, rfl, .inl h1, k (.val (.int ns.length)) _ B H (.refl s) (by rw [List.length_map]; exact repV rfl) h⟩
  · exact h.elim
def vList (rx : R) (Q : R → Prop) : Prop := match rx.d with
  | .tup ds => Q (.own (.lst ds))
  | .lst ds => Q (.own (.lst ds))
  | .scr ns => Q (.own (.lst (ns.map D.int)))
  | _ => False
theorem vf_list : VF X (.type "list") vList := by
  refine ⟨_, call_list_of, fun B H x rx Q Qd s px h k => ?_⟩
  unfold vList at h
  split at h
  · rename_i ds e1
    obtain ⟨a, xs, rfl, h1, r1⟩ := px.tup e1
    exact ⟨a, xs, rfl, .inr (s.sqT h1.sq), fun p hp => k (.own _) _ B _ (.grow s (same_upd hp _)) ⟨p, rfl, hp, s.free hp, own_newL r1⟩ h⟩
  · rename_i ds e1
    obtain ⟨a, xs, rfl, h1, r1⟩ := px.lst s e1
    exact ⟨a, xs, rfl, .inl (SqL.of h1), fun p hp => k (.own _) _ B _ (.grow s (same_upd hp _)) ⟨p, rfl, hp, s.free hp, own_newL r1⟩ h⟩
  · rename_i ns e1
    obtain ⟨a, rfl, h1⟩ := px.scr s e1
    exact ⟨a, _, rfl, .inl h1, fun p hp => k (.own _) _ B _ (.grow s (same_upd hp _)) ⟨p, rfl, hp, s.free hp, own_newL (.ints ns)⟩ h⟩
  · exact h.elim
def vTuple (rx : R) (Q : R → Prop) : Prop := match rx.d with
  | .tup ds => Q (.val (.tup ds))
  | .lst ds => Q (.val (.tup ds))
  | _ => False
theorem vf_tuple : VF X (.type "tuple") vTuple := by
  refine ⟨_, call_tuple_of, fun B H x rx Q Qd s px h k => ?_⟩
  unfold vTuple at h
  split at h
  · rename_i ds e1
    obtain ⟨a, xs, rfl, h1, r1⟩ := px.tup e1
    refine ⟨a, xs, rfl, .inr ⟨s.sqT h1.sq, k (.val (.tup ds)) _ B H (.refl s) ?_ h⟩⟩
    show Rep X.K B (.tup ds) _
    unfold Rep
    exact ⟨a, xs, rfl, h1, r1⟩
  · rename_i ds e1
    obtain ⟨a, xs, rfl, h1, r1⟩ := px.lst s e1
    exact ⟨a, xs, rfl, .inl ⟨SqL.of h1, fun p hp => k (.val (.tup ds)) _ (upd B p (.tup xs)) _ (.new s hp) (rep_newT r1 (s.free hp)) h⟩⟩
  · exact h.elim
def vStr (rx : R) (Q : R → Prop) : Prop := match rx.d with
  | .int i => i.natAbs.log2 < 1920 ∧ Q (.val (.str (toString i)))
  | _ => False
theorem vf_str : VF X (.type "str") vStr := by
  refine ⟨_, call_str_int, fun B H x rx Q Qd s px h k => ?_⟩
  unfold vStr at h
  split at h
  · rename_i i e1
    exact ⟨i, by rw [px.scal (z := .int i) (by rw [e1]; rfl)], h.1, k _ _ B H (.refl s) (repV rfl) h.2⟩
  · exact h.elim
def vAll (g : List Bool → Bool) (rx : R) (Q : R → Prop) : Prop := ∃ bs : List Bool, rx.d = .lst (bs.map D.bl) ∧ Q (.val (.bl (g bs)))
theorem vf_all (hc : X.calm = true) : VF X (.builtin "all") (vAll fun bs => bs.all id) := by
  refine ⟨_, call_allB hc, fun B H x rx Q Qd s px ⟨bs, e1, h⟩ k => ?_⟩
  obtain ⟨a, xs, rfl, h1, r1⟩ := px.lst s e1
  exact ⟨a, bs, rfl, SqL.of (by rw [h1, r1.bls]), k _ _ B H (.refl s) (repV rfl) h⟩
theorem vf_any (hc : X.calm = true) : VF X (.builtin "any") (vAll fun bs => bs.any id) := by
  refine ⟨_, call_anyB hc, fun B H x rx Q Qd s px ⟨bs, e1, h⟩ k => ?_⟩
  obtain ⟨a, xs, rfl, h1, r1⟩ := px.lst s e1
  exact ⟨a, bs, rfl, SqL.of (by rw [h1, r1.bls]), k _ _ B H (.refl s) (repV rfl) h⟩
/-! ### two whole numbers: max, min -/
def vMM (f : Int → Int → Int) (ta tb : TV) : TV := fun τ Q => ta τ fun rx => exR rx (fun _ => False) <| tb τ fun ry => match rx.d, ry.d with
  | .int i, .int j => Q (.val (.int (f i j)))
  | _, _ => False
theorem ve_mm {id : String} {a b : Expr} {ta tb : TV} {f : Int → Int → Int} (hc : CallR X (.builtin id) (fun xs H Q => ∃ i j, xs = [.int i, .int j] ∧ Q (.int (f i j)) H)) (hg : Gl X x) (hm : X.mg x = none) (hv : bootBuiltins x = some (.builtin id)) (ha : VE X EX a ta) (hb : VE X EX b tb)
    (hp : plainE a = true := by rfl) (hp2 : plainE b = true := by rfl) (hn : x ≠ "__name__" := by decide) (hdb : (x == ("__debug__" : Str)) = false := by decide) : VE X EX (.Call (.Name x p) [a, b] [] pos) (vMM f ta tb) :=
  let ⟨_, a1, a2⟩ := ha.u; let ⟨_, b1, b2⟩ := hb.u; ⟨_, qcb hc hg hm hv (qac a1 (qac b1 qa_nil hp2) hp) (by simp [hp, hp2]) hn hdb, fun H0 B H τ σ Q Qd s S h xc k =>
    a2 H0 B H τ σ _ _ s S h (xno fun _ q => q) fun rx x B1 H1 p1 q1 h1 => b2 H0 B1 H1 τ σ _ _ p1.s (S.step p1) (q1.ok h1) (xno fun _ q => by revert q; cases rx.d <;> exact fun z => z) fun ry y B2 H2 p2 q2 h2 => by
      split at h2
      · rename_i i j e1 e2
        exact ⟨i, j, by rw [q1.pk.scal (z := .int i) (by rw [e1]; rfl), q2.pk.scal (z := .int j) (by rw [e2]; rfl)], k _ _ B2 H2 (p1.trans p2) (repV rfl) h2⟩
      · exact h2.elim⟩
/-! ### isinstance of a built-in type -/
inductive Ty5 where
  | str | tuple | list | int | bool
def Ty5.nm : Ty5 → String
  | .str => "str" | .tuple => "tuple" | .list => "list" | .int => "int" | .bool => "bool"
def isTy : Ty5 → D → Option Bool
  | _, .non => some false
  | c, .bl _ => some (match c with | .bool => true | .int => true | _ => false)
  | c, .int _ => some (match c with | .int => true | _ => false)
  | c, .str _ => some (match c with | .str => true | _ => false)
  | c, .tup _ => some (match c with | .tuple => true | _ => false)
  | c, .lst _ => some (match c with | .list => true | _ => false)
  | _, _ => none
def nmTy : D → String
  | .non => "NoneType" | .bl _ => "bool" | .int _ => "int" | .str _ => "str" | .tup _ => "tuple" | _ => "list"
theorem kit_isTy {d : D} {c : Ty5} {b : Bool} (h : isTy c d = some b) : PySem.W.kitOne K (.type (nmTy d)) (.type c.nm) = some b := by
  cases d <;> cases c <;> first | (cases h; with_unfolding_all rfl; done) | (cases h; exact kit_same; done) | (cases h; done)
theorem isinst_D {pins : List (Addr × Obj)} {s : Shared} {σ : St} {H : Hp} {v : V} {u : Value} {d : D} {c : Ty5} {b : Bool} {A : Around} {Q : Value → Shared → Prop} {E : Value → Shared → Prop} (I : Inv X pins σ H s) (rx : RelV v u) (h : Rep X.K H d v) (e : isTy c d = some b)
    (q : ∀ tk, Q (.bool b) { s with toks := tk }) : wpAny (model X.prog X.w) A (call (.builtin "isinstance") [u, .type c.nm]) Q E s := by
  have kt := kit_isTy (K := X.K) e
  cases d with
  | non => unfold Rep at h; subst h; exact isinst_ok I rx .non kt q
  | bl b => unfold Rep at h; subst h; exact isinst_ok I rx (.bl _) kt q
  | int b => unfold Rep at h; subst h; exact isinst_ok I rx (.int _) kt q
  | str b => unfold Rep at h; subst h; exact isinst_ok I rx (.str _) kt q
  | tup ds =>
    unfold Rep at h
    obtain ⟨a, xs, rfl, ha, _⟩ := h
    cases (show u = Value.ref a from rx)
    obtain ⟨its, _, ⟨o, h1, h2, _⟩, _⟩ := I.tuple ha.sq
    exact PySem.W.kia_one PySem.W.kitx_tuple I.kIn ⟨o, h1, h2⟩ kt (fun z => nomatch z) q
  | lst ds =>
    unfold Rep at h
    obtain ⟨a, xs, rfl, ha, _⟩ := h
    exact isinst_ok I rx (.lst ha) kt q
  | dT _ _ => cases e
  | dK _ _ => cases e
  | scr _ => cases e
  | kt _ => cases e
  | exc _ => cases e
theorem call_isD (c : Ty5) : CallR X (.builtin "isinstance") (fun xs H Q => ∃ x d b, xs = [x, .ty c.nm] ∧ Rep X.K H d x ∧ isTy c d = some b ∧ Q (.bl b) H) := by
  intro pins s σ H xs us Q I r h
  obtain ⟨x, d, b, rfl, ty, e, q⟩ := h
  obtain ⟨u, v, rfl, ru, rv⟩ := vals2 r
  cases (show v = Value.type c.nm from rv)
  exact isinst_D I ru ty e fun tk => ⟨.bl b, H, I.tok tk, rfl, q⟩
def vIsin (c : Ty5) (ta : TV) : TV := fun τ Q => ta τ fun r => exR r (fun _ => False) <| match isTy c r.d with
  | some b => Q (.val (.bl b))
  | none => False
theorem ve_isin {a : Expr} {pb : Pos} {y : Str} (c : Ty5) (hg : Gl X "isinstance") (hm : X.mg "isinstance" = none) (hgy : Gl X y) (hmy : X.mg y = none) (hby : bootBuiltins y = some (.type c.nm)) (ha : VE X EX a ta) (hp : plainE a = true := by rfl) (hny : y ≠ "__name__" := by decide) (hdy : (y == ("__debug__" : Str)) = false := by decide) :
    VE X EX (.Call (.Name "isinstance" p) [a, .Name y pb] [] pos) (vIsin c ta) :=
  let ⟨_, a1, a2⟩ := ha.u; ⟨_, qcb (call_isD c) hg hm PyProof.Rows.Boot.«isinstance» (qac a1 (qac (qe_bltn (v := .ty c.nm) hgy hmy hby rfl hny hdy) qa_nil rfl) hp) (by rw [List.all_cons, hp]; rfl), fun H0 B H τ σ Q Qd s S h xc k => a2 H0 B H τ σ _ _ s S h (xno fun _ q => q) fun r v B1 H1 p1 q1 h1 => by
      have h1 := q1.ok h1
      split at h1
      · rename_i b eb
        exact ⟨v, r.d, b, rfl, q1.pk.rep p1.s, eb, k _ _ B1 H1 p1 (repV rfl) h1⟩
      · exact h1.elim⟩
end
end L2
/-! THE VALUE LAYER, statements, loops, comprehensions, defs. -/
namespace L2
open PySem PySem.Spec PyProof.Rows
section
variable {X : Cx} {EX : St → XK} {K : PySem.W.Frag} {B H B' H' H0 B0 B1 H1 : Hp} {st : Stmt} {rest : List Stmt} {t u : TVS} {e a c o : Expr} {te ta : TV} {tT : TVT} {tA : TVA} {es : List Expr} {pos pos' p p2 apos cpos : Pos} {x : Str} {τ : VSt} {σ : St}
theorem Stp.base (p : Stp B0 H0 B1 H1) (q : Stp B1 H0 B' H') : Stp B0 H0 B' H' := ⟨p.b.trans q.b, q.h, q.s, fun a h => (q.d a h).elim (p.d a) .inr⟩
/-- the same place, what is protected since being protected -/
theorem Stp.here (p : Stp B0 H0 B1 H1) : Stp B1 H0 B1 H1 := ⟨Same.refl _, p.h, p.s, fun _ h => .inl h⟩
theorem EndsOk.base {Dv : VEnds} {Dh : Ends} (E : EndsOk K EX B0 H0 Dv Dh) (p : Stp B0 H0 B1 H1) : EndsOk K EX B1 H0 Dv Dh :=
  ⟨fun B H τ σ q => E.nx B H τ σ (p.base q), fun r v B H q => E.rt r v B H (p.base q), fun B H τ σ q => E.bk B H τ σ (p.base q), fun B H τ σ q => E.ct B H τ σ (p.base q), fun B H τ σ n C q => E.xc B H τ σ n C (p.base q)⟩
/-- an expression of a statement raises -/
def exS (τ : VSt) (Dv : VEnds) : R → Prop → Prop
  | .exc n, _ => Dv.xc τ n
  | .val _, k => k
  | .own _, k => k
  | .peek _, k => k
theorem RepR.okS {r : R} {v : V} {τ : VSt} {Dv : VEnds} {k : Prop} (h : RepR K B H0 H r v) (q : exS τ Dv r k) : k := by
  cases r with
  | exc n => exact h.elim
  | val d => exact q
  | own d => exact q
  | peek d => exact q
theorem EndsOk.raised {Dv : VEnds} {Dh : Ends} (E : EndsOk K EX B0 H0 Dv Dh) (p : Stp B0 H0 B H) (S : Slots K H0 B H τ σ) : ∀ n C B' H', Stp B H B' H' → clsOf K n C → Dv.xc τ n → EX σ (.ref C) none H' := fun n C B' H' q c h => E.xc B' H' τ σ n C (p.trans q) (S.step q) c h
/-! ### blocks -/
def vNext : TVS := fun Dv τ => Dv.nx τ
def vSeq (t u : TVS) : TVS := fun Dv τ => t { Dv with nx := u Dv } τ
theorem vss_nil : VSs X EX [] vNext := ⟨_, qss_nil, fun B0 H0 B H τ σ Dv Dh p S h E => E.nx B H τ σ p S h⟩
theorem vss_one (h : VS X EX st t) : VSs X EX [st] t := let ⟨_, a1, a2⟩ := h.u; ⟨_, qss_one a1, a2⟩
theorem vss_cons (h : VS X EX st t) (r : VSs X EX rest u) : VSs X EX (st :: rest) (vSeq t u) :=
  let ⟨_, a1, a2⟩ := h.u; let ⟨_, b1, b2⟩ := r.u; ⟨_, qss_cons a1 b1, fun B0 H0 B H τ σ Dv Dh p S h E => a2 B0 H0 B H τ σ _ _ p S h ⟨fun B H τ σ p S h => b2 B0 H0 B H τ σ _ _ p S h E, E.rt, E.bk, E.ct, E.xc⟩⟩
/-- from here on the i-th name's own list or dict is data for good -/
def vFrz (i : Nat) (t : TVS) : TVS := fun Dv τ => t Dv (frz i τ)
theorem vss_frz (i : Nat) (h : VSs X EX rest t) : VSs X EX rest (vFrz i t) :=
  let ⟨_, a1, a2⟩ := h.u; ⟨_, a1, fun B0 H0 B H τ σ Dv Dh p S h E => by
    obtain ⟨B2, p2, _, S2⟩ := S.frz p i
    exact a2 B0 H0 B2 H _ σ _ _ p2 S2 h E⟩
theorem vs_pass : VS X EX (.Pass pos) vNext := ⟨_, qs_pass, fun B0 H0 B H τ σ Dv Dh p S h E => E.nx B H τ σ p S h⟩
def vBreak : TVS := fun Dv τ => Dv.bk τ
def vCont : TVS := fun Dv τ => Dv.ct τ
theorem vs_break : VS X EX (.Break pos) vBreak := ⟨_, qs_break, fun B0 H0 B H τ σ Dv Dh p S h E => E.bk B H τ σ p S h⟩
theorem vs_continue : VS X EX (.Continue pos) vCont := ⟨_, qs_continue, fun B0 H0 B H τ σ Dv Dh p S h E => E.ct B H τ σ p S h⟩
def vIfS (c : TVT) (t u : TVS) : TVS := fun Dv τ => c τ fun b => if b = true then t Dv τ else u Dv τ
theorem vs_if {sa sb : List Stmt} (hc : VT X EX c tT) (ha : VSs X EX sa t) (hb : VSs X EX sb u) : VS X EX (.If c sa sb pos) (vIfS tT t u) :=
  let ⟨_, c1, c2⟩ := hc.u; let ⟨_, a1, a2⟩ := ha.u; let ⟨_, b1, b2⟩ := hb.u; ⟨_, qs_if c1 a1 b1, fun B0 H0 B H τ σ Dv Dh p S h E => c2 H0 B H τ σ _ _ p.s S h fun cb B' H' q hq => by
    cases cb with
    | true => exact iteT (a2 B0 H0 B' H' τ σ _ _ (p.trans q |> fun z => ⟨z.b, z.h, z.s, z.d⟩) (S.step q) (by rw [if_pos rfl] at hq; exact hq) E)
    | false => exact iteF (b2 B0 H0 B' H' τ σ _ _ (p.trans q) (S.step q) (by rw [if_neg Bool.false_ne_true] at hq; exact hq) E)⟩
def vRet (te : TV) : TVS := fun Dv τ => te τ fun r => exS τ Dv r (pubR r fun _ => Dv.rt r)
theorem vs_ret (h : VE X EX e te) : VS X EX (.Return (some e) pos) (vRet te) :=
  let ⟨_, a1, a2⟩ := h.u; ⟨_, qs_ret a1, fun B0 H0 B H τ σ Dv Dh p S h E => a2 H0 B H τ σ _ _ p.s S h (E.raised p S) fun r v B' H' q hr hq => by
    cases r with
    | val d => exact E.rt (.val d) v B' H' (p.trans q) hr hq
    | own d => exact E.rt (.own d) v B' H' (p.trans q) (hr.back p.h) hq
    | peek d => exact hq.elim
    | exc n => exact hr.elim⟩
/-- return of a name's own list or dict -/
def vRetO (i : Nat) : TVS := fun Dv τ => match τ[i]? with
  | some (some (.own d)) => Dv.rt (.own d)
  | some (some (.val d)) => Dv.rt (.val d)
  | _ => False
theorem vs_retO (i : Nat) (hN : X.N[i]? = some x := by rfl) (hv : Vis X.env.scope x := by first | exact Or.inl rfl | exact Or.inr (Or.inl rfl) | exact Or.inr (Or.inr rfl)) (hd : (x == ("__debug__" : Str)) = false := by decide)
    (hcd : (x == ("__classdict__" : Str)) = false := by decide) : VS X EX (.Return (some (.Name x pos')) pos) (vRetO i) :=
  ⟨_, qs_ret (qv i hN hv hd hcd), fun B0 H0 B H τ σ Dv Dh p S h E => by
    unfold vRetO at h
    split at h
    · rename_i d e
      obtain ⟨a, q, h0, hb, ow⟩ := S.own i d e
      exact ⟨.ref a, q, E.rt (.own d) _ B H p ⟨a, rfl, h0, hb, ow⟩ h⟩
    · rename_i d e
      obtain ⟨v, q, rp⟩ := S.val i d e
      exact ⟨v, q, E.rt (.val d) _ B H p rp h⟩
    · exact h.elim⟩
def vRetN : TVS := fun Dv _ => Dv.rt (.val .non)
theorem vs_retN : VS X EX (.Return none pos) vRetN := ⟨_, qs_retN, fun B0 H0 B H τ σ Dv Dh p S h E => E.rt (.val .non) .non B H p (repV rfl) h⟩
def vDrop (te : TV) : TVS := fun Dv τ => te τ fun r => exS τ Dv r (Dv.nx τ)
theorem vs_expr (h : VE X EX e te) (hs : swapsWith e none pos.line X.env = pure false := by rfl) : VS X EX (.Expr e pos) (vDrop te) :=
  let ⟨_, a1, a2⟩ := h.u; ⟨_, qs_expr a1 hs, fun B0 H0 B H τ σ Dv Dh p S h E => a2 H0 B H τ σ _ _ p.s S h (E.raised p S) fun r v B' H' q hr hq => E.nx B' H' τ σ (p.trans q) (S.step q) (hr.okS hq)⟩
/-! ### stores -/
def vSet (i : Nat) (te : TV) : TVS := fun Dv τ => te τ fun r => exS τ Dv r (pubR r fun d => Dv.nx (τ.set i (some (.val d))))
theorem rf_set {i : Nat} {ee : TE} (h : RfE K EX ee te) : RfS K EX (tAsg ee (gName i)) (vSet i te) := fun B0 H0 B H τ σ Dv Dh p S hh E => h H0 B H τ σ _ _ p.s S hh (E.raised p S) fun r v B' H' q hr hq => by
  obtain ⟨d, B2, q2, _, rp, hd⟩ := pub q hr (hr.okS hq)
  exact E.nx B2 H' _ _ (p.trans q2) ((S.step q2).setVal i rp) hd
/-- the name keeps a new list or dict as its own -/
def vSetO (i : Nat) (te : TV) : TVS := fun Dv τ => te τ fun r => exS τ Dv r (pubR r fun _ => Dv.nx (τ.set i (some r)))
theorem rf_setO {i : Nat} {ee : TE} (h : RfE K EX ee te) : RfS K EX (tAsg ee (gName i)) (vSetO i te) := fun B0 H0 B H τ σ Dv Dh p S hh E => h H0 B H τ σ _ _ p.s S hh (E.raised p S) fun r v B' H' q hr hq => by
  cases r with
  | val d => exact E.nx B' H' _ _ (p.trans q) ((S.step q).setVal i hr) hq
  | own d =>
    obtain ⟨a, rfl, h0, hb, ow⟩ := hr
    refine E.nx B' H' _ _ (p.trans q) ((S.step q).setOwn i (p.h.free h0) hb ow fun j e he z => ?_) hq
    obtain ⟨c, qc, _, _, oc⟩ := S.own j e he
    rw [z] at qc
    cases qc
    exact oc.some h0
  | peek d => exact hq.elim
  | exc n => exact hr.elim
theorem vs_set {i : Nat} (hN : X.N.Nodup) (hi : X.N[i]? = some x) (hx : Loc X.env.scope x) (h : VE X EX e te) (hs : swapsWith e (some (.Name x pos')) pos.line X.env = pure false := by rfl)
    (hf : X.fn x = true ∨ X.env.scope.names.lookup x = some .local := by first | exact .inl rfl | exact .inr rfl | assumption) : VS X EX (.Assign [.Name x pos'] e pos) (vSet i te) := let ⟨_, a1, a2⟩ := h.u; ⟨_, qs_set hN hi hx a1 hs hf, rf_set a2⟩
theorem vs_setO {i : Nat} (hN : X.N.Nodup) (hi : X.N[i]? = some x) (hx : Loc X.env.scope x) (h : VE X EX e te) (hs : swapsWith e (some (.Name x pos')) pos.line X.env = pure false := by rfl)
    (hf : X.fn x = true ∨ X.env.scope.names.lookup x = some .local := by first | exact .inl rfl | exact .inr rfl | assumption) : VS X EX (.Assign [.Name x pos'] e pos) (vSetO i te) := let ⟨_, a1, a2⟩ := h.u; ⟨_, qs_set hN hi hx a1 hs hf, rf_setO a2⟩
theorem vs_setC {i : Nat} (hN : X.N.Nodup) (hi : X.N[i]? = some x) (hx : Loc X.env.scope x) (h : VC X EX e te) (hs : swapsWith e (some (.Name x pos')) pos.line X.env = pure true := by rfl)
    (hf : X.fn x = true ∨ X.env.scope.names.lookup x = some .local := by first | exact .inl rfl | exact .inr rfl | assumption) : VS X EX (.Assign [.Name x pos'] e pos) (vSet i te) := let ⟨_, a1, a2⟩ := h.u; ⟨_, qs_setC hN hi hx a1 hs hf, rf_set a2⟩
theorem vs_setCO {i : Nat} (hN : X.N.Nodup) (hi : X.N[i]? = some x) (hx : Loc X.env.scope x) (h : VC X EX e te) (hs : swapsWith e (some (.Name x pos')) pos.line X.env = pure true := by rfl)
    (hf : X.fn x = true ∨ X.env.scope.names.lookup x = some .local := by first | exact .inl rfl | exact .inr rfl | assumption) : VS X EX (.Assign [.Name x pos'] e pos) (vSetO i te) := let ⟨_, a1, a2⟩ := h.u; ⟨_, qs_setC hN hi hx a1 hs hf, rf_setO a2⟩
/-! ### targets -/
def vgName (i : Nat) : TVG := fun d τ Q => Q (τ.set i (some (.val d)))
theorem kp_set {i : Nat} {d : D} {v : V} : Kp τ σ (τ.set i (some (.val d))) (σ.set i (some v)) := fun j e h => by
  rcases getSet h with ⟨rfl, z, l⟩ | ⟨n, h⟩
  · cases z
  · exact ⟨h, List.getElem?_set_ne n⟩
theorem Kp.trans {τ1 τ2 τ3 : VSt} {σ1 σ2 σ3 : St} (h1 : Kp τ1 σ1 τ2 σ2) (h2 : Kp τ2 σ2 τ3 σ3) : Kp τ1 σ1 τ3 σ3 := fun j e h => let ⟨a, b⟩ := h2 j e h; let ⟨c, d⟩ := h1 j e a; ⟨c, b.trans d⟩
theorem vg_name {i : Nat} (hN : X.N.Nodup) (hi : X.N[i]? = some x) (hx : Loc X.env.scope x) (hf : X.fn x = true ∨ X.env.scope.names.lookup x = some .local := by first | exact .inl rfl | exact .inr rfl | assumption) : VG X (.Name x pos) (vgName i) :=
  ⟨_, qg_name hN hi hx hf, fun H0 B H τ σ v d Q Qd s S rp h k => k _ _ (S.setVal i rp) kp_set h⟩
def vgNil : List D → VSt → (VSt → Prop) → Prop := fun ds τ Q => ds = [] ∧ Q τ
def vgCons (g : TVG) (gs : List D → VSt → (VSt → Prop) → Prop) : List D → VSt → (VSt → Prop) → Prop := fun ds τ Q => match ds with
  | d :: r => g d τ fun τ' => gs r τ' Q
  | [] => False
theorem vgs_nil : VGs X [] vgNil := ⟨_, qgs_nil, fun H0 B H τ σ xs ds Q Qd s S rp h k => by
  obtain ⟨rfl, h⟩ := h
  unfold Reps at rp
  exact ⟨rp, k τ σ S (fun j e h => ⟨h, rfl⟩) h⟩⟩
theorem vgs_cons {g : TVG} {gs : List D → VSt → (VSt → Prop) → Prop} (h1 : VG X e g) (h2 : VGs X es gs) (hs : (assignEach (e :: es) X.env).map (·.2) = assign e X.env :: (assignEach es X.env).map (·.2) := by rfl) : VGs X (e :: es) (vgCons g gs) :=
  let ⟨_, a1, a2⟩ := h1.u; let ⟨_, b1, b2⟩ := h2.u; ⟨_, qgs_cons a1 b1 hs, fun H0 B H τ σ xs ds Q Qd s S rp h k => by
    cases ds with
    | nil => exact h.elim
    | cons d ds =>
      unfold Reps at rp
      obtain ⟨v, r, rfl, r1, r2⟩ := rp
      exact ⟨v, r, rfl, a2 H0 B H τ σ v d _ _ s S r1 h fun τ' σ' S' kp h' => b2 H0 B H τ' σ' r ds _ _ s S' r2 h' fun τ2 σ2 S2 kp2 h2 => k τ2 σ2 S2 (kp.trans kp2) h2⟩⟩
def vgTup (n : Nat) (gs : List D → VSt → (VSt → Prop) → Prop) : TVG := fun d τ Q => match d with
  | .tup ds => ds.length = n ∧ gs ds τ Q
  | _ => False
theorem vg_tup {k : Nat} {gs : List D → VSt → (VSt → Prop) → Prop} {n : Nat} (hc : X.calm = true) (h : VGs X es gs) (hn : (assignEach es X.env).length = n := by rfl) (hst : (assignEach es X.env).findIdx? (·.1) = none := by rfl) : VG X (.Tuple es k pos) (vgTup n gs) :=
  let ⟨_, a1, a2⟩ := h.u; ⟨_, qg_tup hc a1 hn hst, fun H0 B H τ σ v d Q Qd s S rp h k => by
    cases d with
    | tup ds =>
      unfold Rep at rp
      obtain ⟨a, xs, rfl, ha, r⟩ := rp
      exact ⟨a, xs, rfl, s.sqT ha.sq, by rw [← r.length]; exact h.1, a2 H0 B H τ σ xs ds _ _ s S r h.2 k⟩
    | _ => exact h.elim⟩
/-- a store into several names at once -/
def vAsg (te : TV) (g : TVG) : TVS := fun Dv τ => te τ fun r => exS τ Dv r (pubR r fun d => g d τ Dv.nx)
theorem vs_asg {tg : Expr} {g : TVG} (h : VE X EX e te) (hg : VG X tg g) (hs : swapsWithSole [tg] e pos.line X.env = pure false := by rfl) (hw : swappedStores [tg] e X.env = pure none := by rfl)
    (h1 : (assignEach [tg] X.env).map (·.2) = [assign tg X.env] := by rfl) : VS X EX (.Assign [tg] e pos) (vAsg te g) :=
  let ⟨_, a1, a2⟩ := h.u; let ⟨_, b1, b2⟩ := hg.u; ⟨_, qs_asg a1 b1 hs hw h1, fun B0 H0 B H τ σ Dv Dh p S hh E => a2 H0 B H τ σ _ _ p.s S hh (E.raised p S) fun r v B' H' q hr hq => by
    obtain ⟨d, B2, q2, _, rp, hd⟩ := pub q hr (hr.okS hq)
    exact b2 H0 B2 H' τ σ v d _ _ q2.s (S.step q2) rp hd fun τ' σ' S' _ h' => E.nx B2 H' _ _ (p.trans q2) S' h'⟩
/-! ### what is walked -/
end
section
variable {X : Cx} {tg l e : Expr}
def iAny (K : PySem.W.Frag) (tl : TE) : TI := fun σ H R => tl σ H fun x H1 => (∃ a, x = .ref a ∧ (∃ xs, SqL K H1 a xs) ∧ R (Itl K a) H1) ∨ (∃ a, x = .ref a ∧ (∃ xs, SqT K H1 a xs) ∧ R (Itt K a) H1) ∨ ∃ z, x = .str z ∧ R (Its z) H1
/-- a reading that gives one value -/
def tVal (v : V) (H0 : Hp) : TE := fun _ H Q => H = H0 ∧ Q v H0
theorem pi_any {tl : TE} (hl : PE X l tl) : PI X tg l (iAny X.K tl) := by
  intro pins s σ H R I h
  refine thn (hl pins s σ H _ I h) fun v s1 ⟨x, H1, I1, r1, q1⟩ => ?_
  rcases q1 with ⟨a, rfl, ⟨xs, hq⟩, q⟩ | ⟨a, rfl, ⟨xs, hq⟩, q⟩ | ⟨z, rfl, q⟩
  · cases r1
    obtain ⟨its, rv, pl, hz⟩ := I1.list hq
    refine wpAny_pyIter_list pl.isList ⟨s1.heap.objs.size, [s1.heap.objs.size], _, _, H1, rfl, I1.kept (t' := s1.toks) fun b o e => Heap.get?_push_of_some _ e, turn_list a _, ⟨_, Heap.get?_push_size _ rfl, rfl, rfl⟩, fun b hb => ?_, q⟩
    cases (by simpa using hb : b = s1.heap.objs.size)
    exact I1.fpOk (Nat.le_refl _) (I1.hok.fresh (Nat.le_refl _))
  · cases r1
    obtain ⟨its, rv, pl, hz⟩ := I1.tuple hq
    refine wpAny_pyIter_tuple (show s1.heap.IsTuple a its.toArray from pl) ⟨s1.heap.objs.size, [s1.heap.objs.size], _, _, H1, rfl, I1.kept (t' := s1.toks) fun b o e => Heap.get?_push_of_some _ e, turn_tuple a _, ⟨_, Heap.get?_push_size _ rfl, rfl, rfl⟩, fun b hb => ?_, q⟩
    cases (by simpa using hb : b = s1.heap.objs.size)
    exact I1.fpOk (Nat.le_refl _) (I1.hok.fresh (Nat.le_refl _))
  · obtain ⟨t, rfl⟩ := r1
    have fp : ∀ b ∈ [s1.heap.objs.size], FpOk X pins H1 b := fun b hb => by
      cases (by simpa using hb : b = s1.heap.objs.size)
      exact I1.fpOk (Nat.le_refl _) (I1.hok.fresh (Nat.le_refl _))
    cases ha : z.cps.all (· < 128)
    · exact wpAny_pyIter_wide ha ⟨s1.heap.objs.size, [s1.heap.objs.size], _, _, H1, rfl, I1.kept (t' := s1.toks) fun b o e => Heap.get?_push_of_some _ e, turn_wide _ z t, ⟨_, Heap.get?_push_size _ rfl, rfl, rfl⟩, fp, q⟩
    · exact wpAny_pyIter_ascii ha ⟨s1.heap.objs.size, [s1.heap.objs.size], _, _, H1, rfl, I1.kept (t' := s1.toks) fun b o e => Heap.get?_push_of_some _ e, turn_ascii _ z t, ⟨_, Heap.get?_push_size _ rfl, rfl, rfl⟩, fp, q⟩
theorem qi_any {tl : TE} (h : QE X e tl) : QI X tg e (iAny X.K tl) := ⟨pi_any h.u⟩
end
section
variable {X : Cx} {EX : St → XK} {K : PySem.W.Frag} {B H B' H' H0 B0 B1 H1 : Hp} {st : Stmt} {rest : List Stmt} {t u : TVS} {e a c o : Expr} {te ta : TV} {tT : TVT} {tA : TVA} {es : List Expr} {pos pos' p p2 apos cpos : Pos} {x : Str} {τ : VSt} {σ : St}
def vItems (te : TV) : TVA := fun τ Q => te τ fun r => excA r Q <| pubR r fun d => match d with
  | .lst ds => Q (.ok ds)
  | .tup ds => Q (.ok ds)
  | .scr ns => Q (.ok (ns.map D.int))
  | .str z => Q (.ok (z.cps.toList.map fun c => .str ⟨#[c]⟩))
  | _ => False
theorem it_list {ad : Addr} {ds : List D} {xs : List V} (h : ∀ H, Same B H → SqL K H ad xs) (inj : ∀ H ys, Same B H → SqL K H ad ys → ys = xs) (r : Reps K B ds xs) : ItOk K B (Itl K ad) ds := fun i H s => by
  refine ⟨fun d e => ?_, fun e => ⟨xs, h H s, by rw [← r.length]; exact List.getElem?_eq_none_iff.mp e⟩⟩
  obtain ⟨w, hw, rw'⟩ := r.at e
  refine ⟨⟨xs, w, h H s, hw⟩, fun y H' q => ⟨q.1, ?_⟩⟩
  have := q.2 xs (h H s)
  rw [hw] at this
  cases this
  exact rw'
theorem it_listV {ad : Addr} {ds : List D} {xs : List V} (h : SqL K B ad xs) (r : Reps K B ds xs) : ItOk K B (Itl K ad) ds := fun i H s => by
  refine ⟨fun d e => ?_, fun e => ⟨xs, s.seq h, by rw [← r.length]; exact List.getElem?_eq_none_iff.mp e⟩⟩
  obtain ⟨w, hw, rw'⟩ := r.at e
  refine ⟨⟨xs, w, s.seq h, hw⟩, fun y H' q => ⟨q.1, ?_⟩⟩
  have := q.2 xs (s.seq h)
  rw [hw] at this
  cases this
  exact rw'
theorem it_tup {ad : Addr} {ds : List D} {xs : List V} (h : SqT K B ad xs) (r : Reps K B ds xs) : ItOk K B (Itt K ad) ds := fun i H s => by
  refine ⟨fun d e => ?_, fun e => ⟨xs, s.sqT h, by rw [← r.length]; exact List.getElem?_eq_none_iff.mp e⟩⟩
  obtain ⟨w, hw, rw'⟩ := r.at e
  refine ⟨⟨xs, w, s.sqT h, hw⟩, fun y H' q => ⟨q.1, ?_⟩⟩
  have := q.2 xs (s.sqT h)
  rw [hw] at this
  cases this
  exact rw'
theorem it_str (z : Str) : ItOk K B (Its z) (z.cps.toList.map fun c => .str ⟨#[c]⟩) := fun i H s => by
  refine ⟨fun d e => ?_, fun e => ?_⟩
  · rw [List.getElem?_map] at e
    cases hc : z.cps.toList[i]? with
    | none => rw [hc] at e; cases e
    | some ch =>
      rw [hc] at e
      cases e
      have hc' : z.cps[i]? = some ch := by simpa using hc
      refine ⟨?_, fun y H' q => ⟨q.1, ?_⟩⟩
      · show i < z.cps.size
        exact (Array.getElem?_eq_some_iff.mp hc').1
      · obtain ⟨c2, h2, rfl⟩ := q.2
        rw [hc'] at h2
        cases h2
        exact rep_dV (d := .str ⟨#[ch]⟩) rfl
  · show z.cps.size ≤ i
    have := List.getElem?_eq_none_iff.mp e
    simpa using this
theorem vi_any {tg : Expr} (h : VE X EX e te) : VI X EX tg e (vItems te) :=
  let ⟨_, a1, a2⟩ := h.u; ⟨_, qi_any a1, fun H0 B H τ σ Q Qd s S h xc k => a2 H0 B H τ σ _ _ s S h xc fun r v B' H' q hr hq => by
    obtain ⟨d, B2, q2, _, rp, hd⟩ := pub q hr (hr.okA hq)
    split at hd
    · unfold Rep at rp
      obtain ⟨ad, xs, rfl, ha, r1⟩ := rp
      exact .inl ⟨ad, rfl, ⟨xs, SqL.of (q2.s _ _ ha)⟩, k _ _ B2 H' q2 (it_listV (SqL.of ha) r1) hd⟩
    · unfold Rep at rp
      obtain ⟨ad, xs, rfl, ha, r1⟩ := rp
      exact .inr (.inl ⟨ad, rfl, ⟨xs, q2.s.sqT ha.sq⟩, k _ _ B2 H' q2 (it_tup ha.sq r1) hd⟩)
    · unfold Rep at rp
      obtain ⟨ad, rfl, ha⟩ := rp
      exact .inl ⟨ad, rfl, ⟨_, q2.s.seq ha⟩, k _ _ B2 H' q2 (it_listV ha (.ints _)) hd⟩
    · rename_i z
      unfold Rep at rp
      exact .inr (.inr ⟨z, rp, k _ _ B2 H' q2 (it_str z) hd⟩)
    · exact hd.elim⟩
def rngL (lo : Int) (n : Nat) : List D := (List.range n).map fun (i : Nat) => .int (lo + i)
theorem it_rng (lo : Int) (n : Nat) : ItOk K B (Itr lo n) (rngL lo n) := fun i H s => by
  unfold rngL
  refine ⟨fun d e => ?_, fun e => ?_⟩
  · rw [List.getElem?_map] at e
    by_cases hi : i < n
    · rw [List.getElem?_range hi] at e
      cases e
      exact ⟨hi, fun y H' q => ⟨q.1, by rw [q.2]; exact rep_dV (d := .int (lo + (i : Nat))) rfl⟩⟩
    · rw [List.getElem?_eq_none (by rw [List.length_range]; omega)] at e
      cases e
  · have := List.getElem?_eq_none_iff.mp e
    rw [List.length_map, List.length_range] at this
    exact this
def vRng1 (te : TV) : TVA := fun τ Q => te τ fun r => match r.d with
  | .int j => -(2 ^ 62) ≤ j ∧ j < 2 ^ 62 ∧ Q (.ok (rngL 0 j.toNat))
  | _ => False
theorem vi_rng1 {tg : Expr} (hg : Gl X "range") (hm : X.mg "range" = none) (h : VE X EX a ta) (hp : plainE a = true := by rfl) : VI X EX tg (.Call (.Name "range" p) [a] [] pos) (vRng1 ta) :=
  let ⟨_, a1, a2⟩ := h.u; ⟨_, qrng1 hg hm (qac a1 qa_nil hp) hp, fun H0 B H τ σ Q Qd s S h xc k => a2 H0 B H τ σ _ _ s S h (xno fun _ q => q) fun r v B' H' q hr hq => by
    split at hq
    · rename_i j ej
      exact ⟨j, by rw [hr.pk.scal (z := .int j) (by rw [ej]; rfl)], hq.1, hq.2.1, k _ _ B' H' q (it_rng 0 j.toNat) hq.2.2⟩
    · exact hq.elim⟩
def vRng2 (ta tb : TV) : TVA := fun τ Q => ta τ fun rx => exR rx (fun _ => False) <| tb τ fun ry => match rx.d, ry.d with
  | .int i, .int j => (-(2 ^ 62) ≤ i ∧ i < 2 ^ 62 ∧ -(2 ^ 62) ≤ j ∧ j < 2 ^ 62) ∧ Q (.ok (rngL i (j - i).toNat))
  | _, _ => False
theorem vi_rng2 {tg b : Expr} {tb : TV} (hg : Gl X "range") (hm : X.mg "range" = none) (h : VE X EX a ta) (hb : VE X EX b tb) (hp : plainE a = true := by rfl) (hp2 : plainE b = true := by rfl) : VI X EX tg (.Call (.Name "range" p) [a, b] [] pos) (vRng2 ta tb) :=
  let ⟨_, a1, a2⟩ := h.u; let ⟨_, b1, b2⟩ := hb.u; ⟨_, qrng2 hg hm (qac a1 (qac b1 qa_nil hp2) hp) hp hp2, fun H0 B H τ σ Q Qd s S h xc k => a2 H0 B H τ σ _ _ s S h (xno fun _ q => q) fun r v B' H' q hr hq => b2 H0 B' H' τ σ _ _ q.s (S.step q) (hr.ok hq) (xno fun _ q => by revert q; cases r.d <;> exact fun z => z) fun r2 v2 B2 H2 q2 hr2 hq2 => by
    split at hq2
    · rename_i i j ei ej
      exact ⟨i, j, by rw [hr.pk.scal (z := .int i) (by rw [ei]; rfl), hr2.pk.scal (z := .int j) (by rw [ej]; rfl)], hq2.1, k _ _ B2 H2 (q.trans q2) (it_rng i (j - i).toNat) hq2.2⟩
    · exact hq2.elim⟩
/-! ### for -/
def forW (g : TVG) (tb : TVS) (Dv : VEnds) : List D → VSt → Prop
  | [], τ => Dv.nx τ
  | d :: ds, τ => g d τ fun τ' => tb { Dv with nx := forW g tb Dv ds, ct := forW g tb Dv ds, bk := Dv.nx } τ'
/-- the things to walk have come, or it raises -/
def exI (τ : VSt) (Dv : VEnds) : AR → (List D → Prop) → Prop
  | .ok ds, k => k ds
  | .exc n, _ => Dv.xc τ n
def vFor (vi : TVA) (g : TVG) (tb : TVS) : TVS := fun Dv τ => vi τ fun a => exI τ Dv a fun ds => forW g tb Dv ds τ
theorem rf_for {wi : TI} {g : TG} {tb : TS} {vi : TVA} {gv : TVG} {bv : TVS} (hi : RfI K EX wi vi) (hg : RfG K g gv) (hb : RfS K EX tb bv) : RfS K EX (tFor wi g tb) (vFor vi gv bv) := fun B0 H0 B H τ σ Dv Dh p S h E =>
  hi H0 B H τ σ _ _ p.s S h (E.raised p S) fun J ds B1 H1 q ok hw => by
    have pq := p.trans q
    have E1 := E.base pq
    refine ⟨fun i m σ H => m = ds.length - i ∧ i ≤ ds.length ∧ ∃ B2 τ, Stp B1 H0 B2 H ∧ Slots K H0 B2 H τ σ ∧ forW gv bv Dv (ds.drop i) τ, ⟨ds.length, by omega, Nat.zero_le _, B1, τ, pq.here, S.step q, hw⟩, ?_⟩
    rintro i m σ2 H2 ⟨rfl, hi, B2, τ2, p2, S2, w⟩
    by_cases hlt : i < ds.length
    · have ei : ds[i]? = some ds[i] := List.getElem?_eq_getElem hlt
      rw [List.drop_eq_getElem_cons hlt] at w
      obtain ⟨go, yl⟩ := (ok i H2 (p2.b.trans p2.s)).1 _ ei
      refine .inr ⟨go, fun σ' H' => ∃ B2 τ, Stp B1 H0 B2 H' ∧ Slots K H0 B2 H' τ σ' ∧ forW gv bv Dv (ds.drop (i + 1)) τ, fun σ' H' ⟨B3, τ3, a1, a2, a3⟩ => ⟨ds.length - (i + 1), by omega, rfl, by omega, B3, τ3, a1, a2, a3⟩, fun y H' hy => ?_⟩
      obtain ⟨rfl, rp⟩ := yl y H' hy
      refine hg H0 B2 H' τ2 σ2 y _ _ _ p2.s S2 (rp.same p2.b) w fun τ' σ' S' _ h' => ?_
      exact hb B1 H0 B2 H' τ' σ' _ _ p2 S' h' ⟨fun B H τ σ a1 a2 a3 => ⟨B, τ, a1, a2, a3⟩, E1.rt, fun B H τ σ a1 a2 a3 => E1.nx B H τ σ a1 a2 a3, fun B H τ σ a1 a2 a3 => ⟨B, τ, a1, a2, a3⟩, E1.xc⟩
    · have ei : ds[i]? = none := List.getElem?_eq_none (by omega)
      rw [List.drop_eq_nil_of_le (by omega)] at w
      exact .inl ⟨(ok i H2 (p2.b.trans p2.s)).2 ei, E1.nx B2 H2 τ2 σ2 p2 S2 w⟩
theorem vs_for {tg iter : Expr} {body : List Stmt} {vi : TVA} {g : TVG} (hp : PassesOwn (model X.prog X.w) X.A X.env X.xe) (hc : X.calm = true) (hi : VI X EX tg iter vi) (hg : VG X tg g) (hb : VSs X EX body t)
    (hs : ∀ x, foldedSetIterable iter X.env x = pure x := by intro _; rfl) : VS X EX (.For tg iter body [] pos) (vFor vi g t) :=
  let ⟨_, a1, a2⟩ := hi.u; let ⟨_, b1, b2⟩ := hg.u; let ⟨_, c1, c2⟩ := hb.u; ⟨_, qs_for hp hc a1 b1 c1 hs, rf_for a2 b2 c2⟩
/-! ### while -/
def vWhile (c : TVT) (tb : TVS) : TVS := fun Dv τ => ∃ W : Nat → VSt → Prop, (∃ m, W m τ) ∧ ∀ m τ, W m τ → c τ fun b => if b = true then tb { Dv with nx := fun τ' => ∃ m', m' < m ∧ W m' τ', ct := fun τ' => ∃ m', m' < m ∧ W m' τ', bk := Dv.nx } τ else Dv.nx τ
theorem vs_while {body : List Stmt} (hp : PassesOwn (model X.prog X.w) X.A X.env X.xe) (hc : VT X EX c tT) (hb : VSs X EX body t) : VS X EX (.While c body [] pos) (vWhile tT t) :=
  let ⟨_, a1, a2⟩ := hc.u; let ⟨_, b1, b2⟩ := hb.u; ⟨_, qs_while hp a1 b1, fun B0 H0 B H τ σ Dv Dh p S h E => by
    obtain ⟨W, ⟨m0, w0⟩, turn⟩ := h
    refine ⟨fun m σ H => ∃ B2 τ, Stp B0 H0 B2 H ∧ Slots X.K H0 B2 H τ σ ∧ W m τ, ⟨m0, B, τ, p, S, w0⟩, ?_⟩
    rintro m σ2 H2 ⟨B2, τ2, p2, S2, w⟩
    refine a2 H0 B2 H2 τ2 σ2 _ _ p2.s S2 (turn m τ2 w) fun b B3 H3 q hq => ?_
    cases b with
    | true =>
      refine iteT ⟨fun σ' H' => ∃ m', m' < m ∧ ∃ B2 τ, Stp B0 H0 B2 H' ∧ Slots X.K H0 B2 H' τ σ' ∧ W m' τ, fun σ' H' z => z, ?_⟩
      rw [if_pos rfl] at hq
      exact b2 B0 H0 B3 H3 τ2 σ2 _ _ (p2.trans q) (S2.step q) hq ⟨fun B H τ σ a1 a2 ⟨m', l, a3⟩ => ⟨m', l, B, τ, a1, a2, a3⟩, E.rt, fun B H τ σ a1 a2 a3 => E.nx B H τ σ a1 a2 a3, fun B H τ σ a1 a2 ⟨m', l, a3⟩ => ⟨m', l, B, τ, a1, a2, a3⟩, E.xc⟩
    | false =>
      rw [if_neg Bool.false_ne_true] at hq
      exact iteF (E.nx B3 H3 τ2 σ2 (p2.trans q) (S2.step q) hq)⟩
/-! ### comprehensions -/
theorem vfs_nil : VFs X EX [] (fun _ Q => Q true) := ⟨_, qif_nil, fun H0 B H τ σ Y N Qd s S h k => by have := k true B H (.refl s) h; rw [if_pos rfl] at this; exact this⟩
theorem vfs_one (h : VT X EX c tT) : VFs X EX [c] tT := let ⟨_, a1, a2⟩ := h.u; ⟨_, qif_one a1, fun H0 B H τ σ Y N Qd s S h k => a2 H0 B H τ σ _ _ s S h k⟩
def compW (τ : VSt) (k : Nat) (g : TVG) (ti : TVT) (te : TV) (Q : R → Prop) : List D → List D → Prop
  | [], acc => Q (.own (.lst acc))
  | d :: ds, acc => g d (τ ++ List.replicate k none) fun τ2 => (τ2.take τ.length = τ ∧ τ2.length = τ.length + k) ∧ ti τ2 fun b => if b = true then te τ2 fun r => pubR r fun d' => acc.length < sizeLine ∧ compW τ k g ti te Q ds (acc ++ [d']) else compW τ k g ti te Q ds acc
def vComp (vi : TVA) (g : TVG) (ti : TVT) (te : TV) (k : Nat) : TV := fun τ Q => vi τ fun a => exA a Q fun ds => compW τ k g ti te Q ds []
theorem Slots.more (S : Slots K H0 B H τ σ) (k : Nat) : Slots K H0 B H (τ ++ List.replicate k none) (σ ++ List.replicate k none) := by
  have get : ∀ (i : Nat) (r : R), (τ ++ List.replicate k none)[i]? = some (some r) → τ[i]? = some (some r) ∧ (σ ++ List.replicate k (none : Option V))[i]? = σ[i]? := fun i r h => by
    by_cases l : i < τ.length
    · rw [List.getElem?_append_left l] at h
      exact ⟨h, List.getElem?_append_left (by rw [S.len]; exact l)⟩
    · rw [List.getElem?_append_right (by omega)] at h
      by_cases l2 : i - τ.length < k
      · rw [List.getElem?_replicate_of_lt l2] at h; cases h
      · rw [List.getElem?_eq_none (by rw [List.length_replicate]; omega)] at h; cases h
  refine ⟨by rw [List.length_append, List.length_append, S.len, List.length_replicate, List.length_replicate], fun i d h => ?_, fun i d h => ?_, fun i j d e a h1 h2 h3 h4 => ?_⟩
  · obtain ⟨g1, g2⟩ := get i _ h
    rw [g2]
    exact S.val i d g1
  · obtain ⟨g1, g2⟩ := get i _ h
    rw [g2]
    exact S.own i d g1
  · obtain ⟨g1, g2⟩ := get i _ h1
    obtain ⟨g3, g4⟩ := get j _ h2
    rw [g2] at h3
    rw [g4] at h4
    exact S.sep i j d e a g1 g3 h3 h4
/-- the first names alone -/
theorem Slots.less {τ2 : VSt} {k : Nat} (S : Slots K H0 B H τ2 σ) (h1 : τ2.take τ.length = τ) (h2 : τ2.length = τ.length + k) : Slots K H0 B H (τ ++ List.replicate k none) σ ∧ ∀ (j : Nat) (e : D), (τ ++ List.replicate k none)[j]? = some (some (R.own e)) → τ2[j]? = some (some (R.own e)) := by
  have get : ∀ (i : Nat) (r : R), (τ ++ List.replicate k none)[i]? = some (some r) → τ2[i]? = some (some r) := fun i r h => by
    by_cases l : i < τ.length
    · rw [List.getElem?_append_left l, ← h1, List.getElem?_take_of_lt l] at h
      exact h
    · rw [List.getElem?_append_right (by omega)] at h
      by_cases l2 : i - τ.length < k
      · rw [List.getElem?_replicate_of_lt l2] at h; cases h
      · rw [List.getElem?_eq_none (by rw [List.length_replicate]; omega)] at h; cases h
  exact ⟨⟨by rw [S.len, h2, List.length_append, List.length_replicate], fun i d h => S.val i d (get i _ h), fun i d h => S.own i d (get i _ h), fun i j d e a q1 q2 => S.sep i j d e a (get i _ q1) (get j _ q2)⟩, fun j e => get j _⟩
theorem Slots.heap (S : Slots K H0 B H τ σ) (h : ∀ (i : Nat) (d : D) (a : Addr), τ[i]? = some (some (R.own d)) → σ[i]? = some (some (.ref a)) → H' a = H a) : Slots K H0 B H' τ σ :=
  ⟨S.len, S.val, fun i d e => let ⟨a, q1, q2, q3, q4⟩ := S.own i d e; ⟨a, q1, q2, q3, q4.step (Same.refl _) (h i d a e q1)⟩, S.sep⟩
abbrev EX0 : St → XK := fun _ _ _ _ => False
theorem rf_comp {wi : TI} {g : TG} {ti : TF} {ee : TE} {vi : TVA} {gv : TVG} {tv : TVT} {k : Nat} (hi : RfI K EX wi vi) (hg : RfG K g gv) (hf : RfF K ti tv) (he : RfE K EX0 ee te) : RfE K EX (tComp wi g ti ee k) (vComp vi gv tv te k) := fun H0 B H τ σ Q Qd s S h xc kk =>
  hi H0 B H τ σ _ _ s S h xc fun J ds B1 H1 q ok hw p hp => by
    have S1 := S.step q
    refine ⟨fun i m σ' xs H' => m = ds.length - i ∧ i ≤ ds.length ∧ ∃ B2 acc, Stp B1 H1 B2 H' ∧ H' p = some (.lst xs) ∧ B2 p = none ∧ Reps K B2 acc xs ∧ Slots K H0 B2 H' (τ ++ List.replicate k none) σ' ∧
        (∀ (j : Nat) (e : D), (τ ++ List.replicate k none)[j]? = some (some (R.own e)) → σ'[j]? ≠ some (some (.ref p))) ∧ compW τ k gv tv te Qd (ds.drop i) acc,
      ⟨ds.length, by omega, Nat.zero_le _, B1, [], .grow q.s (same_upd hp _), upd_same, q.s.free hp, .nil, (S1.more k).heap fun i d a h1 h2 => ?_, fun j e h1 h2 => ?_, hw⟩, ?_⟩
    · obtain ⟨c, q1, _, _, ow⟩ := (S1.more k).own i d h1
      rw [h2] at q1
      cases q1
      exact upd_ne fun z => ow.some (z ▸ hp)
    · obtain ⟨c, q1, _, _, ow⟩ := (S1.more k).own j e h1
      rw [h2] at q1
      cases q1
      exact ow.some hp
    rintro i m σ2 xs H2 ⟨rfl, hle, B2, acc, p2, hx, hb, rp, S2, fr, w⟩
    by_cases hlt : i < ds.length
    · have ei : ds[i]? = some ds[i] := List.getElem?_eq_getElem hlt
      rw [List.drop_eq_getElem_cons hlt] at w
      obtain ⟨go, yl⟩ := (ok i H2 (p2.b.trans p2.s)).1 _ ei
      refine .inr ⟨go, fun y H' hy => ?_⟩
      obtain ⟨rfl, ry⟩ := yl y H' hy
      refine hg H0 B2 H' _ σ2 y _ _ _ p2.s S2 (ry.same p2.b) w fun τ3 σ3 S3 kp h3 => ?_
      obtain ⟨⟨e1, e2⟩, h3⟩ := h3
      obtain ⟨S3', ow3⟩ := S3.less e1 e2
      have fr3 : ∀ (j : Nat) (e : D), (τ ++ List.replicate k none)[j]? = some (some (R.own e)) → σ3[j]? ≠ some (some (.ref p)) := fun j e h z => by
        obtain ⟨g1, g2⟩ := kp j e (ow3 j e h)
        rw [g2] at z
        exact fr j e g1 z
      refine hf H0 B2 H' τ3 σ3 _ _ _ p2.s S3 h3 fun b B4 H4 q4 hq4 => ?_
      have hx4 : H4 p = some (.lst xs) := q4.h _ _ hx
      have hb4 : B4 p = none := q4.keep hb (by rw [hx]; exact fun z => by cases z) (by rw [hx]; exact fun _ z => by cases z)
      cases b with
      | false =>
        rw [if_neg Bool.false_ne_true] at hq4 ⊢
        exact ⟨ds.length - (i + 1), by omega, rfl, by omega, B4, acc, p2.trans q4, hx4, hb4, rp.same q4.b, S3'.step q4, fr3, hq4⟩
      | true =>
        rw [if_pos rfl] at hq4 ⊢
        refine he H0 B4 H4 τ3 σ3 _ _ q4.s (S3.step q4) hq4 (xno fun _ q => q) fun r v B5 H5 q5 hr hq5 => ?_
        obtain ⟨d', B6, q6, _, rd, hz, hq6⟩ := pub q5 hr hq5
        have hx6 : H5 p = some (.lst xs) := q6.h _ _ hx4
        have hb6 : B6 p = none := q6.keep hb4 (by rw [hx4]; exact fun z => by cases z) (by rw [hx4]; exact fun _ z => by cases z)
        have qq := q4.trans q6
        refine ⟨hx6, by rw [← rp.length]; exact hz, ds.length - (i + 1), by omega, rfl, by omega, B6, acc ++ [d'], (p2.trans qq).upd hp hb6, upd_same, hb6, (rp.same qq.b).append (.one rd), (S3'.step qq).heap fun j d a h1 h2 => ?_, fr3, hq6⟩
        exact upd_ne fun z => fr3 j d h1 (z ▸ h2)
    · have ei : ds[i]? = none := List.getElem?_eq_none (by omega)
      rw [List.drop_eq_nil_of_le (by omega)] at w
      exact .inl ⟨(ok i H2 (p2.b.trans p2.s)).2 ei, kk (.own (.lst acc)) _ B2 H2 (q.trans p2) ⟨p, rfl, q.h.free hp, hb, xs, hx, rp⟩ w⟩
/-! the reading over the heap that a reading over data means, the same in all contexts -/
def canE (K : PySem.W.Frag) (t : TV) : TE := fun σ H Q => ∃ H0 B τ Qd, Same B H ∧ Slots K H0 B H τ σ ∧ t τ Qd ∧ (∀ n C B' H', Stp B H B' H' → clsOf K n C → Qd (.exc n) → EX0 σ (.ref C) none H') ∧ ∀ r v B' H', Stp B H B' H' → RepR K B' H H' r v → Qd r → Q v H'
def canG (K : PySem.W.Frag) (g : TVG) : TG := fun v σ H Q => ∃ H0 B τ d Qd, Same B H ∧ Slots K H0 B H τ σ ∧ Rep K B d v ∧ g d τ Qd ∧ ∀ τ' σ', Slots K H0 B H τ' σ' → Kp τ σ τ' σ' → Qd τ' → Q σ' H
def canF (K : PySem.W.Frag) (t : TVT) : TF := fun σ H Y N => ∃ H0 B τ Qd, Same B H ∧ Slots K H0 B H τ σ ∧ t τ Qd ∧ ∀ b B' H', Stp B H B' H' → Qd b → if b = true then Y H' else N H'
theorem VE.can (h : VE X EX0 e te) : QE X e (canE X.K te) := let ⟨_, a1, a2⟩ := h.u; ⟨fun pins s σ H Q I ⟨H0, B, τ, Qd, q1, q2, q3, q4, q5⟩ => a1.u pins s σ H Q I (a2 H0 B H τ σ Q Qd q1 q2 q3 q4 q5)⟩
theorem VG.can {g : TVG} (h : VG X e g) : QG X e (canG X.K g) := let ⟨_, a1, a2⟩ := h.u; ⟨fun pins s σ H v u Q I r ⟨H0, B, τ, d, Qd, q1, q2, q3, q4, q5⟩ => a1.u pins s σ H v u Q I r (a2 H0 B H τ σ v d Q Qd q1 q2 q3 q4 q5)⟩
theorem VFs.can (h : VFs X EX es tT) : QF X es (canF X.K tT) := let ⟨_, a1, a2⟩ := h.u; ⟨fun pins s σ H Y N I ⟨H0, B, τ, Qd, q1, q2, q3, q4⟩ => a1.u pins s σ H Y N I (a2 H0 B H τ σ Y N Qd q1 q2 q3 q4)⟩
theorem vc_comp {tg iter elt : Expr} {ifs : List Expr} {csc : Scope} {NB M : List Str} {vi : TVA} {g : TVG} {ti : TVT} (hi : VI X EX tg iter vi) (hc : X.calm = true) (S : CompScope X.env.scope X.N NB M csc)
    (hg : ∀ cl C s₀ H₀ fp pn, VG (cxC X NB csc cl C s₀ H₀ fp pn) tg g) (hf : ∀ cl C s₀ H₀ fp pn, VFs (cxC X NB csc cl C s₀ H₀ fp pn) EX0 ifs ti)
    (he : ∀ cl C s₀ H₀ fp pn, VE (cxC X NB csc cl C s₀ H₀ fp pn) EX0 elt te) (hs : ∀ x, foldedSetIterable iter X.env x = pure x := by intro _; rfl) : VC X EX (.ListComp elt [⟨tg, iter, ifs, 0⟩] csc pos) (vComp vi g ti te M.length) :=
  let ⟨_, a1, a2⟩ := hi.u; ⟨_, qc_comp (g := canG X.K g) (ti := canF X.K ti) (te := canE X.K te) a1 hc S (fun cl C s₀ H₀ fp pn => (hg cl C s₀ H₀ fp pn).can) (fun cl C s₀ H₀ fp pn => (hf cl C s₀ H₀ fp pn).can) (fun cl C s₀ H₀ fp pn => (he cl C s₀ H₀ fp pn).can) hs,
    rf_comp a2 (fun H0 B H τ σ v d Q Qd q1 q2 q3 q4 q5 => ⟨H0, B, τ, d, Qd, q1, q2, q3, q4, q5⟩) (fun H0 B H τ σ Y N Qd q1 q2 q3 q4 => ⟨H0, B, τ, Qd, q1, q2, q3, q4⟩) (fun H0 B H τ σ Q Qd q1 q2 q3 q4 q5 => ⟨H0, B, τ, Qd, q1, q2, q3, q4, q5⟩)⟩
theorem vc_e (h : VC X EX e te) : VE X EX e te := let ⟨_, a1, a2⟩ := h.u; ⟨_, qc_e a1, a2⟩
/-! ### a name's own list is changed -/
def ownL (τ : VSt) (i : Nat) (Q : List D → Prop) : Prop := match τ[i]? with
  | some (some (.own (.lst ds))) => Q ds
  | _ => False
theorem ownL_of {i : Nat} {Q : List D → Prop} (h : ownL τ i Q) : ∃ ds, τ[i]? = some (some (.own (.lst ds))) ∧ Q ds := by
  unfold ownL at h
  split at h
  · exact ⟨_, by assumption, h⟩
  · exact h.elim
/-- the i-th name's list becomes another one -/
theorem Slots.lst {i : Nat} {ds es : List D} {ad : Addr} {ys : List V} (S : Slots K H0 B H τ σ) (p : Stp B0 H0 B H) (hi : τ[i]? = some (some (.own (.lst ds)))) (ha : σ[i]? = some (some (.ref ad))) (r : Reps K B es ys) :
    Stp B0 H0 B (L2.upd H ad (.lst ys)) ∧ Slots K H0 B (L2.upd H ad (.lst ys)) (τ.set i (some (.own (.lst es)))) σ := by
  obtain ⟨c, q, h0, hb, _⟩ := S.own i _ hi
  rw [ha] at q
  cases q
  exact ⟨p.upd h0 hb, S.upd hi ha (own_newL r)⟩
/-- the state as it is, and the list that the i-th name has -/
theorem Slots.ownL {i : Nat} {Q : List D → Prop} (S : Slots K H0 B H τ σ) (h : L2.ownL τ i Q) : ∃ ds ad xs, τ[i]? = some (some (.own (.lst ds))) ∧ Q ds ∧ σ[i]? = some (some (.ref ad)) ∧ H ad = some (.lst xs) ∧ Reps K B ds xs := by
  obtain ⟨ds, e, q⟩ := ownL_of h
  obtain ⟨a, q1, _, _, xs, q2, q3⟩ := S.own i _ e
  exact ⟨ds, a, xs, e, q, q1, q2, q3⟩
def vAppend (i : Nat) (te : TV) : TVS := fun Dv τ => ownL τ i fun ds => te τ fun r => exS τ Dv r (pubR r fun d => ds.length < sizeLine ∧ Dv.nx (τ.set i (some (.own (.lst (ds ++ [d]))))))
theorem vs_append (i : Nat) (h : VE X EX e te) (hN : X.N[i]? = some x := by rfl) (hv : Vis X.env.scope x := by first | exact Or.inl rfl | exact Or.inr (Or.inl rfl) | exact Or.inr (Or.inr rfl)) (hd : (x == ("__debug__" : Str)) = false := by decide)
    (hcd : (x == ("__classdict__" : Str)) = false := by decide) (hp : plainE e = true := by rfl)
    (hbase : attributeBase (.Name x p) "append" X.env (eval (.Name x p) X.env) = eval (.Name x p) X.env := by rfl) (hline : (apos.endLine == cpos.line) = true := by rfl)
    (hs : swapsWith (.Call (.Attribute (.Name x p) "append" apos) [e] [] cpos) none pos.line X.env = pure false := by rfl) :
    VS X EX (.Expr (.Call (.Attribute (.Name x p) "append" apos) [e] [] cpos) pos) (vAppend i te) :=
  let ⟨_, a1, a2⟩ := h.u; ⟨_, qs_expr (qbm PySem.F.plainAttrs_list PySem.F.slot_list_append PySem.F.type_list_append mt_append (qv i hN hv hd hcd) (qac a1 qa_nil hp) (by simp [hp]) rfl hbase hline) hs, fun B0 H0 B H τ σ Dv Dh p S h E => by
    obtain ⟨ds, ad, xs, e1, h, e2, e3, _⟩ := S.ownL h
    refine ⟨.ref ad, e2, .inl ⟨rfl, xs, SqL.of e3⟩, a2 H0 B H τ σ _ _ p.s S h (E.raised p S) fun r v B' H' q hr hq => ?_⟩
    obtain ⟨d, B2, q2, _, rp, hz, hn⟩ := pub q hr (hr.okS hq)
    have S2 := S.step q2
    obtain ⟨a', q1, _, _, xs2, q4, q3⟩ := S2.own i _ e1
    rw [e2] at q1
    cases q1
    refine ⟨ad, xs2, v, rfl, rfl, q4, by rw [← q3.length]; exact hz, ?_⟩
    obtain ⟨p3, S3⟩ := S2.lst (p.trans q2) e1 e2 (q3.append (.one rp))
    exact E.nx B2 _ _ σ p3 S3 hn⟩
/-- x[k] = e -/
def vSetI (i : Nat) (tk te : TV) : TVS := fun Dv τ => ownL τ i fun ds => te τ fun r => exS τ Dv r <| pubR r fun d => tk τ fun rk => match rk.d with
  | .int k => ∃ j, ixN ds.length k = some j ∧ Dv.nx (τ.set i (some (.own (.lst (ds.set j d)))))
  | _ => False
theorem vs_setI {ek : Expr} {tk : TV} (i : Nat) (hk : VE X EX ek tk) (h : VE X EX e te) (hN : X.N[i]? = some x := by rfl) (hv : Vis X.env.scope x := by first | exact Or.inl rfl | exact Or.inr (Or.inl rfl) | exact Or.inr (Or.inr rfl)) (hd : (x == ("__debug__" : Str)) = false := by decide)
    (hcd : (x == ("__classdict__" : Str)) = false := by decide)
    (ha : ∀ v, assign (.Subscript (.Name x p) ek p2) X.env v = (do
      let ov ← holding [v] (eval (.Name x p) X.env)
      let iv ← holding [v, ov] (eval ek X.env)
      standAt p2
      holding [v, ov, iv] (setItem ov iv v)
      release [v, ov, iv] []) := by intro _; rfl)
    (hs : swapsWithSole [.Subscript (.Name x p) ek p2] e pos.line X.env = pure false := by rfl) (hw : swappedStores [.Subscript (.Name x p) ek p2] e X.env = pure none := by rfl)
    (h1 : (assignEach [.Subscript (.Name x p) ek p2] X.env).map (·.2) = [assign (.Subscript (.Name x p) ek p2) X.env] := by rfl) : VS X EX (.Assign [.Subscript (.Name x p) ek p2] e pos) (vSetI i tk te) :=
  let ⟨_, a1, a2⟩ := h.u; let ⟨_, b1, b2⟩ := hk.u; ⟨_, qs_asg a1 (qg_sub (qv i hN hv hd hcd) b1 set_list ha) hs hw h1, fun B0 H0 B H τ σ Dv Dh p S h E => by
    obtain ⟨ds, ad, xs, e1, h, e2, e3, _⟩ := S.ownL h
    refine a2 H0 B H τ σ _ _ p.s S h (E.raised p S) fun r v B' H' q hr hq => ?_
    obtain ⟨d, B2, q2, _, rp, hn⟩ := pub q hr (hr.okS hq)
    refine ⟨.ref ad, e2, b2 H0 B2 H' τ σ _ _ q2.s (S.step q2) hn (xno fun _ q => q) fun rk vk B3 H3 q3 hk hh => ?_⟩
    split at hh
    · rename_i k ek
      obtain ⟨j, hj, hn⟩ := hh
      have qq := q2.trans q3
      have S3 := S.step qq
      obtain ⟨a', f1, _, _, xs2, f4, f3⟩ := S3.own i _ e1
      rw [e2] at f1
      cases f1
      refine ⟨ad, xs2, k, j, rfl, hk.pk.scal (by rw [ek]; rfl), f4, by rw [← f3.length]; exact hj, ?_⟩
      obtain ⟨p4, S4⟩ := S3.lst (p.trans qq) e1 e2 (f3.set j (rp.same q3.b))
      exact E.nx B3 _ _ σ p4 S4 hn
    · exact hh.elim⟩
/-! ### a def -/
def startD (N : List Str) (ds : List D) : VSt := ds.map (fun d => some (R.val d)) ++ List.replicate (N.length - ds.length) none
theorem reps_slots : ∀ {ds : List D} {vs : List V}, Reps K B ds vs → Slots K H0 B H (ds.map fun d => some (R.val d)) (vs.map some)
  | [], _, h => by
    unfold Reps at h
    subst h
    exact ⟨rfl, fun i d e => by simp at e, fun i d e => by simp at e, fun i j d e a h => by simp at h⟩
  | d :: ds, _, h => by
    unfold Reps at h
    obtain ⟨v, vs, rfl, h1, h2⟩ := h
    have S := reps_slots h2
    refine ⟨by have := S.len; simp at this ⊢; exact this, fun i f e => ?_, fun i f e => ?_, fun i j f g ad e => ?_⟩
    · cases i with
      | zero => simp at e; subst e; exact ⟨v, rfl, h1⟩
      | succ i => simpa using S.val i f (by simpa using e)
    · cases i with
      | zero => simp at e
      | succ i => simpa using S.own i f (by simpa using e)
    · cases i with
      | zero => simp at e
      | succ i =>
        simp at e
theorem Fun.okV {P : Program} {w : World} {mg : Str → Option Value} {base : Heap} {x qual : Str} {st : Stmt} {f : Addr} {fd : FuncData} {N ps : List Str} {k : Nat} {g : DP} (F : Fun K x qual st f fd) (S : FnScope N ps (defScope st)) (len : ∀ ds Q, g ds Q → ds.length = ps.length)
    (hbody : ∀ (cdv : Value) (A : Around) (outer : List Env) (s : Shared) (H : Hp) (E : XK), Room k (A.deeper (envOfC qual (defScope st) s.heap.objs.size f cdv)) →
      ∃ t, VSs (cxOf CX0 P w K mg base N qual (defScope st) f cdv A outer s H E).nox EX0 (defBody st) t ∧ ∀ ds Q, g ds Q → t { nx := fun _ => Q (.val .non), rt := Q } (startD N ds)) : FnOk P w K mg base CX0 (k + 1) f fd ps (spOf K g) := by
  refine F.okQ S (fun vs H Q E h => ?_) (fun cdv A outer s H vs Q E hr h => ?_)
  · obtain ⟨ds, B, Qd, _, rp, hg, _, _⟩ := h
    rw [← rp.length]
    exact len ds Qd hg
  · obtain ⟨ds, B, Qd, sm, rp, hg, _, kk⟩ := h
    obtain ⟨t, ⟨ts, q1, q2⟩, ht⟩ := hbody cdv A outer s H E hr
    refine ⟨ts, q1, q2 B H B H (startD N ds) (start N vs) _ _ (.refl sm) ?_ (ht ds Qd hg) ⟨fun B' H' τ σ p S h => kk (.val .non) .non B' H' h p (repV rfl), fun r v B' H' p hr h => kk r v B' H' h p hr, fun _ _ _ _ _ _ h => h.elim, fun _ _ _ _ _ _ h => h.elim, fun _ _ _ _ _ _ _ _ _ h => h.elim⟩⟩
    unfold startD start
    rw [rp.length]
    exact (reps_slots rp).more _
end
end L2
/-! THE VALUE LAYER, more rules. -/
namespace L2
open PySem PySem.Spec PyProof.Rows
section
variable {X : Cx} {EX : St → XK} {K : PySem.W.Frag} {e a b c o : Expr} {te ta tb tc to : TV} {pos p apos cpos : Pos} {x : Str}
def vNeg (ta : TV) : TV := fun τ Q => ta τ fun r => match r.d with
  | .int i => Q (.val (.int (-i)))
  | _ => False
theorem ve_neg (ha : VE X EX a ta) : VE X EX (.UnaryOp .USub a pos) (vNeg ta) :=
  let ⟨_, a1, a2⟩ := ha.u; ⟨_, qe_un un_neg a1, fun H0 B H τ σ Q Qd s S h xc k => a2 H0 B H τ σ _ _ s S h (xno fun _ q => q) fun r v B' H' p q h1 => by
    split at h1
    · rename_i i e
      exact ⟨i, q.pk.scal (by rw [e]; rfl), k (.val (.int (-i))) _ B' H' p (repV rfl) h1⟩
    · exact h1.elim⟩
/-! x is None -/
def vIsN (g : Bool → Bool) (rx ry : R) (Q : R → Prop) : Prop := match ry.d with
  | .non => Q (.val (.bl (g (match rx.d with | .non => true | _ => false))))
  | _ => False
theorem pk_non {B H : Hp} {r : R} {v : V} (h : Pk K B H r v) : decide (v = .non) = (match r.d with | .non => true | _ => false) := by
  have key : ∀ d, Rep K B d v → decide (v = .non) = (match d with | .non => true | _ => false) := fun d h => by
    cases d <;> unfold Rep at h <;> first | (subst h; rfl) | (obtain ⟨_, _, rfl, _⟩ := h; rfl) | (obtain ⟨_, rfl, _⟩ := h; rfl)
  have key2 : ∀ d, (∃ a, v = .ref a ∧ B a = none ∧ OwnAt K B H d a) → decide (v = .non) = (match d with | .non => true | _ => false) := fun d ⟨a, e, _, ow⟩ => by
    subst e
    cases d <;> first | rfl | exact ow.elim
  cases r with
  | val d => exact key d h
  | own d => exact key2 d h
  | peek d => exact key2 d h
  | exc n => exact h.elim
theorem vo_is : VO X (compareOp .Is) (vIsN id) := by
  refine ⟨_, op_isN, fun B H x y rx ry Q Qd s px py h k => ?_⟩
  unfold vIsN at h
  split at h
  · rename_i e
    refine ⟨py.scal (by rw [e]; rfl), ?_⟩
    rw [pk_non px]
    exact k _ _ B H (.refl s) (repV rfl) h
  · exact h.elim
theorem vo_isnot : VO X (compareOp .IsNot) (vIsN (!·)) := by
  refine ⟨_, op_notN, fun B H x y rx ry Q Qd s px py h k => ?_⟩
  unfold vIsN at h
  split at h
  · rename_i e
    refine ⟨py.scal (by rw [e]; rfl), ?_⟩
    rw [pk_non px]
    exact k _ _ B H (.refl s) (repV rfl) h
  · exact h.elim
/-! a chain of two comparisons -/
def vChain (rd rd' : R → R → (R → Prop) → Prop) (ta tb tc : TV) : TV := fun τ Q => ta τ fun rx => exR rx (fun _ => False) <| tb τ fun ry => exR ry (fun _ => False) <| rd rx ry fun rz => match rz.d with
  | .bl k => if k = true then tc τ fun rw => exR rw (fun _ => False) (rd' ry rw Q) else Q (.val (.bl false))
  | _ => False
/-! sep.join(texts) -/
theorem mt_joinT : MtM X "str.join" (fun x vs H Q => ∃ (sep : Str) (l : Addr) (ys : List Str), x = .str sep ∧ vs = [.ref l] ∧ SqT X.K H l (ys.map V.str) ∧ (ys.map (·.length)).sum + ys.length * sep.length ≤ 16777216 ∧ Q (.str (glue sep ys)) H) := by
  intro pins s σ H x vs v us Q I rx rv h
  obtain ⟨sep, l, ys, rfl, rfl, hq, hz, q⟩ := h
  obtain ⟨t, rfl⟩ := rx
  obtain ⟨u, rfl, ru⟩ := rv.one
  cases ru
  obtain ⟨its, r, pl, _⟩ := I.tuple hq
  obtain ⟨ts, rfl, rfl⟩ := strs_of r
  have fit : Builtin.Str.tooLong ((ts.map (·.1)).toArray.foldl (· + ·.length + sep.length) 0) = false := by
    rw [StrLaws.joinTotal]
    unfold Builtin.Str.tooLong
    rw [sizeLine_eq]
    exact decide_eq_false (by omega)
  exact call_meets F.slot_str_join (typeIs_str _ _ _) F.entry_str_join (F.args_str_join_2 _ _) (meets_str_join_tuple sep t l ts fit) ⟨(let ⟨o, h1, h2, n, h3⟩ := pl; ⟨o, n, h1, h2, h3⟩), post_join ts ⟨joinFit_length fit, fun t' k => ⟨.str (glue sep (ts.map (·.1))), H, I.tok k, ⟨t', rfl⟩, q⟩⟩⟩
def vJoin (to te : TV) : TV := fun τ Q => to τ fun rs => match rs.d with
  | .str sep => te τ fun rl => ∃ ys : List Str, (rl.d = .lst (ys.map D.str) ∨ rl.d = .tup (ys.map D.str)) ∧ (ys.map (·.length)).sum + ys.length * sep.length ≤ 16777216 ∧ Q (.val (.str (glue sep ys)))
  | _ => False
theorem ve_join (ho : VE X EX o to) (h : VE X EX e te) (hp : plainE e = true := by rfl)
    (hbase : attributeBase o "join" X.env (eval o X.env) = eval o X.env := by rfl) (hline : (apos.endLine == cpos.line) = true := by rfl) : VE X EX (.Call (.Attribute o "join" apos) [e] [] cpos) (vJoin to te) :=
  let ⟨_, o1, o2⟩ := ho.u; let ⟨_, a1, a2⟩ := h.u; ⟨_, qbm PySem.F.plainAttrs_str PySem.F.slot_str_join PySem.F.type_str_join (MtR.or mt_join mt_joinT) o1 (qac a1 qa_nil hp) (by simp [hp]) rfl hbase hline, fun H0 B H τ σ Q Qd s S h xc k =>
    o2 H0 B H τ σ _ _ s S h (xno fun _ q => q) fun rs vs B1 H1 p1 q1 h1 => by
      split at h1
      · rename_i sep es
        cases q1.pk.scal (z := .str sep) (by rw [es]; rfl)
        refine ⟨rfl, a2 H0 B1 H1 τ σ _ _ p1.s (S.step p1) h1 (xno fun _ ⟨_, q, _⟩ => by rcases q with q | q <;> cases q) fun rl vl B2 H2 p2 q2 h2 => ?_⟩
        obtain ⟨ys, el, hz, hq⟩ := h2
        rcases el with el | el
        · obtain ⟨ad, xs, rfl, hx, rx⟩ := q2.pk.lst p2.s el
          exact .inl ⟨sep, ad, ys, rfl, rfl, SqL.of (by rw [hx, rx.strs]), hz, k _ _ B2 H2 (p1.trans p2) (repV rfl) hq⟩
        · obtain ⟨ad, xs, rfl, hx, rx⟩ := q2.pk.tup el
          cases rx.strs
          exact .inr ⟨sep, ad, ys, rfl, rfl, p2.s.sqT hx.sq, hz, k _ _ B2 H2 (p1.trans p2) (repV rfl) hq⟩
      · exact h1.elim⟩
theorem rf_chain {r r' : R2} {rd rd' : R → R → (R → Prop) → Prop} {ea eb ec : TE} (hr : RfO K r rd) (hr' : RfO K r' rd') (ha : RfE K EX ea ta) (hb : RfE K EX eb tb) (hc : RfE K EX ec tc) : RfE K EX (tChain r r' ea eb ec) (vChain rd rd' ta tb tc) := fun H0 B H τ σ Q Qd s S h xc k =>
  ha H0 B H τ σ _ _ s S h (xno fun _ q => q) fun rx x B1 H1 p1 q1 h1 => hb H0 B1 H1 τ σ _ _ p1.s (S.step p1) (q1.ok h1) (xno fun _ q => q) fun ry y B2 H2 p2 q2 h2 =>
    hr B2 H2 x y rx ry _ _ p2.s (q1.pk.step p2) q2.pk (q2.ok h2) fun rz z B3 H3 p3 q3 h3 => by
      split at h3
      · rename_i kk ek
        refine ⟨kk, q3.pk.scal (by rw [ek]; rfl), ?_⟩
        have p13 := p1.trans (p2.trans p3)
        cases kk with
        | true =>
          rw [if_pos rfl] at h3 ⊢
          exact hc H0 B3 H3 τ σ _ _ p3.s (S.step p13) h3 (xno fun _ q => q) fun rw' w B4 H4 p4 q4 h4 => hr' B4 H4 y w ry rw' _ _ p4.s ((q2.pk.step p3).step p4) q4.pk (q4.ok h4) fun r v B5 H5 p5 q5 h5 => k r v B5 H5 (p13.trans (p4.trans p5)) (q5.back (p13.trans p4).h) h5
        | false =>
          rw [if_neg Bool.false_ne_true] at h3 ⊢
          exact k (.val (.bl false)) _ B3 H3 p13 (repV rfl) h3
      · exact h3.elim
theorem ve_chain {op op' : CmpOp} {rd rd' : R → R → (R → Prop) → Prop} (hr : VO X (compareOp op) rd) (hr' : VO X (compareOp op') rd') (ha : VE X EX a ta) (hb : VE X EX b tb) (hc : VE X EX c tc) (hm : lastMarks [op, op'] [b, c] = false := by with_unfolding_all rfl) :
    VE X EX (.Compare a [op, op'] [b, c] pos) (vChain rd rd' ta tb tc) :=
  let ⟨_, r1, r2⟩ := hr.u; let ⟨_, s1, s2⟩ := hr'.u; let ⟨_, a1, a2⟩ := ha.u; let ⟨_, b1, b2⟩ := hb.u; let ⟨_, c1, c2⟩ := hc.u; ⟨_, qe_chain r1 s1 a1 b1 c1 hm, rf_chain r2 s2 a2 b2 c2⟩
theorem vt_chain {op op' : CmpOp} {rd rd' : R → R → (R → Prop) → Prop} (hr : VO X (compareOp op) rd) (hr' : VO X (compareOp op') rd') (ha : VE X EX a ta) (hb : VE X EX b tb) (hc : VE X EX c tc) (hm : lastMarks [op, op'] [b, c] = false := by with_unfolding_all rfl) :
    VT X EX (.Compare a [op, op'] [b, c] pos) (vBl (vChain rd rd' ta tb tc)) :=
  let ⟨_, r1, r2⟩ := hr.u; let ⟨_, s1, s2⟩ := hr'.u; let ⟨_, a1, a2⟩ := ha.u; let ⟨_, b1, b2⟩ := hb.u; let ⟨_, c1, c2⟩ := hc.u; ⟨_, qt_chain r1 s1 a1 b1 c1 hm, rf_bl (rf_chain r2 s2 a2 b2 c2)⟩
/-! in, not in: a text in a text, a text in a sequence of texts -/
/-- texts, if all are such -/
def strsOf : List D → Option (List Str)
  | [] => some []
  | .str s :: ds => (strsOf ds).map (s :: ·)
  | _ :: _ => none
theorem strsOf_map (ss : List Str) : strsOf (ss.map D.str) = some ss := by
  induction ss with
  | nil => rfl
  | cons s ss ih => rw [List.map_cons, strsOf, ih]; rfl
theorem strsOf_eq : ∀ {ds : List D} {ss : List Str}, strsOf ds = some ss → ds = ss.map D.str
  | [], ss, h => by cases h; rfl
  | d :: ds, ss, h => by
    cases d <;> first | (unfold strsOf at h; cases h; done) | skip
    rename_i s
    unfold strsOf at h
    cases q : strsOf ds with
    | none => rw [q] at h; cases h
    | some r =>
      rw [q] at h
      cases h
      rw [strsOf_eq q]
      rfl
def vIn (g : Bool → Bool) (rx ry : R) (Q : R → Prop) : Prop := match rx.d, ry.d with
  | .str x, .str y => Q (.val (.bl (g (!(Builtin.Str.occurrences y x 0 y.length 1).isEmpty))))
  | .str x, .tup ds => ∃ ss, strsOf ds = some ss ∧ Q (.val (.bl (g (decide (x ∈ ss)))))
  | .str x, .lst ds => ∃ ss, strsOf ds = some ss ∧ Q (.val (.bl (g (decide (x ∈ ss)))))
  | .str x, .kt ss => Q (.val (.bl (g (decide (x ∈ ss)))))
  | _, _ => False
theorem inV_strs (x : Str) : ∀ (ss : List Str), inV (.str x) (ss.map V.str) = decide (x ∈ ss)
  | [] => rfl
  | y :: ss => by
    have := inV_strs x ss
    unfold inV at this ⊢
    rw [List.map_cons, List.any_cons, this]
    apply bool_iff
    rw [Bool.or_eq_true, decide_eq_true_iff, decide_eq_true_iff, List.mem_cons]
    rw [show eqV (V.str y) (V.str x) = (y == x) from rfl, beq_iff_eq]
    exact ⟨fun h => h.imp Eq.symm id, fun h => h.imp Eq.symm id⟩
theorem flat_strs (ss : List Str) : (ss.map V.str).all flatV = true := by rw [List.all_map]; simp [flatV]
theorem Pk.kt {B H : Hp} {r : R} {v : V} {ss : List Str} (h : Pk K B H r v) (e : r.d = .kt ss) : ∃ a, v = .ref a ∧ SqT K (fun _ => none) a (ss.map V.str) := by
  cases r with
  | val d =>
    cases (show d = _ from e)
    have h' : Rep K B (.kt ss) v := h
    unfold Rep at h'
    exact h'
  | own d => cases (show d = _ from e); obtain ⟨_, _, _, q⟩ := h; exact q.elim
  | peek d => cases (show d = _ from e); obtain ⟨_, _, _, q⟩ := h; exact q.elim
  | exc n => exact h.elim
theorem vo_in : VO X (compareOp .In) (vIn id) := by
  refine ⟨_, op_in_str.or op_in_seq, fun B H x y rx ry Q Qd s px py h k => ?_⟩
  unfold vIn at h
  split at h
  · rename_i u w e1 e2
    exact .inl ⟨u, w, px.scal (by rw [e1]; rfl), py.scal (by rw [e2]; rfl), k _ _ B H (.refl s) (repV rfl) h⟩
  · rename_i u ds e1 e2
    obtain ⟨ss, hs, q⟩ := h
    cases strsOf_eq hs
    cases px.scal (z := .str u) (by rw [e1]; rfl)
    obtain ⟨a, xs, rfl, h1, r1⟩ := py.tup e2
    cases r1.strs
    have q' : Qd (.val (.bl (decide (u ∈ ss)))) := q
    rw [← inV_strs] at q'
    exact .inr ⟨a, _, rfl, .inr (s.sqT h1.sq), rfl, flat_strs ss, k _ _ B H (.refl s) (repV rfl) q'⟩
  · rename_i u ds e1 e2
    obtain ⟨ss, hs, q⟩ := h
    cases strsOf_eq hs
    cases px.scal (z := .str u) (by rw [e1]; rfl)
    obtain ⟨a, xs, rfl, h1, r1⟩ := py.lst s e2
    cases r1.strs
    have q' : Qd (.val (.bl (decide (u ∈ ss)))) := q
    rw [← inV_strs] at q'
    exact .inr ⟨a, _, rfl, .inl (SqL.of h1), rfl, flat_strs ss, k _ _ B H (.refl s) (repV rfl) q'⟩
  · rename_i u ss e1 e2
    cases px.scal (z := .str u) (by rw [e1]; rfl)
    obtain ⟨a, rfl, h1⟩ := py.kt e2
    have q' : Qd (.val (.bl (decide (u ∈ ss)))) := h
    rw [← inV_strs] at q'
    exact .inr ⟨a, _, rfl, .inr ((Same.emp H).sqT h1), rfl, flat_strs ss, k _ _ B H (.refl s) (repV rfl) q'⟩
  · exact h.elim
theorem vo_notin : VO X (compareOp .NotIn) (vIn (!·)) := by
  refine ⟨_, op_notin_str.or op_notIn_seq, fun B H x y rx ry Q Qd s px py h k => ?_⟩
  unfold vIn at h
  split at h
  · rename_i u w e1 e2
    exact .inl ⟨u, w, px.scal (by rw [e1]; rfl), py.scal (by rw [e2]; rfl), k _ _ B H (.refl s) (repV rfl) h⟩
  · rename_i u ds e1 e2
    obtain ⟨ss, hs, q⟩ := h
    cases strsOf_eq hs
    cases px.scal (z := .str u) (by rw [e1]; rfl)
    obtain ⟨a, xs, rfl, h1, r1⟩ := py.tup e2
    cases r1.strs
    have q' : Qd (.val (.bl (!decide (u ∈ ss)))) := q
    rw [← inV_strs] at q'
    exact .inr ⟨a, _, rfl, .inr (s.sqT h1.sq), rfl, flat_strs ss, k _ _ B H (.refl s) (repV rfl) q'⟩
  · rename_i u ds e1 e2
    obtain ⟨ss, hs, q⟩ := h
    cases strsOf_eq hs
    cases px.scal (z := .str u) (by rw [e1]; rfl)
    obtain ⟨a, xs, rfl, h1, r1⟩ := py.lst s e2
    cases r1.strs
    have q' : Qd (.val (.bl (!decide (u ∈ ss)))) := q
    rw [← inV_strs] at q'
    exact .inr ⟨a, _, rfl, .inl (SqL.of h1), rfl, flat_strs ss, k _ _ B H (.refl s) (repV rfl) q'⟩
  · rename_i u ss e1 e2
    cases px.scal (z := .str u) (by rw [e1]; rfl)
    obtain ⟨a, rfl, h1⟩ := py.kt e2
    have q' : Qd (.val (.bl (!decide (u ∈ ss)))) := h
    rw [← inV_strs] at q'
    exact .inr ⟨a, _, rfl, .inr ((Same.emp H).sqT h1), rfl, flat_strs ss, k _ _ B H (.refl s) (repV rfl) q'⟩
  · exact h.elim
end
end L2
/-! THE VALUE LAYER, for the one who reads: cuts, loops, comprehensions over data. -/
namespace L2
open PySem PySem.Spec PyProof.Rows
theorem v_cut {t u : TVS} {Dv : VEnds} {τ : VSt} (Pv : VSt → Prop) (rest : ∀ τ, Pv τ → u Dv τ) (now : ∀ nx : VSt → Prop, (∀ τ, Pv τ → nx τ) → t { nx := nx, rt := Dv.rt, bk := Dv.bk, ct := Dv.ct, xc := Dv.xc } τ) : vSeq t u Dv τ := now (u Dv) rest
section
variable {g : TVG} {tb : TVS} {Dv : VEnds} {τ : VSt}
theorem for_inv {ds : List D} (Pv : Nat → VSt → Prop) (h0 : Pv 0 τ) (hn : ∀ (i : Nat) (d : D) (τ : VSt), ds[i]? = some d → Pv i τ → ∀ nx : VSt → Prop, (∀ τ', Pv (i + 1) τ' → nx τ') → g d τ fun τ' => tb { nx := nx, rt := Dv.rt, bk := Dv.nx, ct := nx, xc := Dv.xc } τ')
    (he : ∀ τ, Pv ds.length τ → Dv.nx τ) : forW g tb Dv ds τ := by
  have key : ∀ (n i : Nat) (τ : VSt), ds.length - i = n → i ≤ ds.length → Pv i τ → forW g tb Dv (ds.drop i) τ := fun n => by
    induction n with
    | zero =>
      intro i τ h1 h2 h3
      have e : i = ds.length := by omega
      subst e
      rw [List.drop_length]
      exact he τ h3
    | succ n ih =>
      intro i τ h1 h2 h3
      have l : i < ds.length := by omega
      rw [List.drop_eq_getElem_cons l]
      exact hn i ds[i] τ (List.getElem?_eq_getElem l) h3 _ fun τ' h => ih (i + 1) τ' (by omega) (by omega) h
  have := key ds.length 0 τ (by omega) (Nat.zero_le _) h0
  rw [List.drop_zero] at this
  exact this
theorem for_map {α : Type} {f : α → D} {xs : List α} (Pv : Nat → VSt → Prop) (h0 : Pv 0 τ) (hn : ∀ (i : Nat) (x : α) (τ : VSt), xs[i]? = some x → Pv i τ → ∀ nx : VSt → Prop, (∀ τ', Pv (i + 1) τ' → nx τ') → g (f x) τ fun τ' => tb { nx := nx, rt := Dv.rt, bk := Dv.nx, ct := nx, xc := Dv.xc } τ')
    (he : ∀ τ, Pv xs.length τ → Dv.nx τ) : forW g tb Dv (xs.map f) τ := by
  refine for_inv Pv h0 (fun i d τ e => ?_) (by rw [List.length_map]; exact he)
  rw [List.getElem?_map] at e
  cases q : xs[i]? with
  | none => rw [q] at e; cases e
  | some x =>
    rw [q] at e
    cases e
    exact hn i x τ q
theorem for_rng {lo : Int} {n : Nat} (Pv : Nat → VSt → Prop) (h0 : Pv 0 τ) (hn : ∀ (i : Nat) (τ : VSt), i < n → Pv i τ → ∀ nx : VSt → Prop, (∀ τ', Pv (i + 1) τ' → nx τ') → g (.int (lo + i)) τ fun τ' => tb { nx := nx, rt := Dv.rt, bk := Dv.nx, ct := nx, xc := Dv.xc } τ')
    (he : ∀ τ, Pv n τ → Dv.nx τ) : forW g tb Dv (rngL lo n) τ := by
  unfold rngL
  refine for_map Pv h0 (fun i x τ e => ?_) (by rw [List.length_range]; exact he)
  by_cases l : i < n
  · rw [List.getElem?_range l] at e
    cases e
    exact hn i τ l
  · rw [List.getElem?_eq_none (by rw [List.length_range]; omega)] at e
    cases e
end
theorem filter_yes {α : Type} (xs : List α) : xs.filter (fun _ => true) = xs := List.filter_eq_self.mpr fun _ _ => rfl
section
variable {α : Type} {f : α → D} {τ : VSt} {k : Nat} {g : TVG} {ti : TVT} {te : TV} {Q : R → Prop}
/-- a comprehension whose items are known by what they keep -/
theorem comp_rel (P : α → D → Prop) (p : α → Bool) (xs : List α) (hz : xs.length ≤ sizeLine)
    (ok : ∀ x ∈ xs, ∀ (Y : R → Prop) (N : Prop), (p x = true → ∀ d, P x d → Y (.val d)) → (p x = false → N) → g (f x) (τ ++ List.replicate k none) fun τ2 => (τ2.take τ.length = τ ∧ τ2.length = τ.length + k) ∧ ti τ2 fun b => if b = true then te τ2 Y else N)
    (fin : ∀ es : List D, es.length = (xs.filter p).length → (∀ (j : Nat) (x : α) (e : D), (xs.filter p)[j]? = some x → es[j]? = some e → P x e) → Q (.own (.lst es))) : compW τ k g ti te Q (xs.map f) [] := by
  have key : ∀ (ys zs : List α) (acc : List D), xs = zs ++ ys → acc.length = (zs.filter p).length → (∀ (j : Nat) (x : α) (e : D), (zs.filter p)[j]? = some x → acc[j]? = some e → P x e) → compW τ k g ti te Q (ys.map f) acc := by
    intro ys
    induction ys with
    | nil =>
      intro zs acc e h1 h2
      rw [List.append_nil] at e
      subst e
      exact fin acc h1 h2
    | cons y ys ih =>
      intro zs acc e h1 h2
      have hl : acc.length < sizeLine := by
        have h3 := List.length_filter_le p zs
        have h4 : xs.length = zs.length + (ys.length + 1) := by rw [e, List.length_append, List.length_cons]
        omega
      refine ok y (by rw [e]; simp) _ _ (fun hp d hd => ⟨hl, ih (zs ++ [y]) (acc ++ [d]) (by rw [e]; simp) ?_ fun j x e' q1 q2 => ?_⟩) (fun hp => ih (zs ++ [y]) acc (by rw [e]; simp) ?_ fun j x e' q1 q2 => ?_)
      · rw [List.filter_append, List.length_append, List.length_append, h1]
        simp [hp]
      · rw [List.filter_append] at q1
        have ef : [y].filter p = [y] := by simp [hp]
        rw [ef] at q1
        by_cases l : j < (zs.filter p).length
        · rw [List.getElem?_append_left l] at q1
          rw [List.getElem?_append_left (by omega)] at q2
          exact h2 j x e' q1 q2
        · rw [List.getElem?_append_right (by omega)] at q1
          rw [List.getElem?_append_right (by omega)] at q2
          have ej : j - (zs.filter p).length = 0 := by
            have := (List.getElem?_eq_some_iff.mp q1).1
            simp at this
            omega
          rw [ej] at q1
          rw [h1, ej] at q2
          cases q1
          cases q2
          exact hd
      · rw [List.filter_append, List.length_append, h1]
        simp [hp]
      · rw [List.filter_append] at q1
        have ef : [y].filter p = [] := by simp [hp]
        rw [ef, List.append_nil] at q1
        exact h2 j x e' q1 q2
  exact key xs [] [] rfl rfl (fun j x e q => by simp at q)
theorem comp_filter (h : α → D) (p : α → Bool) (xs : List α) (hz : xs.length ≤ sizeLine)
    (ok : ∀ x ∈ xs, ∀ (Y : R → Prop) (N : Prop), (p x = true → Y (.val (h x))) → (p x = false → N) → g (f x) (τ ++ List.replicate k none) fun τ2 => (τ2.take τ.length = τ ∧ τ2.length = τ.length + k) ∧ ti τ2 fun b => if b = true then te τ2 Y else N)
    (fin : Q (.own (.lst ((xs.filter p).map h)))) : compW τ k g ti te Q (xs.map f) [] := by
  refine comp_rel (fun x d => d = h x) p xs hz (fun x hx Y N h1 h2 => ok x hx Y N (fun z => h1 z _ rfl) h2) fun es hl he => ?_
  have : es = (xs.filter p).map h := List.ext_getElem (by rw [hl, List.length_map]) fun j h1 h2 => by
    rw [List.length_map] at h2
    rw [List.getElem_map]
    exact he j _ _ (List.getElem?_eq_getElem h2) (List.getElem?_eq_getElem h1)
  rw [this]
  exact fin
theorem comp_map (h : α → D) (xs : List α) (hz : xs.length ≤ sizeLine)
    (ok : ∀ x ∈ xs, ∀ (Y : R → Prop) (N : Prop), Y (.val (h x)) → g (f x) (τ ++ List.replicate k none) fun τ2 => (τ2.take τ.length = τ ∧ τ2.length = τ.length + k) ∧ ti τ2 fun b => if b = true then te τ2 Y else N)
    (fin : Q (.own (.lst (xs.map h)))) : compW τ k g ti te Q (xs.map f) [] := by
  refine comp_filter h (fun _ => true) xs hz (fun x hx Y N h1 _ => ok x hx Y N (h1 rfl)) ?_
  rw [filter_yes]
  exact fin
/-- each item keeps P -/
theorem comp_all (P : D → Prop) (xs : List α) (hz : xs.length ≤ sizeLine)
    (ok : ∀ x ∈ xs, ∀ (Y : R → Prop) (N : Prop), (∀ d, P d → Y (.val d)) → g (f x) (τ ++ List.replicate k none) fun τ2 => (τ2.take τ.length = τ ∧ τ2.length = τ.length + k) ∧ ti τ2 fun b => if b = true then te τ2 Y else N)
    (fin : ∀ es : List D, es.length = xs.length → (∀ e ∈ es, P e) → Q (.own (.lst es))) : compW τ k g ti te Q (xs.map f) [] := by
  refine comp_rel (fun _ d => P d) (fun _ => true) xs hz (fun x hx Y N h1 _ => ok x hx Y N (h1 rfl)) fun es hl he => fin es ?_ fun e hm => ?_
  · rw [filter_yes] at hl
    exact hl
  · obtain ⟨j, hj⟩ := List.mem_iff_getElem?.mp hm
    have l := (List.getElem?_eq_some_iff.mp hj).1
    exact he j _ e (List.getElem?_eq_getElem (by rw [← hl]; exact l)) hj
end
/-! data of texts -/
def wayD (ws : List Str) : D := .tup (ws.map D.str)
def strsD (ws : List Str) : D := .lst (ws.map D.str)
theorem cmp_strs : ∀ (ss ts : List Str), cmpDs (ss.map D.str) (ts.map D.str) = true
  | [], _ => by unfold cmpDs; rfl
  | _ :: _, [] => by unfold cmpDs; rfl
  | s :: ss, t :: ts => by
    show cmpDs (.str s :: ss.map D.str) (.str t :: ts.map D.str) = true
    unfold cmpDs
    rw [cmp_strs ss ts]
    rfl
theorem dep_strs : ∀ (ss : List Str), depDs (ss.map D.str) = 0
  | [] => rfl
  | s :: ss => by
    show depDs (.str s :: ss.map D.str) = 0
    unfold depDs
    rw [dep_strs ss]
    rfl
theorem map_str_inj {ss ts : List Str} (h : ss.map D.str = ts.map D.str) : ss = ts := by
  induction ss generalizing ts with
  | nil => cases ts with
    | nil => rfl
    | cons t ts => cases h
  | cons s ss ih => cases ts with
    | nil => cases h
    | cons t ts =>
      injection h with h1 h2
      injection h1 with h1
      rw [h1, ih h2]
theorem eq_way (ss ts : List Str) : eqD (.tup (ss.map D.str)) (.tup (ts.map D.str)) = decide (ss = ts) := bool_iff (by
  rw [eqD_iff, decide_eq_true_iff]
  exact ⟨fun h => map_str_inj (D.tup.inj h), fun h => h ▸ rfl⟩)
theorem eq_int (i j : Int) : eqD (.int i) (.int j) = decide (i = j) := bool_iff (by
  rw [eqD_iff, decide_eq_true_iff]
  exact ⟨fun h => D.int.inj h, fun h => h ▸ rfl⟩)
theorem eq_str (i j : Str) : eqD (.str i) (.str j) = decide (i = j) := bool_iff (by
  rw [eqD_iff, decide_eq_true_iff]
  exact ⟨fun h => D.str.inj h, fun h => h ▸ rfl⟩)
theorem cmp_int (i j : Int) : cmpD (.int i) (.int j) = true := rfl
theorem cmp_str (i j : Str) : cmpD (.str i) (.str j) = true := rfl
theorem dep_int (i : Int) : depD (.int i) = 0 := rfl
theorem dep_str (i : Str) : depD (.str i) = 0 := rfl
theorem atI_map {α β : Type} (f : α → β) (xs : List α) (k : Int) : atI (xs.map f) k = (atI xs k).map f := by
  unfold atI
  rw [List.length_map]
  cases ixN xs.length k with
  | none => rfl
  | some j => simp
theorem cutL_map {α β : Type} (f : α → β) (xs : List α) (lo hi : Option Int) : cutL (xs.map f) lo hi = (cutL xs lo hi).map f := by
  unfold cutL
  rw [List.length_map, List.map_take, List.map_drop]
theorem spOf_law {K : PySem.W.Frag} {H : Hp} {a : Addr} {ns : List Int} {g : DP} (h : g [.scr ns] (fun r => r = .val (.bl true))) (hS : SqL K H a (ns.map V.int)) {E : XK} : spOf K g [.ref a] H (fun v _ => v = .bl true) E :=
  ⟨[.scr ns], H, _, Same.refl H, .one (by unfold Rep; exact ⟨a, rfl, hS⟩), h, (fun n C B' H' e _ _ => by cases e), fun r v B' H' e p rr => by
    subst e
    have rr' : Rep K B' (.bl true) v := rr
    unfold Rep at rr'
    exact rr'⟩
theorem map_str_iff (ss ts : List Str) : (ss.map D.str = ts.map D.str) = (ss = ts) := propext ⟨map_str_inj, fun h => h ▸ rfl⟩
theorem map_int_iff (ss ts : List Int) : (ss.map D.int = ts.map D.int) = (ss = ts) := propext ⟨fun h => by
  induction ss generalizing ts with
  | nil => cases ts with
    | nil => rfl
    | cons t ts => cases h
  | cons s ss ih => cases ts with
    | nil => cases h
    | cons t ts =>
      injection h with h1 h2
      injection h1 with h1
      rw [h1, ih _ h2], fun h => h ▸ rfl⟩
theorem map_snoc {α : Type} (f : α → D) (xs : List α) (x : α) : xs.map f ++ [f x] = (xs ++ [x]).map f := by rw [List.map_append]; rfl
theorem snoc_str (xs : List Str) (x : Str) : xs.map D.str ++ [.str x] = (xs ++ [x]).map D.str := map_snoc _ xs x
theorem snoc_int (xs : List Int) (x : Int) : xs.map D.int ++ [.int x] = (xs ++ [x]).map D.int := map_snoc _ xs x
theorem cat_str (xs ys : List Str) : xs.map D.str ++ ys.map D.str = (xs ++ ys).map D.str := (List.map_append ..).symm
theorem drop_str (xs : List Str) : (xs.map D.str).dropLast = xs.dropLast.map D.str := by
  rw [← cutL_last, ← cutL_last, cutL_map]
theorem pub_val (d : D) (Q : D → Prop) : pubR (.val d) Q = Q d := rfl
theorem pub_own (d : D) (Q : D → Prop) : pubR (.own d) Q = Q d := rfl
theorem strs_all : ∀ (es : List D), (∀ e ∈ es, ∃ z : Str, e = .str z) → ∃ ss : List Str, es = ss.map D.str
  | [], _ => ⟨[], rfl⟩
  | e :: es, h => by
    obtain ⟨z, hz⟩ := h e (List.mem_cons_self ..)
    obtain ⟨ss, hs⟩ := strs_all es fun x hx => h x (List.mem_cons_of_mem _ hx)
    exact ⟨z :: ss, by rw [hz, hs]; rfl⟩
theorem take_str (k : Nat) (xs : List Str) : (xs.map D.str).take k = (xs.take k).map D.str := (List.map_take ..).symm
theorem dropn_str (k : Nat) (xs : List Str) : (xs.map D.str).drop k = (xs.drop k).map D.str := (List.map_drop ..).symm
theorem atI_lit {α : Type} (xs : List α) (n : Nat) : atI xs (no_index (OfNat.ofNat n : Int)) = xs[n]? := by
  show atI xs (n : Int) = xs[n]?
  unfold atI ixN
  rw [if_pos (by omega)]
  by_cases h : (n : Int) < xs.length
  · rw [if_pos h]
    simp
  · rw [if_neg h]
    simp
    omega
theorem atI_neg1 {α : Type} (xs : List α) : atI xs (-1) = xs.getLast? := by
  unfold atI ixN
  rw [if_neg (by decide)]
  cases xs with
  | nil => rfl
  | cons x xs =>
    rw [if_pos (by rw [List.length_cons]; omega)]
    rw [List.getLast?_eq_getElem?]
    show (x :: xs)[(-1 + ((x :: xs).length : Int)).toNat]? = _
    congr 1
    omega
theorem ex_val (d : D) (Q : R → Prop) (k : Prop) : exR (.val d) Q k = k := rfl
theorem ex_own (d : D) (Q : R → Prop) (k : Prop) : exR (.own d) Q k = k := rfl
theorem ex_peek (d : D) (Q : R → Prop) (k : Prop) : exR (.peek d) Q k = k := rfl
theorem ex_exc (n : Str) (Q : R → Prop) (k : Prop) : exR (.exc n) Q k = Q (.exc n) := rfl
theorem exA_val (d : D) (Q : AR → Prop) (k : Prop) : excA (.val d) Q k = k := rfl
theorem exA_own (d : D) (Q : AR → Prop) (k : Prop) : excA (.own d) Q k = k := rfl
theorem exA_peek (d : D) (Q : AR → Prop) (k : Prop) : excA (.peek d) Q k = k := rfl
theorem exA_exc (n : Str) (Q : AR → Prop) (k : Prop) : excA (.exc n) Q k = Q (.exc n) := rfl
theorem exS_val (τ : VSt) (Dv : VEnds) (d : D) (k : Prop) : exS τ Dv (.val d) k = k := rfl
theorem exS_own (τ : VSt) (Dv : VEnds) (d : D) (k : Prop) : exS τ Dv (.own d) k = k := rfl
theorem exS_peek (τ : VSt) (Dv : VEnds) (d : D) (k : Prop) : exS τ Dv (.peek d) k = k := rfl
theorem exS_exc (τ : VSt) (Dv : VEnds) (n : Str) (k : Prop) : exS τ Dv (.exc n) k = Dv.xc τ n := rfl
theorem exA_ok (ds : List D) (Q : R → Prop) (k : List D → Prop) : exA (.ok ds) Q k = k ds := rfl
theorem exA_raise (n : Str) (Q : R → Prop) (k : List D → Prop) : exA (.exc n) Q k = Q (.exc n) := rfl
theorem exI_ok (τ : VSt) (Dv : VEnds) (ds : List D) (k : List D → Prop) : exI τ Dv (.ok ds) k = k ds := rfl
theorem exI_exc (τ : VSt) (Dv : VEnds) (n : Str) (k : List D → Prop) : exI τ Dv (.exc n) k = Dv.xc τ n := rfl
theorem more_ok (d : D) (ds : List D) : moreA d (.ok ds) = .ok (d :: ds) := rfl
theorem more_exc (d : D) (n : Str) : moreA d (.exc n) = .exc n := rfl
theorem rd_val (d : D) : (R.val d).d = d := rfl
theorem rd_own (d : D) : (R.own d).d = d := rfl
theorem rd_peek (d : D) : (R.peek d).d = d := rfl
theorem rd_exc (n : Str) : (R.exc n).d = .scr [] := rfl
theorem v_seq {t u : TVS} {Dv : VEnds} {τ : VSt} (h : t { nx := u Dv, rt := Dv.rt, bk := Dv.bk, ct := Dv.ct, xc := Dv.xc } τ) : vSeq t u Dv τ := h
end L2
/-! THE VALUE LAYER, exceptions. -/
namespace L2
open PySem PySem.Spec PyProof.Rows
section
variable {X : Cx} {EX : St → XK} {K : PySem.W.Frag} {B H B' H' H0 B0 : Hp} {e a : Expr} {es : List Expr} {te ta : TV} {tA : TVA} {pos p np cpos : Pos} {x : Str} {t : TVS} {τ : VSt} {σ : St}
theorem clsOf.inj {n : Str} {C C' : Addr} (h : clsOf K n C) (h' : clsOf K n C') : C = C' := by
  unfold clsOf at h h'
  rw [h] at h'
  cases h'
  rfl
/-- a call of a def that may raise -/
theorem ve_calX {k : Nat} {ps : List Str} {g : DP} (C : CalX X.prog X.w X.K X.mg X.base k x ps (spOf X.K g)) (o : Out X EX) (hr : Room k X.A) (hg : Gl X x) (ha : VA X EX (e :: es) tA) (hx : X.ex = [] := by rfl) (hp : (e :: es).all plainE = true := by rfl) (hdb : (x == ("__debug__" : Str)) = false := by decide) :
    VE X EX (.Call (.Name x p) (e :: es) [] pos) (vCall g tA) :=
  let ⟨_, a1, a2⟩ := ha.u; ⟨_, qe_calX C o hr hg a1 hx hp hdb, fun H0 B H τ σ Q Qd s S h xc k => a2 H0 B H τ σ _ _ s S h xc fun ds vs B1 H1 p q h1 =>
    ⟨ds, B1, Qd, p.s, by rw [List.append_nil]; exact q, h1, fun n C B' H' hq p2 c => xc n C B' H' (p.trans p2) c hq, fun r v B2 H2 hq p2 q2 => k r v B2 H2 (p.trans p2) (q2.back p.h) hq⟩⟩
/-- .. that is known not to, here -/
theorem ve_calN {k : Nat} {ps : List Str} {g : DP} (C : CalX X.prog X.w X.K X.mg X.base k x ps (spOf X.K g)) (hr : Room k X.A) (hg : Gl X x) (ha : VA X EX (e :: es) tA) (hp : (e :: es).all plainE = true := by rfl) (hdb : (x == ("__debug__" : Str)) = false := by decide) :
    VE X EX (.Call (.Name x p) (e :: es) [] pos) (vCallN g tA) :=
  let ⟨_, a1, a2⟩ := ha.u; ⟨_, qe_calN C hr hg a1 hp hdb, fun H0 B H τ σ Q Qd s S h xc k => a2 H0 B H τ σ _ _ s S h xc fun ds vs B1 H1 p q h1 =>
    ⟨ds, B1, _, p.s, by rw [List.append_nil]; exact q, h1, fun n C B' H' hq _ _ => hq.elim, fun r v B2 H2 hq p2 q2 => k r v B2 H2 (p.trans p2) (q2.back p.h) (q2.ok hq)⟩⟩
/-- what is known of an own exception class -/
def XCls (K : PySem.W.Frag) (mg : Str → Option Value) (n : Str) : Prop := ∃ C, mg n = some (.ref C) ∧ clsOf K n C ∧ OwnX K C
def vRaise (n : Str) (tA : TVA) : TVS := fun Dv τ => tA τ fun a => exI τ Dv a fun ds => ds.length ≤ sizeLine ∧ Dv.xc τ n
theorem vs_raise (u : XCls X.K X.mg x) (hg : Gl X x) (hc : X.calm = true) (o : Out X EX) (ha : VA X EX (e :: es) tA) (hx : X.ex = [] := by rfl) (hp : (e :: es).all plainE = true := by rfl) (hdb : (x == ("__debug__" : Str)) = false := by decide) :
    VS X EX (.Raise (some (.Call (.Name x np) (e :: es) [] cpos)) none pos) (vRaise x tA) := by
  obtain ⟨C, hm, hk, q⟩ := u
  obtain ⟨_, a1, a2⟩ := ha.u
  exact ⟨_, qs_raise q hm hg hc o a1 hx hp hdb, fun B0 H0 B H τ σ Dv Dh p S h E => a2 H0 B H τ σ _ _ p.s S h (E.raised p S) fun ds vs B1 H1 p1 q1 h1 =>
    ⟨by rw [← q1.length]; exact h1.1, E.xc B1 H1 τ σ x C (p.trans p1) (S.step p1) hk h1.2⟩⟩
/-! ### try -/
def canS (K : PySem.W.Frag) (EX : St → XK) (t : TVS) : TS := fun Dh σ H => ∃ B0 H0 B τ Dv, Stp B0 H0 B H ∧ Slots K H0 B H τ σ ∧ t Dv τ ∧ EndsOk K EX B0 H0 Dv Dh
theorem VSs.can {st : List Stmt} (h : VSs X EX st t) : QSs X st (canS X.K EX t) := let ⟨_, a1, a2⟩ := h.u; ⟨fun pins s σ H D I ⟨B0, H0, B, τ, Dv, q1, q2, q3, q4⟩ => a1.u pins s σ H D I (a2 B0 H0 B H τ σ Dv D q1 q2 q3 q4)⟩
abbrev THD := Str → TVS
def RfH (K : PySem.W.Frag) (EX : St → XK) (th : TH) (td : THD) : Prop := ∀ (B0 H0 B H : Hp) (τ : VSt) (σ : St) (n : Str) (C : Addr) (Dv : VEnds) (Dh : Ends), Stp B0 H0 B H → Slots K H0 B H τ σ → clsOf K n C → td n Dv τ → EndsOk K EX B0 H0 Dv Dh → th (.ref C) Dh σ H
structure VH (X : Cx) (EX : St → XK) (hs : List ExceptHandler) (td : THD) : Prop where
  u : ∃ th, QH X hs th ∧ RfH X.K EX th td
def vTry (t : TVS) (td : THD) : TVS := fun Dv τ => t { nx := Dv.nx, rt := Dv.rt, bk := Dv.bk, ct := Dv.ct, xc := fun τ' n => td n Dv τ' } τ
theorem vs_try {body : List Stmt} {h0 : ExceptHandler} {rest : List ExceptHandler} {td : THD} (hb : ∀ pn E EX', PassesOwn (model X.prog X.w) X.A X.env E → Out (X.tryB pn E) EX' → VSs (X.tryB pn E) EX' body t) (hh : VH X EX (h0 :: rest) td) (hst : X.stack = X.env :: X.outer := by rfl)
    (hfr : X.env.frame = some X.env.locals := by rfl) (hx : X.ex = [] := by rfl) : VS X EX (.Try body (h0 :: rest) [] [] pos) (vTry t td) :=
  let ⟨_, a1, a2⟩ := hh.u; ⟨_, qs_try (tb := fun EX' => canS X.K EX' t) (fun pn E EX' po o => (hb pn E EX' po o).can) a1 hst hfr hx, fun B0 H0 B H τ σ Dv Dh p S h E =>
    ⟨B0, H0, B, τ, _, p, S, h, E.nx, E.rt, E.bk, E.ct, fun B1 H1 τ1 σ1 n C q1 q2 q3 q4 => a2 B0 H0 B1 H1 τ1 σ1 n C Dv Dh q1 q2 q3 q4 E⟩⟩
def vhNil : THD := fun _ _ _ => False
theorem vh_nil : VH X EX [] vhNil := ⟨_, qh_nil, fun _ _ _ _ _ _ _ _ _ _ _ _ _ h => h.elim⟩
/-- of these classes it is known whether the clause's class takes them -/
def Takes (K : PySem.W.Frag) (mg : Str → Option Value) (x : Str) (yes no : List Str) : Prop := ∃ c, mg x = some c ∧ (∀ n ∈ yes, ∀ C, clsOf K n C → PySem.W.exmOne K (.ref C) c = some true) ∧ ∀ n ∈ no, ∀ C, clsOf K n C → PySem.W.exmOne K (.ref C) c = some false
/-- within a clause's suite nothing is raised -/
def VEnds.calm (Dv : VEnds) : VEnds := { nx := Dv.nx, rt := Dv.rt, bk := Dv.bk, ct := Dv.ct }
theorem EndsOk.calm {Dv : VEnds} {Dh : Ends} (E : EndsOk K EX B0 H0 Dv Dh) : EndsOk K EX0 B0 H0 Dv.calm Dh := ⟨E.nx, E.rt, E.bk, E.ct, fun _ _ _ _ _ _ _ _ _ h => h.elim⟩
def vhCons (yes no : List Str) (t : TVS) (td : THD) : THD := fun n Dv τ => (n ∈ yes ∧ t Dv.calm τ) ∨ (n ∈ no ∧ td n Dv τ)
theorem vh_cons {b0 : Stmt} {suite : List Stmt} {rest : List ExceptHandler} {td : THD} {yes no : List Str} (u : Takes X.K X.mg x yes no) (hg : Gl X x) (hs : ∀ e pn E, VSs (X.hand e pn E) EX0 (b0 :: suite) t) (hr : VH X EX rest td) (hdb : (x == ("__debug__" : Str)) = false := by decide) :
    VH X EX (.ExceptHandler (some (.Name x np)) none (b0 :: suite) pos :: rest) (vhCons yes no t td) := by
  obtain ⟨c, hm, hy, hn⟩ := u
  obtain ⟨_, a1, a2⟩ := hr.u
  refine ⟨_, qh_cons (t := canS X.K EX0 t) hm hg (fun e pn E => (hs e pn E).can) a1 hdb, fun B0 H0 B H τ σ n C Dv Dh p S hc h E => ?_⟩
  rcases h with ⟨h1, h2⟩ | ⟨h1, h2⟩
  · exact ⟨true, hy n h1 C hc, iteT ⟨B0, H0, B, τ, _, p, S, h2, E.calm⟩⟩
  · exact ⟨false, hn n h1 C hc, iteF (a2 B0 H0 B H τ σ n C Dv Dh p S hc h2 E)⟩
/-- behind a suite with a name nothing is known of the names -/
def VEnds.wiped (Dv : VEnds) : VEnds := { nx := fun τ => Dv.nx (List.replicate τ.length none), rt := Dv.rt, bk := fun τ => Dv.bk (List.replicate τ.length none), ct := fun τ => Dv.ct (List.replicate τ.length none) }
theorem Slots.wiped (S : Slots K H0 B H τ σ) : Slots K H0 B H (List.replicate τ.length none) (wipe σ) := by
  have no : ∀ (i : Nat) (r : R), (List.replicate τ.length (none : Option R))[i]? = some (some r) → False := fun i r h => by
    by_cases l : i < τ.length
    · rw [List.getElem?_replicate_of_lt l] at h; cases h
    · rw [List.getElem?_eq_none (by rw [List.length_replicate]; omega)] at h; cases h
  exact ⟨by unfold wipe; rw [List.length_replicate, List.length_replicate, S.len], fun i d h => (no i _ h).elim, fun i d h => (no i _ h).elim, fun i j d e a h => (no i _ h).elim⟩
theorem EndsOk.wiped {Dv : VEnds} {Dh : Ends} (E : EndsOk K EX B0 H0 Dv Dh) : EndsOk K EX0 B0 H0 Dv.wiped Dh.wiped :=
  ⟨fun B H τ σ p S h => E.nx B H _ _ p S.wiped h, E.rt, fun B H τ σ p S h => E.bk B H _ _ p S.wiped h, fun B H τ σ p S h => E.ct B H _ _ p S.wiped h, fun _ _ _ _ _ _ _ _ _ h => h.elim⟩
def vhAs (i : Nat) (yes no : List Str) (t : TVS) (td : THD) : THD := fun n Dv τ => (n ∈ yes ∧ t Dv.wiped (τ.set i (some (.val (.exc n))))) ∨ (n ∈ no ∧ td n Dv τ)
theorem vh_as {b0 : Stmt} {suite : List Stmt} {rest : List ExceptHandler} {td : THD} {yes no : List Str} {i : Nat} {m : Str} (hN : X.N.Nodup) (hi : X.N[i]? = some m) (hl : X.env.scope.names.lookup m = some .local) (u : Takes X.K X.mg x yes no) (hg : Gl X x) (hs : ∀ e pn E, VSs (X.hand e pn E) EX0 (b0 :: suite) t)
    (hr : VH X EX rest td) (hdb : (x == ("__debug__" : Str)) = false := by decide) : VH X EX (.ExceptHandler (some (.Name x np)) (some m) (b0 :: suite) pos :: rest) (vhAs i yes no t td) := by
  obtain ⟨c, hm, hy, hn⟩ := u
  obtain ⟨_, a1, a2⟩ := hr.u
  refine ⟨_, qh_as (i := i) (t := canS X.K EX0 t) hN hi hl hm hg (fun e pn E => (hs e pn E).can) a1 hdb, fun B0 H0 B H τ σ n C Dv Dh p S hc h E => ?_⟩
  rcases h with ⟨h1, h2⟩ | ⟨h1, h2⟩
  · refine ⟨true, hy n h1 C hc, iteT fun ad Ca ea had => ?_⟩
    cases ea
    have q : Stp B H (upd B ad (excO ad C)) (upd H ad (excO ad C)) := .new p.s had
    refine ⟨B0, H0, _, _, _, p.trans q, (S.step q).setVal i (d := .exc n) ?_, h2, E.wiped⟩
    unfold Rep
    exact ⟨ad, C, rfl, upd_same, hc⟩
  · exact ⟨false, hn n h1 C hc, iteF (a2 B0 H0 B H τ σ n C Dv Dh p S hc h2 E)⟩
/-! ### isinstance of a caught exception -/
def vIsX (yes no : List Str) (ta : TV) : TV := fun τ Q => ta τ fun r => match r.d with
  | .exc n => (n ∈ yes ∧ Q (.val (.bl true))) ∨ (n ∈ no ∧ Q (.val (.bl false)))
  | _ => False
theorem Pk.exc {r : R} {v : V} {n : Str} (s : Same B H) (h : Pk K B H r v) (e : r.d = .exc n) : ∃ a C, v = .ref a ∧ H a = some (excO a C) ∧ clsOf K n C := by
  have h' := h.rep s
  rw [e] at h'
  unfold Rep at h'
  exact h'
/-- one class, a built-in one -/
theorem ve_isX {y : Str} {pb : Pos} {T : String} {yes no : List Str} (u : ∀ n C, clsOf X.K n C → n ∈ yes ∨ n ∈ no → ExcK X.K C) (hy : ∀ n ∈ yes, ∀ C, clsOf X.K n C → PySem.W.kitOne X.K (.ref C) (.type T) = some true) (hn : ∀ n ∈ no, ∀ C, clsOf X.K n C → PySem.W.kitOne X.K (.ref C) (.type T) = some false)
    (hg : Gl X "isinstance") (hm : X.mg "isinstance" = none) (hgy : Gl X y) (hmy : X.mg y = none) (hby : bootBuiltins y = some (.type T)) (ha : VE X EX a ta) (hp : plainE a = true := by rfl) (hny : y ≠ "__name__" := by decide) (hdy : (y == ("__debug__" : Str)) = false := by decide) :
    VE X EX (.Call (.Name "isinstance" p) [a, .Name y pb] [] pos) (vIsX yes no ta) :=
  let ⟨_, a1, a2⟩ := ha.u; ⟨_, qcb call_isinstX hg hm PyProof.Rows.Boot.«isinstance» (qac a1 (qac (qe_bltn (v := .ty T) hgy hmy hby rfl hny hdy) qa_nil rfl) hp) (by rw [List.all_cons, hp]; rfl), fun H0 B H τ σ Q Qd s S h xc k => a2 H0 B H τ σ _ _ s S h (xno fun _ q => q) fun r v B1 H1 p1 q1 h1 => by
      split at h1
      · rename_i n en
        obtain ⟨ad, C, rfl, hx, hc⟩ := q1.pk.exc p1.s en
        rcases h1 with ⟨h1, h2⟩ | ⟨h1, h2⟩
        · exact ⟨ad, C, _, .type T, true, rfl, hx, u n C hc (.inl h1), fun w rw' => rw', hy n h1 C hc, k _ _ B1 H1 p1 (repV rfl) h2⟩
        · exact ⟨ad, C, _, .type T, false, rfl, hx, u n C hc (.inr h1), fun w rw' => rw', hn n h1 C hc, k _ _ B1 H1 p1 (repV rfl) h2⟩
      · exact h1.elim⟩
/-- several own classes in a written tuple -/
theorem ve_isXs {es : List Expr} {pt : Pos} {kt : Nat} {tA : TA} {cs : List Addr} {yes no : List Str} (u : ∀ n C, clsOf X.K n C → n ∈ yes ∨ n ∈ no → ExcK X.K C) (hy : ∀ n ∈ yes, ∀ C, clsOf X.K n C → PySem.W.kitAny X.K (.ref C) (cs.map Value.ref) = some true)
    (hn : ∀ n ∈ no, ∀ C, clsOf X.K n C → PySem.W.kitAny X.K (.ref C) (cs.map Value.ref) = some false) (hl : cs.length ≤ 100) (hq : QA X es tA) (ht : ∀ σ H Q, Q (cs.map V.ref) H → tA σ H Q) (hg : Gl X "isinstance") (hm : X.mg "isinstance" = none) (ha : VE X EX a ta) (hp : plainE a = true := by rfl) :
    VE X EX (.Call (.Name "isinstance" p) [a, .Tuple es kt pt] [] pos) (vIsX yes no ta) :=
  let ⟨_, a1, a2⟩ := ha.u; ⟨_, qcb call_isinstXs hg hm PyProof.Rows.Boot.«isinstance» (qac a1 (qac (qe_tup hq) qa_nil rfl) hp) (by rw [List.all_cons, hp]; rfl), fun H0 B H τ σ Q Qd s S h xc k => a2 H0 B H τ σ _ _ s S h (xno fun _ q => q) fun r v B1 H1 p1 q1 h1 => by
      refine ht σ H1 _ ⟨by rw [List.length_map]; exact Nat.le_trans hl (by decide), fun tp htp => ?_⟩
      have rel : ∀ us, Vals (cs.map V.ref) us → us = cs.map Value.ref := fun us => by
        clear ht hy hn hl
        induction cs generalizing us with
        | nil => intro r; cases r; rfl
        | cons c cs ih =>
          intro r
          cases r with
          | cons r1 r2 =>
            cases r1
            rw [ih _ r2]
            rfl
      split at h1
      · rename_i n en
        have g : Stp B1 H1 B1 (upd H1 tp (.tup (cs.map V.ref))) := .grow p1.s (same_upd htp _)
        obtain ⟨ad, C, rfl, hx, hc⟩ := (q1.pk.step g).exc g.s en
        rcases h1 with ⟨h1, h2⟩ | ⟨h1, h2⟩
        · exact ⟨ad, C, tp, _, _, true, rfl, hx, upd_same, u n C hc (.inl h1), rel, hy n h1 C hc, k _ _ B1 _ (p1.trans g) (repV rfl) h2⟩
        · exact ⟨ad, C, tp, _, _, false, rfl, hx, upd_same, u n C hc (.inr h1), rel, hn n h1 C hc, k _ _ B1 _ (p1.trans g) (repV rfl) h2⟩
      · exact h1.elim⟩
/-! ### a def that may raise -/
theorem Fun.okVX {P : Program} {w : World} {mg : Str → Option Value} {base : Heap} {x qual : Str} {st : Stmt} {f : Addr} {fd : FuncData} {N ps : List Str} {k : Nat} {g : DP} (F : Fun K x qual st f fd) (S : FnScope N ps (defScope st)) (len : ∀ ds Q, g ds Q → ds.length = ps.length)
    (hbody : ∀ (cdv : Value) (A : Around) (outer : List Env) (s : Shared) (H : Hp) (E : XK), Room k (A.deeper (envOfC qual (defScope st) s.heap.objs.size f cdv)) → Out (cxOf (CXR P w) P w K mg base N qual (defScope st) f cdv A outer s H E) (fun _ => E) →
      ∃ t, VSs (cxOf (CXR P w) P w K mg base N qual (defScope st) f cdv A outer s H E) (fun _ => E) (defBody st) t ∧ ∀ ds Q, g ds Q → t { nx := fun _ => Q (.val .non), rt := Q, xc := fun _ n => Q (.exc n) } (startD N ds)) : FnOk P w K mg base (CXR P w) (k + 1) f fd ps (spOf K g) := by
  refine F.okX S (fun vs H Q E h => ?_) (fun cdv A outer s H vs Q E hr h o => ?_)
  · obtain ⟨ds, B, Qd, _, rp, hg, _, _⟩ := h
    rw [← rp.length]
    exact len ds Qd hg
  · obtain ⟨ds, B, Qd, sm, rp, hg, kx, kk⟩ := h
    obtain ⟨t, ⟨ts, q1, q2⟩, ht⟩ := hbody cdv A outer s H E hr o
    refine ⟨ts, q1, q2 B H B H (startD N ds) (start N vs) _ _ (.refl sm) ?_ (ht ds Qd hg) ⟨fun B' H' τ σ p S h => kk (.val .non) .non B' H' h p (repV rfl), fun r v B' H' p hr h => kk r v B' H' h p hr, fun _ _ _ _ _ _ h => h.elim, fun _ _ _ _ _ _ h => h.elim, fun B' H' τ σ n C p S c h => kx n C B' H' h p c⟩⟩
    unfold startD start
    rw [rp.length]
    exact (reps_slots rp).more _
theorem cl_nil {P : Addr → Prop} : ∀ n ∈ ([] : List Str), ∀ C, clsOf K n C → P C := fun _ h => by cases h
theorem cl_cons {P : Addr → Prop} {m : Str} {E : Addr} {l : List Str} (k : clsOf K m E) (q : P E) (r : ∀ n ∈ l, ∀ C, clsOf K n C → P C) : ∀ n ∈ m :: l, ∀ C, clsOf K n C → P C := fun n h C c => by
  rcases List.mem_cons.mp h with rfl | h
  · cases clsOf.inj c k
    exact q
  · exact r n h C c
theorem cl_or {P : Addr → Prop} {l m : List Str} (h1 : ∀ n ∈ l, ∀ C, clsOf K n C → P C) (h2 : ∀ n ∈ m, ∀ C, clsOf K n C → P C) : ∀ n C, clsOf K n C → n ∈ l ∨ n ∈ m → P C := fun n C c h => h.elim (fun z => h1 n z C c) fun z => h2 n z C c
end
end L2
/-! TEXTS: split at one sign, startswith. -/
namespace L2
open PySem PySem.Spec PyProof.Rows Builtin.Str
section
variable {X : Cx}
theorem vals_strs : ∀ (l : List (Str × Tok)), Vals ((l.map (·.1)).map V.str) (strValues l)
  | [] => .nil
  | p :: l => .cons ⟨p.2, rfl⟩ (vals_strs l)
theorem mt_startswith : MtM X "str.startswith" (fun x vs H Q => ∃ a b, x = .str a ∧ vs = [.str b] ∧ Q (.bl (Txt.startswith a b)) H) := by
  intro pins s σ H x vs v us Q I rx rv h
  obtain ⟨a, b, rfl, rfl, q⟩ := h
  obtain ⟨t, rfl⟩ := rx
  obtain ⟨u, rfl, ⟨t', rfl⟩⟩ := rv.one
  exact SC.startswith ⟨.bl _, H, I, rfl, q⟩
theorem mt_split : MtM X "str.split" (fun x vs H Q => ∃ a b, x = .str a ∧ vs = [.str b] ∧ (b.length == 0) = false ∧ a.length ≤ sizeLine ∧ (Txt.split a b).length ≤ sizeLine ∧ ∀ l, H l = none → Q (.ref l) (upd H l (.lst ((Txt.split a b).map V.str)))) := by
  intro pins s σ H x vs v us Q I rx rv h
  obtain ⟨a, b, rfl, rfl, hb, ha, hz, q⟩ := h
  obtain ⟨t, rfl⟩ := rx
  obtain ⟨u, rfl, ⟨t', rfl⟩⟩ := rv.one
  cases h1 : (decide (a.length < b.length) || decide (strKind a < strKind b))
  · cases hf : (occurrences a b 0 a.length (a.length + 1)).isEmpty
    · have e : Txt.split a b = partsBetween a (occurrences a b 0 a.length (a.length + 1)) b.length := by
        unfold Txt.split
        rw [h1, hf, if_neg Bool.false_ne_true, if_neg Bool.false_ne_true]
      refine call_meets F.slot_str_split (typeIs_str _ _ _) F.entry_str_split (F.args_str_split_2 _ _) (meets_str_split_sep a b t t' h1 hb hf ha (by rw [← e]; exact hz)) ?_
      rw [strsFrom_eq, ← e]
      have r := vals_strs (numbered s.toks (Txt.split a b))
      rw [numbered_texts] at r
      exact ⟨.ref _, _, I.lnew (t' := _) r (by rw [List.length_map]; exact hz), rfl, q _ I.fresh⟩
    · have e : Txt.split a b = [a] := by
        unfold Txt.split
        rw [h1, hf, if_neg Bool.false_ne_true, if_pos rfl]
      rw [e] at q
      exact call_meets F.slot_str_split (typeIs_str _ _ _) F.entry_str_split (F.args_str_split_2 _ _) (meets_str_split_not_found a b t t' h1 hb hf) ⟨.ref _, _, I.lnew (t' := s.toks) (ys := [.str a]) (its := [.str a t]) (.cons ⟨t, rfl⟩ .nil) (show 1 ≤ sizeLine by decide), rfl, q _ I.fresh⟩
  · have e : Txt.split a b = [a] := by
      unfold Txt.split
      rw [h1, if_pos rfl]
    rw [e] at q
    exact call_meets F.slot_str_split (typeIs_str _ _ _) F.entry_str_split (F.args_str_split_2 _ _) (meets_str_split_cannot_occur a b t t' h1) ⟨.ref _, _, I.lnew (t' := s.toks) (ys := [.str a]) (its := [.str a t]) (.cons ⟨t, rfl⟩ .nil) (show 1 ≤ sizeLine by decide), rfl, q _ I.fresh⟩
end
section
variable {X : Cx} {EX : St → XK} {o e : Expr} {to te : TV} {apos cpos : Pos}
def vStarts (to te : TV) : TV := fun τ Q => to τ fun rs => match rs.d with
  | .str a => te τ fun rt => ∃ b, rt.d = .str b ∧ Q (.val (.bl (Txt.startswith a b)))
  | _ => False
theorem ve_starts (ho : VE X EX o to) (h : VE X EX e te) (hp : plainE e = true := by rfl) (hbase : attributeBase o "startswith" X.env (eval o X.env) = eval o X.env := by rfl) (hline : (apos.endLine == cpos.line) = true := by rfl) :
    VE X EX (.Call (.Attribute o "startswith" apos) [e] [] cpos) (vStarts to te) :=
  let ⟨_, o1, o2⟩ := ho.u; let ⟨_, a1, a2⟩ := h.u; ⟨_, qbm PySem.F.plainAttrs_str PySem.F.slot_str_startswith PySem.F.type_str_startswith mt_startswith o1 (qac a1 qa_nil hp) (by simp [hp]) rfl hbase hline, fun H0 B H τ σ Q Qd s S h xc k =>
    o2 H0 B H τ σ _ _ s S h (xno fun _ q => q) fun rs vs B1 H1 p1 q1 h1 => by
      split at h1
      · rename_i a es
        cases q1.pk.scal (z := .str a) (by rw [es]; rfl)
        refine ⟨rfl, a2 H0 B1 H1 τ σ _ _ p1.s (S.step p1) h1 (xno fun _ ⟨_, q, _⟩ => by cases q) fun rl vl B2 H2 p2 q2 h2 => ?_⟩
        obtain ⟨b, el, hq⟩ := h2
        cases q2.pk.scal (z := .str b) (by rw [el]; rfl)
        exact ⟨a, b, rfl, rfl, k _ _ B2 H2 (p1.trans p2) (repV rfl) hq⟩
      · exact h1.elim⟩
def vSplit (to te : TV) : TV := fun τ Q => to τ fun rs => match rs.d with
  | .str a => te τ fun rt => ∃ b, rt.d = .str b ∧ (b.length == 0) = false ∧ a.length ≤ sizeLine ∧ (Txt.split a b).length ≤ sizeLine ∧ Q (.own (.lst ((Txt.split a b).map D.str)))
  | _ => False
theorem reps_strs {K : PySem.W.Frag} {B : Hp} : ∀ ss : List Str, Reps K B (ss.map D.str) (ss.map V.str)
  | [] => .nil
  | s :: ss => .cons (rep_dV (d := .str s) rfl) (reps_strs ss)
theorem ve_split (ho : VE X EX o to) (h : VE X EX e te) (hp : plainE e = true := by rfl) (hbase : attributeBase o "split" X.env (eval o X.env) = eval o X.env := by rfl) (hline : (apos.endLine == cpos.line) = true := by rfl) :
    VE X EX (.Call (.Attribute o "split" apos) [e] [] cpos) (vSplit to te) :=
  let ⟨_, o1, o2⟩ := ho.u; let ⟨_, a1, a2⟩ := h.u; ⟨_, qbm PySem.F.plainAttrs_str PySem.F.slot_str_split PySem.F.type_str_split mt_split o1 (qac a1 qa_nil hp) (by simp [hp]) rfl hbase hline, fun H0 B H τ σ Q Qd s S h xc k =>
    o2 H0 B H τ σ _ _ s S h (xno fun _ q => q) fun rs vs B1 H1 p1 q1 h1 => by
      split at h1
      · rename_i a es
        cases q1.pk.scal (z := .str a) (by rw [es]; rfl)
        refine ⟨rfl, a2 H0 B1 H1 τ σ _ _ p1.s (S.step p1) h1 (xno fun _ ⟨_, q, _⟩ => by cases q) fun rl vl B2 H2 p2 q2 h2 => ?_⟩
        obtain ⟨b, el, hb, ha, hz, hq⟩ := h2
        cases q2.pk.scal (z := .str b) (by rw [el]; rfl)
        have pp := p1.trans p2
        exact ⟨a, b, rfl, rfl, hb, ha, hz, fun l hl => k (.own _) _ B2 _ (pp.trans (.grow p2.s (same_upd hl _))) ⟨l, rfl, pp.h.free hl, p2.s.free hl, own_newL (reps_strs _)⟩ hq⟩
      · exact h1.elim⟩
end
/-! ### what split does with one sign -/
def sp (c : Nat) : List Nat → List (List Nat)
  | [] => [[]]
  | x :: xs => if x = c then [] :: sp c xs else match sp c xs with
    | [] => [[x]]
    | p :: ps => (x :: p) :: ps
theorem sp_ne (c : Nat) : ∀ xs, sp c xs ≠ []
  | [] => by unfold sp; exact fun h => by cases h
  | x :: xs => by
    unfold sp
    split
    · exact fun h => by cases h
    · split <;> exact fun h => by cases h
theorem sp_free (c : Nat) : ∀ xs : List Nat, c ∉ xs → sp c xs = [xs]
  | [], _ => rfl
  | x :: xs, h => by
    unfold sp
    rw [if_neg (fun e => h (by simp [e])), sp_free c xs fun z => h (List.mem_cons_of_mem _ z)]
theorem sp_cut (c : Nat) : ∀ (pre post : List Nat), c ∉ pre → sp c (pre ++ c :: post) = pre :: sp c post
  | [], post, _ => by
    show sp c (c :: post) = _
    rw [sp, if_pos rfl]
  | x :: pre, post, h => by
    show sp c (x :: (pre ++ c :: post)) = _
    rw [sp, if_neg (fun e => h (by simp [e])), sp_cut c pre post fun z => h (List.mem_cons_of_mem _ z)]
theorem occ_one (s : Str) (c n lim : Nat) (hn : s.length = n) : ∀ (l : List Nat) (a : Nat) (st : Array Nat × Nat), l = List.range' a (n + 1 - a) → a ≤ n + 1 → st.2 ≤ a → st.1.size + (n + 1 - a) ≤ lim →
    (forIn l st (StrLaws.occBody s ⟨#[c]⟩ n lim)).run.fst.toList = st.1.toList ++ ((List.range' a (n - a)).filter fun i => s.cps[i]? == some c)
  | [], a, st, hl, ha, h2, h3 => by
    have e : n + 1 - a = 0 := by simpa using congrArg List.length hl.symm
    have e2 : n - a = 0 := by omega
    rw [e2]
    simp
  | x :: l, a, st, hl, ha, h2, h3 => by
    have ea : n + 1 - a = (n - a) + 1 := by
      have := congrArg List.length hl
      simp at this
      omega
    rw [ea, List.range'_succ] at hl
    injection hl with e1 e2
    subst e1
    rw [List.forIn_cons]
    have el : l = List.range' (x + 1) (n + 1 - (x + 1)) := by rw [e2]; congr 1; omega
    have one : (⟨#[c]⟩ : Str).length = 1 := rfl
    by_cases hx : x < n
    · have er : List.range' x (n - x) = x :: List.range' (x + 1) (n - (x + 1)) := by
        have : n - x = (n - (x + 1)) + 1 := by omega
        rw [this, List.range'_succ]
      have hs : x < s.cps.size := by show x < s.length; omega
      have sub : subAt s ⟨#[c]⟩ x = (s.cps[x]? == some c) := by
        unfold subAt
        rw [one]
        have : s.cps.extract x (x + 1) = #[s.cps[x]] := by
          apply Array.ext
          · simp; omega
          · intro i h1 h2
            have : i = 0 := by simp at h2; omega
            subst this
            simp
        rw [this, Array.getElem?_eq_getElem hs]
        apply bool_iff
        simp
      rw [er, List.filter_cons]
      unfold StrLaws.occBody
      rw [sub, one]
      by_cases hc : (s.cps[x]? == some c) = true
      · rw [if_pos ⟨⟨⟨by omega, h2⟩, by omega⟩, hc⟩, if_pos hc]
        show (forIn l (st.1.push x, x + 1) (StrLaws.occBody s ⟨#[c]⟩ n lim)).run.fst.toList = _
        rw [occ_one s c n lim hn l (x + 1) (st.1.push x, x + 1) el (by omega) (Nat.le_refl _) (by simp; omega)]
        simp
      · rw [if_neg (fun z => hc z.2), if_neg hc]
        show (forIn l (st.1, st.2) (StrLaws.occBody s ⟨#[c]⟩ n lim)).run.fst.toList = _
        rw [occ_one s c n lim hn l (x + 1) (st.1, st.2) el (by omega) (by show st.2 ≤ x + 1; omega) (by show st.1.size + _ ≤ lim; omega)]
    · have ex : x = n := by omega
      have er : List.range' x (n - x) = [] := by rw [show n - x = 0 by omega]; rfl
      rw [er]
      unfold StrLaws.occBody
      rw [one, if_neg (fun z => by have := z.1.2; omega)]
      show (forIn l (st.1, st.2) (StrLaws.occBody s ⟨#[c]⟩ n lim)).run.fst.toList = _
      rw [occ_one s c n lim hn l (x + 1) (st.1, st.2) el (by omega) (by show st.2 ≤ x + 1; omega) (by show st.1.size + _ ≤ lim; omega)]
      rw [show n - (x + 1) = 0 by omega]
      rfl
theorem occ_all (s : Str) (c : Nat) : occurrences s ⟨#[c]⟩ 0 s.length (s.length + 1) = (List.range' 0 s.length).filter fun i => s.cps[i]? == some c := by
  rw [StrLaws.occ_eq, occ_one s c s.length (s.length + 1) rfl _ 0 (#[], 0) rfl (Nat.zero_le _) (Nat.le_refl _) (by simp)]
  simp
theorem sub_list (s : Str) (a k : Nat) : (strSub s a k).cps.toList = (s.cps.toList.drop a).take (k - a) := by
  unfold strSub
  simp [Array.toList_extract, List.extract]
theorem parts_sp (s : Str) (c : Nat) : ∀ (m a : Nat), s.length - a = m → a ≤ s.length → ∀ (b : Nat), b ≤ a → c ∉ (s.cps.toList.drop b).take (a - b) →
    (StrLaws.partsFrom s 1 b ((List.range' a m).filter fun i => s.cps[i]? == some c)).map (·.cps.toList) = sp c (s.cps.toList.drop b)
  | 0, a, hm, ha, b, hb, hf => by
    have e : a = s.length := by omega
    have el : s.cps.toList.length = s.length := rfl
    show [(strSub s b s.length).cps.toList] = _
    rw [sub_list, sp_free]
    · rw [List.take_of_length_le (by rw [List.length_drop, el]; exact Nat.le_refl _)]
    · rw [e, List.take_of_length_le (by rw [List.length_drop, el]; exact Nat.le_refl _)] at hf
      exact hf
  | m + 1, a, hm, ha, b, hb, hf => by
    have hs : a < s.cps.toList.length := by show a < s.length; omega
    have hs' : a < s.cps.size := hs
    have ed : s.cps.toList.drop a = s.cps.toList[a] :: s.cps.toList.drop (a + 1) := List.drop_eq_getElem_cons hs
    have eb : s.cps.toList.drop b = (s.cps.toList.drop b).take (a - b) ++ s.cps.toList.drop a := by
      have : (s.cps.toList.drop b).drop (a - b) = s.cps.toList.drop a := by rw [List.drop_drop]; congr 1; omega
      rw [← this, List.take_append_drop]
    have eg : s.cps[a]? = some s.cps.toList[a] := by rw [Array.getElem?_eq_getElem hs']; rfl
    rw [List.range'_succ, List.filter_cons]
    by_cases hc : s.cps.toList[a] = c
    · rw [if_pos (by rw [eg, hc]; simp)]
      show (strSub s b a).cps.toList :: (StrLaws.partsFrom s 1 (a + 1) _).map (·.cps.toList) = _
      rw [parts_sp s c m (a + 1) (by omega) (by omega) (a + 1) (Nat.le_refl _) (by simp), sub_list]
      conv => rhs; rw [eb, ed, hc, sp_cut c _ _ hf]
    · rw [if_neg (by rw [eg]; simpa using hc)]
      refine parts_sp s c m (a + 1) (by omega) (by omega) b (by omega) ?_
      have e2 : (s.cps.toList.drop b).take (a + 1 - b) = (s.cps.toList.drop b).take (a - b) ++ [s.cps.toList[a]] := by
        rw [show a + 1 - b = (a - b) + 1 by omega, List.take_succ]
        congr 1
        rw [List.getElem?_drop, show b + (a - b) = a by omega, List.getElem?_eq_getElem hs]
        rfl
      rw [e2, List.mem_append]
      rintro (z | z)
      · exact hf z
      · exact hc (List.mem_singleton.mp z).symm
theorem kind_one {c : Nat} (h : c < 256) : Builtin.Str.strKind (⟨#[c]⟩ : Str) = 1 := by
  unfold Builtin.Str.strKind
  rw [if_pos (by simpa using h)]
theorem kind_ge (s : Str) : 1 ≤ Builtin.Str.strKind s := by
  unfold Builtin.Str.strKind
  repeat' split
  all_goals omega
/-- split at one sign: the pieces between -/
theorem split_sp (s : Str) {c : Nat} (h : c < 256) : (Txt.split s ⟨#[c]⟩).map (·.cps.toList) = sp c s.cps.toList := by
  have one : (⟨#[c]⟩ : Str).length = 1 := rfl
  unfold Txt.split
  by_cases h0 : s.length = 0
  · rw [if_pos (by rw [one, h0]; rfl)]
    have e : s.cps.toList = [] := List.eq_nil_of_length_eq_zero h0
    show [s.cps.toList] = _
    rw [e]
    rfl
  · rw [if_neg (by
      rw [one, kind_one h]
      have := kind_ge s
      simp
      omega), occ_all]
    have hp := parts_sp s c s.length 0 (by omega) (Nat.zero_le _) 0 (Nat.le_refl _) (by simp)
    rw [List.drop_zero] at hp
    by_cases he : ((List.range' 0 s.length).filter fun i => s.cps[i]? == some c).isEmpty = true
    · rw [if_pos he]
      rw [List.isEmpty_iff.mp he] at hp
      rw [← hp]
      show [s.cps.toList] = [(strSub s 0 s.length).cps.toList]
      rw [sub_list, List.drop_zero, List.take_of_length_le (show s.cps.toList.length ≤ s.length - 0 from Nat.le_refl _)]
    · rw [if_neg he, one, StrLaws.partsBetween_eq]
      exact hp
theorem rng_one (a b : Nat) : sliceRange a b 1 = List.range' a (b - a) := by
  unfold sliceRange
  have e : (if (1 : Int) > 0 then (if (a : Int) < b then ((b : Int) - a + 1 - 1) / 1 else 0) else (if (a : Int) > b then ((a : Int) - b - 1 - 1) / (-1) else 0)).toNat = b - a := by
    rw [if_pos (by decide)]
    split
    · rw [Int.ediv_one]; omega
    · omega
  show (List.range _).map _ = _
  rw [e, List.range'_eq_map_range]
  refine List.map_congr_left fun k _ => ?_
  omega
theorem ind_cut (l u : Option Int) (n : Nat) : strSliceIndices l u 1 n = List.range' (HT.sIx n 0 l) (HT.sIx n n u - HT.sIx n 0 l) := by
  rw [← rng_one]
  unfold strSliceIndices
  have c : ∀ (v : Int), max 0 (min (if v < 0 then v + (n : Int) else v) n) = ((HT.sIx n 0 (some v) : Nat) : Int) := fun v => by
    show _ = (((if v < 0 then (v + (n : Int)).toNat else min v.toNat n) : Nat) : Int)
    split <;> omega
  have c2 : ∀ (v : Int), HT.sIx n n (some v) = HT.sIx n 0 (some v) := fun _ => rfl
  have go : ∀ (a b : Int) (x y : Nat), a = x → b = y → sliceRange a b 1 = sliceRange x y 1 := fun a b x y h1 h2 => by rw [h1, h2]
  cases l with
  | none =>
    cases u with
    | none => exact go _ _ _ _ rfl rfl
    | some v => exact go _ _ _ _ rfl (by rw [c2, ← c v]; rfl)
  | some v =>
    cases u with
    | none => exact go _ _ _ _ (by rw [← c v]; rfl) rfl
    | some w => exact go _ _ _ _ (by rw [← c v]; rfl) (by rw [c2, ← c w]; rfl)
theorem fm_range (xs : Array Nat) : ∀ (m a : Nat), a + m ≤ xs.size → (List.range' a m).filterMap (xs[·]?) = (xs.toList.drop a).take m
  | 0, a, _ => by simp
  | m + 1, a, h => by
    have hs : a < xs.toList.length := by show a < xs.size; omega
    rw [List.range'_succ, List.filterMap_cons, Array.getElem?_eq_getElem (show a < xs.size by omega)]
    show xs[a] :: _ = _
    rw [fm_range xs m (a + 1) (by omega), List.drop_eq_getElem_cons hs, List.take_succ_cons]
    rfl
theorem slice_list (z : Str) (l u : Option Int) : (Txt.slice z l u).cps.toList = cutL z.cps.toList l u := by
  unfold Txt.slice cutL
  have el : z.cps.toList.length = z.length := rfl
  have h1 := HT.sIx_le z.length 0 (Nat.zero_le _) l
  have h2 := HT.sIx_le z.length z.length (Nat.le_refl _) u
  rw [ind_cut, el]
  by_cases h : HT.sIx z.length z.length u - HT.sIx z.length 0 l = z.length
  · rw [if_pos (by simpa using h), h]
    have e0 : HT.sIx z.length 0 l = 0 := by omega
    rw [e0, List.drop_zero, List.take_of_length_le (Nat.le_of_eq el)]
  · rw [if_neg (by simpa using h)]
    show List.filterMap _ _ = _
    by_cases hz : HT.sIx z.length 0 l ≤ HT.sIx z.length z.length u
    · exact fm_range z.cps _ _ (by show _ ≤ z.length; omega)
    · rw [show HT.sIx z.length z.length u - HT.sIx z.length 0 l = 0 by omega]
      simp
/-- a text from its signs -/
def mkS (l : List Nat) : Str := ⟨l.toArray⟩
theorem mkS_list (z : Str) : mkS z.cps.toList = z := by unfold mkS; simp
theorem list_mkS (l : List Nat) : (mkS l).cps.toList = l := by unfold mkS; simp
theorem mkS_len (l : List Nat) : (mkS l).length = l.length := by unfold mkS Str.length; simp
theorem str_ext {a b : Str} (h : a.cps.toList = b.cps.toList) : a = b := by rw [← mkS_list a, ← mkS_list b, h]
theorem split_eq (s : Str) {c : Nat} (h : c < 256) : Txt.split s ⟨#[c]⟩ = (sp c s.cps.toList).map mkS := by
  rw [← split_sp s h, List.map_map]
  refine (List.map_id _).symm.trans (List.map_congr_left fun z _ => ?_)
  exact (mkS_list z).symm
theorem starts_one (s : Str) (c : Nat) : Txt.startswith s ⟨#[c]⟩ = (s.cps.toList.head? == some c) := by
  unfold Txt.startswith
  have one : (⟨#[c]⟩ : Str).length = 1 := rfl
  rw [one]
  cases hl : s.cps.toList with
  | nil =>
    have e : s = mkS [] := by rw [← hl, mkS_list]
    rw [e]
    rfl
  | cons x xs =>
    have e : s = mkS (x :: xs) := by rw [← hl, mkS_list]
    have hsz : s.length = xs.length + 1 := by rw [e, mkS_len]; rfl
    rw [decide_eq_true (by omega : 0 + 1 ≤ s.length), Bool.true_and]
    unfold subAt
    rw [one]
    have ex : s.cps.extract 0 (0 + 1) = #[x] := by
      apply Array.toList_inj.mp
      rw [Array.toList_extract, hl]
      simp [List.extract]
    rw [ex]
    apply bool_iff
    simp
theorem sp_len (c : Nat) : ∀ xs : List Nat, (sp c xs).length ≤ xs.length + 1
  | [] => Nat.le_refl _
  | x :: xs => by
    have := sp_len c xs
    unfold sp
    split
    · simp; omega
    · split
      · simp
      · rename_i h
        rw [h] at this
        simp at this ⊢
        omega
theorem sp_piece (c : Nat) : ∀ (xs : List Nat), ∀ p ∈ sp c xs, p.length ≤ xs.length
  | [], p, h => by
    have : p = [] := by simpa [sp] using h
    rw [this]
    exact Nat.le_refl _
  | x :: xs, p, h => by
    have ih := sp_piece c xs
    unfold sp at h
    split at h
    · rcases List.mem_cons.mp h with rfl | h
      · simp
      · have := ih p h
        simp; omega
    · split at h
      · rename_i e
        exact absurd e (sp_ne c xs)
      · rename_i q qs e
        rw [e] at ih
        rcases List.mem_cons.mp h with rfl | h
        · have := ih q (List.mem_cons_self ..)
          simp; omega
        · have := ih p (List.mem_cons_of_mem _ h)
          simp; omega
end L2
/-! TEXTS: x * n, strip; a new list within a tuple that was told, changed and forgotten. -/
namespace L2
open PySem PySem.Spec PyProof.Rows
section
variable {X : Cx} {EX : St → XK} {K : PySem.W.Frag} {o e : Expr} {to te : TV} {apos cpos : Pos} {τ : VSt} {σ : St} {B H H0 : Hp}
/-! ### x * n -/
def rMulS : R2 := fun x y H Q => ∃ a n, x = .str a ∧ y = .int n ∧ MulOk a n ∧ Q (.str (Txt.mul a n)) H
theorem op_mulS : OpR X (binaryOp .Mult) rMulS := by
  intro pins s σ H x y v u Q I rx ry h
  obtain ⟨a, n, rfl, rfl, hok, q⟩ := h
  obtain ⟨t1, rfl⟩ := rx
  obtain ⟨t2, rfl⟩ := ry
  exact SB.mul hok fun t' k => ⟨.str _, H, I.tok _, ⟨_, rfl⟩, q⟩
def vMulS (rx ry : R) (Q : R → Prop) : Prop := match rx.d, ry.d with
  | .str a, .int n => MulOk a n ∧ Q (.val (.str (Txt.mul a n)))
  | _, _ => False
theorem vo_mulS : VO X (binaryOp .Mult) vMulS := ⟨_, op_mulS, fun B H x y rx ry Q Qd s hx hy h k => by
  unfold vMulS at h
  split at h
  · rename_i a n e1 e2
    cases hx.scal (z := .str a) (by rw [e1]; rfl)
    cases hy.scal (z := .int n) (by rw [e2]; rfl)
    exact ⟨a, n, rfl, rfl, h.1, k _ _ B H (.refl s) (repV rfl) h.2⟩
  · exact h.elim⟩
/-! ### strip -/
theorem mt_strip : MtM X "str.strip" (fun x vs H Q => ∃ a b, x = .str a ∧ vs = [.str b] ∧ a.length ≤ sizeLine ∧ Q (.str (Txt.stripChars a b)) H) := by
  intro pins s σ H x vs v us Q I rx rv h
  obtain ⟨a, b, rfl, rfl, ha, q⟩ := h
  obtain ⟨t, rfl⟩ := rx
  obtain ⟨u, rfl, ⟨t', rfl⟩⟩ := rv.one
  exact SC.stripChars (fun t' k => ⟨.str _, H, I.tok _, ⟨_, rfl⟩, q⟩) ha
def vStrip (to te : TV) : TV := fun τ Q => to τ fun rs => match rs.d with
  | .str a => te τ fun rt => ∃ b, rt.d = .str b ∧ a.length ≤ sizeLine ∧ Q (.val (.str (Txt.stripChars a b)))
  | _ => False
theorem ve_strip (ho : VE X EX o to) (h : VE X EX e te) (hp : plainE e = true := by rfl) (hbase : attributeBase o "strip" X.env (eval o X.env) = eval o X.env := by rfl) (hline : (apos.endLine == cpos.line) = true := by rfl) :
    VE X EX (.Call (.Attribute o "strip" apos) [e] [] cpos) (vStrip to te) :=
  let ⟨_, o1, o2⟩ := ho.u; let ⟨_, a1, a2⟩ := h.u; ⟨_, qbm PySem.F.plainAttrs_str PySem.F.slot_str_strip PySem.F.type_str_strip mt_strip o1 (qac a1 qa_nil hp) (by simp [hp]) rfl hbase hline, fun H0 B H τ σ Q Qd s S h xc k =>
    o2 H0 B H τ σ _ _ s S h (xno fun _ q => q) fun rs vs B1 H1 p1 q1 h1 => by
      split at h1
      · rename_i a es
        cases q1.pk.scal (z := .str a) (by rw [es]; rfl)
        refine ⟨rfl, a2 H0 B1 H1 τ σ _ _ p1.s (S.step p1) h1 (xno fun _ ⟨_, q, _⟩ => by cases q) fun rl vl B2 H2 p2 q2 h2 => ?_⟩
        obtain ⟨b, el, hb, hq⟩ := h2
        cases q2.pk.scal (z := .str b) (by rw [el]; rfl)
        exact ⟨a, b, rfl, rfl, hb, k _ _ B2 H2 (p1.trans p2) (repV rfl) hq⟩
      · exact h1.elim⟩
/-! ### a new list within a tuple that was told -/
def scalS (τ : VSt) : VSt := τ.map fun z => match z with
  | some (.val d) => match dV d with
    | some _ => some (.val d)
    | none => none
  | _ => none
theorem scalS_at {i : Nat} {r : R} (h : (scalS τ)[i]? = some (some r)) : ∃ d z, r = .val d ∧ τ[i]? = some (some (.val d)) ∧ dV d = some z := by
  unfold scalS at h
  rw [List.getElem?_map] at h
  cases e : τ[i]? with
  | none => rw [e] at h; cases h
  | some w =>
    rw [e] at h
    cases w with
    | none => cases h
    | some r' =>
      cases r' with
      | val d =>
        have h' : (match dV d with | some _ => some (R.val d) | none => none) = some r := Option.some.inj h
        cases ed : dV d with
        | none => rw [ed] at h'; cases h'
        | some z => rw [ed] at h'; cases h'; exact ⟨d, z, rfl, rfl, ed⟩
      | own d => cases h
      | peek d => cases h
      | exc n => cases h
theorem Slots.scalS (S : Slots K H0 B H τ σ) : Slots K H0 (fun _ => none) H (scalS τ) σ where
  len := by unfold L2.scalS; rw [List.length_map]; exact S.len
  val := fun i d h => by
    obtain ⟨d', z, e1, e2, e3⟩ := scalS_at h
    cases e1
    obtain ⟨v, q, r⟩ := S.val i d e2
    have : Pk K B H (.val d) v := r
    cases this.scal (z := z) e3
    exact ⟨_, q, rep_dV e3⟩
  own := fun i d h => by
    obtain ⟨d', z, e1, _⟩ := scalS_at h
    cases e1
  sep := fun i j d e a h => by
    obtain ⟨d', z, e1, _⟩ := scalS_at h
    cases e1
/-- what is new over nothing is new over B -/
theorem Stp.over {B1 H1 : Hp} (s : Same B H) (p : Stp (fun _ => none) H B1 H1) : ∃ B2, Stp B H B2 H1 ∧ Same B1 B2 := by
  refine ⟨fun a => match B1 a with | some z => some z | none => B a, ⟨fun a z e => ?_, p.h, fun a z e => ?_, fun a h => ?_⟩, fun a z e => ?_⟩
  · show (match B1 a with | some z => some z | none => B a) = some z
    have := p.h _ _ (s _ _ e)
    cases e1 : B1 a with
    | none => exact e
    | some w =>
      have := p.s _ _ e1
      rw [p.h _ _ (s _ _ e)] at this
      exact this.symm
  · have e' : (match B1 a with | some z => some z | none => B a) = some z := e
    cases e1 : B1 a with
    | none => rw [e1] at e'; exact p.h _ _ (s _ _ e')
    | some w => rw [e1] at e'; cases e'; exact p.s _ _ e1
  · have h' : (match B1 a with | some z => some z | none => B a) ≠ none := h
    cases e1 : B1 a with
    | none => rw [e1] at h'; exact .inl h'
    | some w =>
      rcases p.d a (by rw [e1]; exact fun z => by cases z) with z | z
      · exact absurd rfl z
      · exact .inr z
  · show (match B1 a with | some z => some z | none => B a) = some z
    rw [e]
def vScr (i : Nat) (tc : TV) (tt : TVT) (u : TVS) : TVS := fun Dv τ => tc (scalS τ) fun r => match r with
  | .val (.tup [.bl c, .lst ds]) => i < τ.length ∧ ds.length < sizeLine ∧ tt (τ.set i (some (.val (.tup [.bl c, .lst ds])))) fun b => if b = true then Dv.rt (.val (.bl false)) else u Dv (τ.set i none)
  | _ => False
theorem vss_scr {i : Nat} {x : Str} {ec et : Expr} {tc : TV} {tt : TVT} {u : TVS} {rest : List Stmt} {p1 p2 p3 p4 p5 p6 p7 p8 p9 p10 p11 q1 q2 q3 q4 q5 q6 : Pos} {j1 j2 j3 j4 j5 j6 : Nat} {c1 c2 : Str} (hN : X.N.Nodup) (hi : X.N[i]? = some x) (hx : Loc X.env.scope x) (hc : VE X EX ec tc) (ht : VT X EX et tt) (hr : VSs X EX rest u)
    (hs : swapsWith ec (some (.Name x p1)) q1.line X.env = pure false := by rfl) (hf : X.fn x = true ∨ X.env.scope.names.lookup x = some .local := by first | exact .inl rfl | exact .inr rfl | assumption)
    (hv : Vis X.env.scope x := by first | exact Or.inl rfl | exact Or.inr (Or.inl rfl) | exact Or.inr (Or.inr rfl)) (hd : (x == ("__debug__" : Str)) = false := by decide) (hcd : (x == ("__classdict__" : Str)) = false := by decide)
    (hbase : attributeBase (.Subscript (.Name x p3) (.Constant (.int 1) j2 p4) p5) "append" X.env (eval (.Subscript (.Name x p3) (.Constant (.int 1) j2 p4) p5) X.env) = eval (.Subscript (.Name x p3) (.Constant (.int 1) j2 p4) p5) X.env := by rfl) (hline : (apos.endLine == cpos.line) = true := by rfl)
    (hs3 : swapsWith (.Call (.Attribute (.Subscript (.Name x p3) (.Constant (.int 1) j2 p4) p5) "append" apos) [.Constant (.str c1) j3 p6] [] cpos) none q3.line X.env = pure false := by rfl)
    (ha : ∀ v, assign (.Subscript (.Subscript (.Name x p7) (.Constant (.int 1) j4 p8) p9) (.Constant (.int 0) j5 p10) q5) X.env v = (do
      let ov ← holding [v] (eval (.Subscript (.Name x p7) (.Constant (.int 1) j4 p8) p9) X.env)
      let iv ← holding [v, ov] (eval (.Constant (.int 0) j5 p10) X.env)
      standAt q5
      holding [v, ov, iv] (setItem ov iv v)
      release [v, ov, iv] []) := by intro _; rfl)
    (hs4 : swapsWithSole [.Subscript (.Subscript (.Name x p7) (.Constant (.int 1) j4 p8) p9) (.Constant (.int 0) j5 p10) q5] (.Constant (.str c2) j6 p11) q4.line X.env = pure false := by rfl) (hw : swappedStores [.Subscript (.Subscript (.Name x p7) (.Constant (.int 1) j4 p8) p9) (.Constant (.int 0) j5 p10) q5] (.Constant (.str c2) j6 p11) X.env = pure none := by rfl)
    (h1 : (assignEach [.Subscript (.Subscript (.Name x p7) (.Constant (.int 1) j4 p8) p9) (.Constant (.int 0) j5 p10) q5] X.env).map (·.2) = [assign (.Subscript (.Subscript (.Name x p7) (.Constant (.int 1) j4 p8) p9) (.Constant (.int 0) j5 p10) q5) X.env] := by rfl)
    (hx1 : PlainIx (.Constant (.int 1) j2 p4) := by intro _ _; rfl) (hx2 : PlainIx (.Constant (.int 1) j4 p8) := by intro _ _; rfl) :
    VSs X EX (.Assign [.Name x p1] ec q1 :: .If et [.Return (some (.Constant (.bool false) j1 p2)) q6] [] q2 :: .Expr (.Call (.Attribute (.Subscript (.Name x p3) (.Constant (.int 1) j2 p4) p5) "append" apos) [.Constant (.str c1) j3 p6] [] cpos) q3 :: .Assign [.Subscript (.Subscript (.Name x p7) (.Constant (.int 1) j4 p8) p9) (.Constant (.int 0) j5 p10) q5] (.Constant (.str c2) j6 p11) q4 :: rest) (vScr i tc tt u) :=
  let ⟨_, a1, a2⟩ := hc.u; let ⟨_, b1, b2⟩ := ht.u; let ⟨_, r1, r2⟩ := hr.u
  ⟨_, qss_cons (qs_set hN hi hx a1 hs hf) (qss_cons (qs_if b1 (qss_one (qs_ret qe_bl)) qss_nil) (qss_cons (qs_expr (qbm PySem.F.plainAttrs_list PySem.F.slot_list_append PySem.F.type_list_append mt_append (qe_ix ix_tup (qv i hi hv hd hcd) qe_int hx1) (qac qe_str qa_nil rfl) rfl rfl hbase hline) hs3)
    (qss_cons (qs_asg qe_str (qg_sub (qe_ix ix_tup (qv i hi hv hd hcd) qe_int hx2) qe_int set_list ha) hs4 hw h1) r1))), fun B0 H0 B H τ σ Dv Dh p S h E => by
    refine a2 H0 (fun _ => none) H (scalS τ) σ _ _ (fun _ _ e => by cases e) S.scalS h (xno fun _ q => q) fun r v B1 H1 p1 hr hq => ?_
    split at hq
    · rename_i c ds
      obtain ⟨hil, hl, hq⟩ := hq
      obtain ⟨B2, st2, sm2⟩ := p1.over p.s
      have rp : Rep X.K B1 (.tup [.bl c, .lst ds]) v := hr
      have rp2 := rp.same sm2
      unfold Rep at rp
      obtain ⟨t, xs, rfl, hta, hrs⟩ := rp
      unfold Reps at hrs
      obtain ⟨v0, vs0, rfl, hv0, hrs⟩ := hrs
      unfold Reps at hrs
      obtain ⟨v1, vs1, rfl, hv1, hrs⟩ := hrs
      unfold Reps at hrs
      subst hrs
      unfold Rep at hv1
      obtain ⟨l, ys, rfl, hyl, hys⟩ := hv1
      have htt : B1 t = some (.tup [v0, .ref l]) := by
        rcases hta with z | ⟨_, z⟩
        · exact z
        · simp at z
      have hHl : H l = none := by
        rcases p1.d l (by rw [hyl]; exact fun z => by cases z) with z | z | ⟨zs, z⟩
        · exact absurd rfl z
        · exact z
        · have e1 := p1.h _ _ z
          rw [p1.s _ _ hyl] at e1
          cases e1
      have hBl : B l = none := p.s.free hHl
      have hil : i < σ.length := by rw [S.len]; exact hil
      refine b2 H0 B2 H1 _ (σ.set i (some (.ref t))) _ _ st2.s ((S.step st2).setVal i rp2) hq fun b B3 H3 p3 hb => ?_
      have hσ : (σ.set i (some (V.ref t)))[i]? = some (some (V.ref t)) := List.getElem?_set_self hil
      cases b with
      | true => exact E.rt (.val (.bl false)) _ B3 H3 (p.trans (st2.trans p3)) (repV rfl) hb
      | false =>
        have e3t : H3 t = some (.tup [v0, .ref l]) := p3.h _ _ (p1.s _ _ htt)
        have e3l : H3 l = some (.lst ys) := p3.h _ _ (p1.s _ _ hyl)
        have hlen : ys.length = ds.length := hys.length.symm
        have q3 : Stp B H B H3 := .grow p.s (p1.h.trans p3.h)
        refine ⟨.ref t, hσ, t, [v0, .ref l], 1, .ref l, rfl, rfl, SqT.of e3t, rfl, .inl ⟨rfl, ys, SqL.of e3l⟩, l, ys, .str c1, rfl, rfl, e3l, by omega, ?_⟩
        have ne : t ≠ l := fun z => by rw [z, e3l] at e3t; cases e3t
        refine ⟨.ref t, hσ, t, [v0, .ref l], 1, .ref l, rfl, rfl, SqT.of (by rw [upd_ne ne]; exact e3t), rfl, l, ys ++ [.str c1], 0, 0, rfl, rfl, upd_same, ?_, ?_⟩
        · unfold ixN
          rw [if_pos (by decide), if_pos (by rw [List.length_append, List.length_singleton]; omega)]
          rfl
        · have q5 := (q3.upd (o := .lst (ys ++ [V.str c1])) hHl hBl).upd (o := .lst ((ys ++ [V.str c1]).set 0 (V.str c2))) hHl hBl
          exact r2 B0 H0 B _ _ _ _ _ (p.trans q5) ((S.step q5).setNone i _) hb E
    · exact hq.elim⟩
end
end L2
set_option maxHeartbeats 4000000
namespace K05
open PySem L2
local macro_rules | `(tactic| simp! only [$xs,*]) => `(tactic| simp only [vSeq, vIfS, vBl, vOp, vLt, vLe, vGt, vGe, vI2', vI2, vVar, vF1, vLen, vList, vTuple, vStr, vRet, vRetO, vRetN, vIxR, vNext, vC, vAdd, vSub, vMul, vDiv, vMod, vPow, vEq, vNe, vSlice, vSlR, vNoPart, vPart, vNeg, vCall, vCallN, vCons, vNil, vTup, vLst, vSet, vSetO, vAppend, vSetI, ownL, vFor, vRng1, vRng2, vItems, vComp, vIsin, isTy, vMM, vNotT, vAndT, vOrT, vNotE, vAndE, vOrE, vIfE, vAsg, vgName, vgNil, vgCons, vgTup, vFrz, frz, vDrop, vAll, vJoin, vIsN, vChain, startD, dV, scal, rd_val, rd_own, rd_peek, rd_exc, pub_val, pub_own, ex_val, ex_own, ex_peek, ex_exc, exA_val, exA_own, exA_peek, exA_exc, exS_val, exS_own, exS_peek, exS_exc, exA_ok, exA_raise, exI_ok, exI_exc, more_ok, more_exc, vRaise, vTry, VEnds.calm, VEnds.wiped, vStarts, vSplit, vStrip, vMulS, vScr, scalS, vIn, strsOf, strsOf_map, Option.map_some, List.map_cons, List.map_nil, List.length_cons, List.length_nil, List.cons_append, List.nil_append, List.getElem?_cons_zero, List.getElem?_cons_succ, List.set_cons_zero, List.set_cons_succ, List.replicate_succ, List.replicate_zero, Nat.reduceSub, Nat.reduceAdd, if_true, if_false, ite_true, ite_false, Bool.not_true, Bool.not_false, decide_true, decide_false, eq_int, eq_str, cmp_int, cmp_str, dep_int, dep_str, true_and, and_true, Nat.zero_le, List.take_succ_cons, List.take_zero, reduceIte, Bool.false_eq_true, eq_self, List.length_map, V.int.injEq, V.str.injEq, CDiv, Int.reduceLT, Int.zero_add, and_self, List.cons.injEq, D.scr.injEq, D.int.injEq, D.str.injEq, D.tup.injEq, D.lst.injEq, D.bl.injEq, and_assoc, exists_and_left, exists_eq_left, exists_eq_left', map_str_iff, map_int_iff, snoc_str, snoc_int, drop_str, cat_str, cutL_map, Int.reduceLE, Int.le_refl, take_str, dropn_str, atI_lit, atI_neg1, Option.some.injEq, $xs,*])
local macro_rules | `(tactic| dsimp! only [$xs,*]) => `(tactic| simp only [vIfS, vBl, vOp, vLt, vLe, vGt, vGe, vI2', vI2, vVar, vF1, vLen, vList, vTuple, vStr, vRet, vRetO, vRetN, vIxR, vNext, vC, vAdd, vSub, vMul, vDiv, vMod, vPow, vEq, vNe, vSlice, vSlR, vNoPart, vPart, vNeg, vCall, vCallN, vCons, vNil, vTup, vLst, vSet, vSetO, vAppend, vSetI, ownL, vFor, vRng1, vRng2, vItems, vComp, vIsin, isTy, vMM, vNotT, vAndT, vOrT, vNotE, vAndE, vOrE, vIfE, vAsg, vgName, vgNil, vgCons, vgTup, vFrz, frz, vDrop, vAll, vJoin, vIsN, vChain, startD, dV, scal, rd_val, rd_own, rd_peek, rd_exc, pub_val, pub_own, ex_val, ex_own, ex_peek, ex_exc, exA_val, exA_own, exA_peek, exA_exc, exS_val, exS_own, exS_peek, exS_exc, exA_ok, exA_raise, exI_ok, exI_exc, more_ok, more_exc, vRaise, vTry, VEnds.calm, VEnds.wiped, vStarts, vSplit, vStrip, vMulS, vScr, scalS, vIn, strsOf, strsOf_map, Option.map_some, List.map_cons, List.map_nil, List.length_cons, List.length_nil, List.cons_append, List.nil_append, List.getElem?_cons_zero, List.getElem?_cons_succ, List.set_cons_zero, List.set_cons_succ, List.replicate_succ, List.replicate_zero, Nat.reduceSub, Nat.reduceAdd, if_true, if_false, ite_true, ite_false, Bool.not_true, Bool.not_false, decide_true, decide_false, eq_int, eq_str, cmp_int, cmp_str, dep_int, dep_str, true_and, and_true, Nat.zero_le, List.take_succ_cons, List.take_zero, reduceIte, Bool.false_eq_true, eq_self, List.length_map, V.int.injEq, V.str.injEq, CDiv, Int.reduceLT, Int.zero_add, and_self, List.cons.injEq, D.scr.injEq, D.int.injEq, D.str.injEq, D.tup.injEq, D.lst.injEq, D.bl.injEq, and_assoc, exists_and_left, exists_eq_left, exists_eq_left', map_str_iff, map_int_iff, snoc_str, snoc_int, drop_str, cat_str, cutL_map, Int.reduceLE, Int.le_refl, take_str, dropn_str, atI_lit, atI_neg1, Option.some.injEq, $xs,*])
def NS : Str := "abcdefghijklmnopqrstuvwxyz0123456789"
def NT : Str := "0123456789abcdefghijklmnopqrstuvwxyz"
theorem in_NS (c : Nat) : (!(Builtin.Str.occurrences NS ⟨#[c]⟩ 0 NS.length 1).isEmpty) = decide (c ∈ NS.cps.toList) := StrLaws.found_one NS c
theorem in_NT (c : Nat) : (!(Builtin.Str.occurrences NT ⟨#[c]⟩ 0 NT.length 1).isEmpty) = decide (c ∈ NS.cps.toList) := by
  rw [StrLaws.found_one NT c]
  have h1 : ∀ c ∈ NS.cps.toList, c ∈ NT.cps.toList := by decide +kernel
  have h2 : ∀ c ∈ NT.cps.toList, c ∈ NS.cps.toList := by decide +kernel
  exact decide_eq_decide.mpr ⟨h2 c, h1 c⟩
theorem slash : ("/" : Str) = ⟨#[47]⟩ := by decide +kernel
theorem no_slash : (47 : Nat) ∉ NS.cps.toList := by decide +kernel
/-! ### names, words, ways -/
def nmL (l : List Nat) : Bool := decide (1 ≤ l.length) && decide (l.length ≤ 12) && l.all fun c => decide (c ∈ NS.cps.toList)
def nmB (z : Str) : Bool := nmL z.cps.toList
def wdB (z : Str) : Bool := decide (z ∈ [(".": Str), ".."]) || nmB z
theorem nm_free {z : Str} (h : nmB z = true) : (47 : Nat) ∉ z.cps.toList := fun m => by
  unfold nmB nmL at h
  rw [Bool.and_eq_true, List.all_eq_true] at h
  exact no_slash (of_decide_eq_true (h.2 47 m))
theorem nm_len {z : Str} (h : nmB z = true) : 1 ≤ z.length ∧ z.length ≤ 12 := by
  unfold nmB nmL at h
  rw [Bool.and_eq_true, Bool.and_eq_true] at h
  exact ⟨of_decide_eq_true h.1.1, of_decide_eq_true h.1.2⟩
/-- where the words begin, and they -/
def rt (z : Str) : Bool := z.cps.toList.head? == some 47
def wsW (z : Str) : List Str := (sp 47 (if rt z = true then z.cps.toList.drop 1 else z.cps.toList)).map mkS
def wordsW (z : Str) : Option (Bool × List Str) := if z = "/" then some (true, []) else if (wsW z).length ≤ 40 ∧ (wsW z).all wdB = true then some (rt z, wsW z) else none
theorem nm_wd {z : Str} (h : nmB z = true) : wdB z = true := by unfold wdB; rw [h, Bool.or_true]
theorem all_wd {ws : List Str} (h : ws.all nmB = true) : ws.all wdB = true := List.all_eq_true.mpr fun z hz => nm_wd (List.all_eq_true.mp h z hz)
/-! ### what each def promises -/
def g_cell_at : DP := fun ds Q => ∃ ns k, ds = [.scr ns, .int k] ∧ 0 ≤ k ∧ ∀ i, Q (.val (.int i))
def g_name_by : DP := fun ds Q => ∃ c, ds = [.int c] ∧ ∀ z, nmB z = true → Q (.val (.str z))
def g_word_by : DP := fun ds Q => ∃ c, ds = [.int c] ∧ ∀ z : Str, z.length ≤ 12 → Q (.val (.str z))
def g_words_by : DP := fun ds Q => ∃ ns a c s, ds = [.scr ns, .int a, .int c, .int s] ∧ 0 ≤ a ∧ 0 ≤ c ∧ c ≤ 45 ∧ ∀ ws : List Str, ws.length = c.toNat → (∀ z ∈ ws, z.length ≤ 12) → Q (.own (.lst (ws.map D.str)))
def g_sign_by : DP := fun ds Q => ∃ c, ds = [.int c] ∧ ∀ z : Str, z.length = 1 → Q (.val (.str z))
def g_text_by : DP := fun ds Q => ∃ ns, ds = [.scr ns] ∧ ∀ z : Str, z.length ≤ 3000 → Q (.val (.str z))
def g_is_name : DP := fun ds Q => ∃ z, ds = [.str z] ∧ z.length ≤ 5000 ∧ Q (.val (.bl (nmB z)))
def g_is_word : DP := fun ds Q => ∃ z, ds = [.str z] ∧ z.length ≤ 5000 ∧ Q (.val (.bl (wdB z)))
def g_l_is_word : DP := fun ds Q => ∃ z, ds = [.str z] ∧ z.length ≤ 5000 ∧ Q (.val (.bl (wdB z)))
def g_words_of : DP := fun ds Q => ∃ z, ds = [.str z] ∧ z.length ≤ 5000 ∧ (∀ r ws, wordsW z = some (r, ws) → Q (.val (.tup [.bl r, strsD ws]))) ∧ (wordsW z = none → Q (.exc "NoWay"))
def g_due : DP := fun ds Q => ∃ z, ds = [.str z] ∧ z.length ≤ 5000 ∧ (∀ r ws, wordsW z = some (r, ws) → Q (.val (.tup [.bl r, strsD ws]))) ∧ (wordsW z = none → Q (.val .non))
def g_refused : DP := fun ds Q => ∃ z, ds = [.str z] ∧ z.length ≤ 5000 ∧ wordsW z = none ∧ Q (.val (.bl true))
def g_told : DP := fun ds Q => ∃ r ws, ds = [.tup [.bl r, strsD ws], .tup [.bl r, strsD ws]] ∧ ws.length ≤ 5001 ∧ Q (.val (.bl true))
def g_law : DP := fun ds Q => ∃ ns, ds = [.scr ns] ∧ Q (.val (.bl true))
theorem len_cell_at : ∀ ds Q, g_cell_at ds Q → ds.length = 2 := by rintro ds Q ⟨_, _, rfl, _⟩; rfl
theorem len_name_by : ∀ ds Q, g_name_by ds Q → ds.length = 1 := by rintro ds Q ⟨_, rfl, _⟩; rfl
theorem len_word_by : ∀ ds Q, g_word_by ds Q → ds.length = 1 := by rintro ds Q ⟨_, rfl, _⟩; rfl
theorem len_words_by : ∀ ds Q, g_words_by ds Q → ds.length = 4 := by rintro ds Q ⟨_, _, _, _, rfl, _⟩; rfl
theorem len_sign_by : ∀ ds Q, g_sign_by ds Q → ds.length = 1 := by rintro ds Q ⟨_, rfl, _⟩; rfl
theorem len_text_by : ∀ ds Q, g_text_by ds Q → ds.length = 1 := by rintro ds Q ⟨_, rfl, _⟩; rfl
theorem len_is_name : ∀ ds Q, g_is_name ds Q → ds.length = 1 := by rintro ds Q ⟨_, rfl, _⟩; rfl
theorem len_is_word : ∀ ds Q, g_is_word ds Q → ds.length = 1 := by rintro ds Q ⟨_, rfl, _⟩; rfl
theorem len_l_is_word : ∀ ds Q, g_l_is_word ds Q → ds.length = 1 := by rintro ds Q ⟨_, rfl, _⟩; rfl
theorem len_words_of : ∀ ds Q, g_words_of ds Q → ds.length = 1 := by rintro ds Q ⟨_, rfl, _⟩; rfl
theorem len_due : ∀ ds Q, g_due ds Q → ds.length = 1 := by rintro ds Q ⟨_, rfl, _⟩; rfl
theorem len_refused : ∀ ds Q, g_refused ds Q → ds.length = 1 := by rintro ds Q ⟨_, rfl, _⟩; rfl
theorem len_told : ∀ ds Q, g_told ds Q → ds.length = 2 := by rintro ds Q ⟨_, _, rfl, _⟩; rfl
theorem len_law : ∀ ds Q, g_law ds Q → ds.length = 1 := by rintro ds Q ⟨_, rfl, _⟩; rfl
abbrev En (Q : R → Prop) : VEnds := { nx := fun _ => Q (.val .non), rt := Q }
abbrev EnX (Q : R → Prop) : VEnds := { nx := fun _ => Q (.val .non), rt := Q, xc := fun _ n => Q (.exc n) }
def b_cell_at : TVS := (vSeq (vIfS (vBl (vOp vLt (vVar 1) (vF1 vLen (vVar 0))))
    (vRet (vOp vIxR (vVar 0) (vVar 1)))
    vNext)
  (vRet (vC (.int 0))))
abbrev N_cell_at : List Str := ["_law_script", "_law_k"]
theorem w_cell_at : ∀ ds Q, g_cell_at ds Q → b_cell_at (En Q) (startD N_cell_at ds) := by
  rintro ds Q ⟨ns, k, rfl, h0, h⟩
  simp! only [b_cell_at]
  split
  · rename_i c
    obtain ⟨v, hv, _⟩ := at_nat (xs := ns) h0 (of_decide_eq_true c)
    exact ⟨v, hv, h v⟩
  · exact h 0
def b_name_by : TVS := (vSeq (vSet 1 (vC (.str ("abcdefghijklmnopqrstuvwxyz0123456789" : Str))))
  (vSeq (vSet 2 (vOp vAdd (vC (.int 1)) (vOp vMod (vVar 0) (vC (.int 12)))))
  (vSeq (vSet 3 (vOp vMod (vOp vDiv (vVar 0) (vC (.int 12))) (vVar 2)))
  (vSeq (vSet 4 (vOp vDiv (vVar 0) (vC (.int 288))))
  (vSeq (vSet 5 (vC (.str ("" : Str))))
  (vSeq (vFor (vRng1 (vVar 2)) (vgName 6)
    (vIfS (vAndT (vBl (vOp vEq (vOp vMod (vOp vDiv (vVar 0) (vC (.int 144))) (vC (.int 2))) (vC (.int 0)))) (vBl (vOp vNe (vVar 6) (vVar 3))))
    (vSet 5 (vOp vAdd (vVar 5) (vOp vIxR (vVar 1) (vOp vMod (vOp vDiv (vVar 0) (vC (.int 10368))) (vC (.int 36))))))
    (vSeq (vSet 5 (vOp vAdd (vVar 5) (vOp vIxR (vVar 1) (vOp vMod (vVar 4) (vC (.int 36))))))
  (vSet 4 (vOp vDiv (vVar 4) (vC (.int 36)))))))
  (vRet (vVar 5))))))))
abbrev N_name_by : List Str := ["_law_cell", "_law_signs", "_law_size", "_law_spot", "_law_mixed", "_law_name", "_law_k"]
theorem sg_at (c : Int) : ∃ d, atI NS.cps.toList (c % 36) = some d ∧ d ∈ NS.cps.toList := by
  have e : (NS.cps.toList.length : Int) = 36 := by decide +kernel
  obtain ⟨d, hd, h2⟩ := at_nat (xs := NS.cps.toList) (k := c % 36) (Int.emod_nonneg _ (by decide)) (by
    rw [e]
    exact Int.emod_lt_of_pos _ (by decide))
  exact ⟨d, hd, List.mem_of_getElem? h2⟩
theorem w_name_by : ∀ ds Q, g_name_by ds Q → b_name_by (En Q) (startD N_name_by ds) := by
  rintro ds Q ⟨c, rfl, h⟩
  simp! only [b_name_by]
  have hm0 : 0 ≤ c % 12 := Int.emod_nonneg _ (by decide)
  have hm1 : c % 12 < 12 := Int.emod_lt_of_pos _ (by decide)
  refine ⟨by omega, by omega, by omega, for_rng (fun i τ => ∃ (m : Int) (z : Str) (kv : Option R), z.length = i ∧ (∀ y ∈ z.cps.toList, y ∈ NS.cps.toList) ∧ τ = [some (.val (.int c)), some (.val (.str NS)), some (.val (.int (1 + c % 12))), some (.val (.int (c / 12 % (1 + c % 12)))), some (.val (.int m)), some (.val (.str z)), kv]) ?_ ?_ ?_⟩
  · exact ⟨_, _, _, rfl, by decide +kernel, rfl⟩
  · rintro i τ hi ⟨m, z, kv, hl, h46, rfl⟩ nx hnx
    simp! only [true_and]
    have hz : z.length + 1 ≤ sizeLine := Nat.le_trans (by omega) line1000
    have hs : NS.length ≤ sizeLine := by decide +kernel
    have fin : ∀ k m' kv', NS.length ≤ sizeLine ∧ ∃ v, atI NS.cps.toList (k % 36) = some v ∧ z.length + PySem.Str.length ⟨#[v]⟩ ≤ sizeLine ∧ nx [some (.val (.int c)), some (.val (.str NS)), some (.val (.int (1 + c % 12))), some (.val (.int (c / 12 % (1 + c % 12)))), some (.val (.int m')), some (.val (.str (z ++ ⟨#[v]⟩))), kv'] := fun k m' kv' => by
      obtain ⟨v, hv, ne⟩ := sg_at k
      refine ⟨hs, v, hv, hz, hnx _ ⟨m', _, kv', by rw [PySem.Str.length_append, hl]; rfl, fun y hy => ?_, rfl⟩⟩
      have hy' : y ∈ (z.cps ++ #[v]).toList := hy
      simp only [Array.toList_append, List.mem_append, List.mem_singleton] at hy'
      rcases hy' with q | rfl
      · exact h46 y q
      · exact ne
    split
    · split
      · exact fin _ _ _
      · exact fin _ _ _
    · exact fin _ _ _
  · rintro τ ⟨m, z, kv, hl, h46, rfl⟩
    simp! only [true_and]
    refine h z ?_
    unfold nmB nmL
    have e2 : z.cps.toList.length = z.length := rfl
    rw [decide_eq_true (by omega : 1 ≤ z.cps.toList.length), decide_eq_true (by omega : z.cps.toList.length ≤ 12), Bool.and_self, Bool.true_and, List.all_eq_true]
    exact fun y hy => decide_eq_true (h46 y hy)
def b_word_by : TVS := (vSeq (vIfS (vOrT (vBl (vOp vEq (vOp vMod (vVar 0) (vC (.int 7))) (vC (.int 1)))) (vBl (vOp vEq (vOp vMod (vVar 0) (vC (.int 7))) (vC (.int 4)))))
    (vRet (vC (.str (".." : Str))))
    vNext)
  (vSeq (vIfS (vBl (vOp vEq (vOp vMod (vVar 0) (vC (.int 7))) (vC (.int 2))))
    (vRet (vC (.str ("." : Str))))
    vNext)
  (vRet (vCallN g_name_by (vCons (vOp vDiv (vVar 0) (vC (.int 7))) vNil)))))
abbrev N_word_by : List Str := ["_law_cell"]
theorem w_word_by : ∀ ds Q, g_word_by ds Q → b_word_by (En Q) (startD N_word_by ds) := by
  rintro ds Q ⟨c, rfl, h⟩
  simp! only [b_word_by, g_name_by]
  have e2 : ("..": Str).length ≤ 12 := by decide +kernel
  have e1 : (".": Str).length ≤ 12 := by decide +kernel
  have e3 : ∀ z, nmB z = true → Q (.val (.str z)) := fun z hz => h z (nm_len hz).2
  split
  · exact h _ e2
  · split
    · exact h _ e2
    · split
      · exact h _ e1
      · exact e3
def b_words_by : TVS := (vSeq (vSetO 4 (vLst vNil))
  (vSeq (vSet 5 (vOp vMod (vVar 3) (vC (.int 2147483629))))
  (vSeq (vFor (vRng1 (vVar 2)) (vgName 6)
    (vSeq (vSet 5 (vOp vMod (vOp vAdd (vOp vAdd (vOp vMul (vVar 5) (vC (.int 16807))) (vOp vMul (vC (.int 11)) (vVar 6))) (vC (.int 3))) (vC (.int 2147483629))))
  (vIfS (vBl (vOp vLt (vOp vAdd (vVar 1) (vVar 6)) (vF1 vLen (vVar 0))))
    (vAppend 4 (vCallN g_word_by (vCons (vOp vIxR (vVar 0) (vOp vAdd (vVar 1) (vVar 6))) vNil)))
    (vAppend 4 (vCallN g_word_by (vCons (vVar 5) vNil))))))
  (vRetO 4))))
abbrev N_words_by : List Str := ["_law_script", "_law_at", "_law_count", "_law_seed", "_law_words", "_law_mixed", "_law_k"]
theorem w_words_by : ∀ ds Q, g_words_by ds Q → b_words_by (En Q) (startD N_words_by ds) := by
  rintro ds Q ⟨ns, a, c, s, rfl, ha, hc, hc2, h⟩
  simp! only [b_words_by]
  refine ⟨by omega, by omega, for_rng (fun i τ => ∃ (ws : List Str) (m : Int) (kv : Option R), ws.length = i ∧ (∀ z ∈ ws, z.length ≤ 12) ∧ 0 ≤ m ∧ m < 2147483629 ∧ τ = [some (.val (.scr ns)), some (.val (.int a)), some (.val (.int c)), some (.val (.int s)), some (.own (.lst (ws.map D.str))), some (.val (.int m)), kv]) ?_ ?_ ?_⟩
  · exact ⟨[], _, _, rfl, by simp, Int.emod_nonneg _ (by decide), Int.emod_lt_of_pos _ (by decide), rfl⟩
  · rintro i τ hi ⟨ws, m, kv, hl, hall, hm0, hm1, rfl⟩ nx hnx
    simp! only [g_word_by]
    refine ⟨.inl ⟨by omega, by omega⟩, .inl ⟨by decide, by decide⟩, ?_⟩
    have h0 : ∀ v : Int, 0 ≤ v % 2147483629 := fun v => Int.emod_nonneg _ (by decide)
    have h1 : ∀ v : Int, v % 2147483629 < 2147483629 := fun v => Int.emod_lt_of_pos _ (by decide)
    have hz : ws.length < sizeLine := small1000 (by omega)
    have al : ∀ z : Str, z.length ≤ 12 → ∀ y ∈ ws ++ [z], y.length ≤ 12 := fun z hz y hy => by
      rcases List.mem_append.mp hy with m | m
      · exact hall y m
      · rw [List.mem_singleton.mp m]; exact hz
    split
    · rename_i hc'
      obtain ⟨v, hv, _⟩ := at_nat (xs := ns) (k := a + (i : Int)) (by omega) (of_decide_eq_true hc')
      exact ⟨v, hv, fun z hnm => ⟨hz, hnx _ ⟨ws ++ [z], _, _, by simp [hl], al z hnm, h0 _, h1 _, rfl⟩⟩⟩
    · exact fun z hnm => ⟨hz, hnx _ ⟨ws ++ [z], _, _, by simp [hl], al z hnm, h0 _, h1 _, rfl⟩⟩
  · rintro τ ⟨ws, m, kv, hl, hall, _, _, rfl⟩
    simp! only [true_and]
    exact h ws hl hall
def b_sign_by : TVS := (vSeq (vSet 1 (vC (.str (" !\"#$&'()*+,-./0123456789:;<=>?@ABCDEFGHIJKLMNOPQRSTUVWXYZ[\\]^_`" : Str))))
  (vSeq (vSet 1 (vOp vAdd (vVar 1) (vC (.str ("abcdefghijklmnopqrstuvwxyz{|}~" : Str)))))
  (vSeq (vIfS (vBl (vOp vEq (vOp vMod (vVar 0) (vC (.int 5))) (vC (.int 1))))
    (vRet (vC (.str ("/" : Str))))
    vNext)
  (vSeq (vIfS (vBl (vOp vEq (vOp vMod (vVar 0) (vC (.int 5))) (vC (.int 2))))
    (vRet (vC (.str ("." : Str))))
    vNext)
  (vRet (vOp vIxR (vVar 1) (vOp vMod (vOp vDiv (vVar 0) (vC (.int 5))) (vF1 vLen (vVar 1)))))))))
abbrev N_sign_by : List Str := ["_law_cell", "_law_some"]
theorem w_sign_by : ∀ ds Q, g_sign_by ds Q → b_sign_by (En Q) (startD N_sign_by ds) := by
  rintro ds Q ⟨c, rfl, h⟩
  simp! only [b_sign_by]
  generalize hs : (Str.ofString " !\"#$&'()*+,-./0123456789:;<=>?@ABCDEFGHIJKLMNOPQRSTUVWXYZ[\\]^_`" ++ Str.ofString "abcdefghijklmnopqrstuvwxyz{|}~") = S
  have hl : S.length = 94 := by rw [← hs]; decide +kernel
  refine ⟨by decide +kernel, ?_⟩
  split
  · exact h _ (by decide +kernel)
  · split
    · exact h _ (by decide +kernel)
    · refine ⟨by rw [hl]; decide, by omega, by rw [hl]; decide, ?_⟩
      obtain ⟨v, hv, _⟩ := at_nat (xs := S.cps.toList) (k := c / 5 % (S.length : Int)) (Int.emod_nonneg _ (by omega)) (Int.emod_lt_of_pos _ (by omega))
      exact ⟨v, hv, h _ rfl⟩
def b_text_by : TVS := (vSeq (vSet 1 (vOp vMod (vCallN g_cell_at (vCons (vVar 0) (vCons (vC (.int 0)) vNil))) (vC (.int 7))))
  (vSeq (vIfS (vBl (vOp vEq (vOp vMod (vOp vDiv (vCallN g_cell_at (vCons (vVar 0) (vCons (vC (.int 0)) vNil))) (vC (.int 7))) (vC (.int 4))) (vC (.int 1))))
    (vSet 1 (vOp vMod (vOp vDiv (vCallN g_cell_at (vCons (vVar 0) (vCons (vC (.int 0)) vNil))) (vC (.int 28))) (vC (.int 46))))
    vNext)
  (vSeq (vSet 2 (vJoin (vC (.str ("/" : Str))) (vCallN g_words_by (vCons (vVar 0) (vCons (vC (.int 6)) (vCons (vVar 1) (vCons (vCallN g_cell_at (vCons (vVar 0) (vCons (vC (.int 1)) vNil))) vNil)))))))
  (vSeq (vIfS (vBl (vOp vEq (vOp vMod (vCallN g_cell_at (vCons (vVar 0) (vCons (vC (.int 2)) vNil))) (vC (.int 2))) (vC (.int 0))))
    (vSet 2 (vOp vAdd (vC (.str ("/" : Str))) (vVar 2)))
    vNext)
  (vSeq (vSet 3 (vOp vMod (vOp vDiv (vCallN g_cell_at (vCons (vVar 0) (vCons (vC (.int 2)) vNil))) (vC (.int 2))) (vC (.int 9))))
  (vSeq (vSet 4 (vOp vMod (vCallN g_cell_at (vCons (vVar 0) (vCons (vC (.int 3)) vNil))) (vOp vAdd (vF1 vLen (vVar 2)) (vC (.int 1)))))
  (vSeq (vSet 5 (vCallN g_sign_by (vCons (vCallN g_cell_at (vCons (vVar 0) (vCons (vC (.int 4)) vNil))) vNil)))
  (vSeq (vIfS (vBl (vOp vEq (vVar 3) (vC (.int 1))))
    (vRet (vOp vAdd (vVar 2) (vC (.str ("/" : Str)))))
    vNext)
  (vSeq (vIfS (vBl (vOp vEq (vVar 3) (vC (.int 2))))
    (vRet (vOp vAdd (vOp vAdd (vSlice (vVar 2) vNoPart (vPart (vVar 4))) (vVar 5)) (vSlice (vVar 2) (vPart (vOp vAdd (vVar 4) (vC (.int 1)))) vNoPart)))
    vNext)
  (vSeq (vIfS (vBl (vOp vEq (vVar 3) (vC (.int 3))))
    (vRet (vOp vAdd (vOp vAdd (vSlice (vVar 2) vNoPart (vPart (vVar 4))) (vVar 5)) (vSlice (vVar 2) (vPart (vVar 4)) vNoPart)))
    vNext)
  (vSeq (vIfS (vBl (vOp vEq (vVar 3) (vC (.int 4))))
    (vRet (vOp vAdd (vC (.str ("/" : Str))) (vVar 2)))
    vNext)
  (vSeq (vIfS (vOrT (vBl (vOp vEq (vVar 3) (vC (.int 5)))) (vBl (vOp vEq (vVar 3) (vC (.int 6)))))
    (vSeq (vSet 6 (vOp vMod (vOp vDiv (vCallN g_cell_at (vCons (vVar 0) (vCons (vC (.int 3)) vNil))) (vC (.int 3))) (vC (.int 299))))
  (vSeq (vIfS (vBl (vOp vGt (vOp vMod (vCallN g_cell_at (vCons (vVar 0) (vCons (vC (.int 3)) vNil))) (vC (.int 3))) (vC (.int 0))))
    (vSet 6 (vOp vAdd (vC (.int 38)) (vOp vMod (vVar 6) (vC (.int 4)))))
    vNext)
  (vRet (vOp vAdd (vOp vAdd (vStrip (vSlice (vVar 2) vNoPart (vPart (vC (.int 1)))) (vC (.str ("." : Str)))) (vOp vMulS (vC (.str ("a/" : Str))) (vVar 6))) (vC (.str ("a" : Str)))))))
    vNext)
  (vRet (vVar 2))))))))))))))
abbrev N_text_by : List Str := ["_law_script", "_law_count", "_law_text", "_law_kind", "_law_place", "_law_sign", "_law_more"]
theorem sum12 : ∀ ws : List Str, (∀ z ∈ ws, z.length ≤ 12) → (ws.map (·.length)).sum ≤ 12 * ws.length
  | [], _ => Nat.le_refl _
  | w :: ws, hz => by
    have := sum12 ws fun z m => hz z (List.mem_cons_of_mem _ m)
    have := hz w (List.mem_cons_self ..)
    rw [List.map_cons, List.sum_cons, List.length_cons]
    omega
theorem w_text_by : ∀ ds Q, g_text_by ds Q → b_text_by (En Q) (startD N_text_by ds) := by
  rintro ds Q ⟨ns, rfl, h⟩
  have e1 : ("/" : Str).length = 1 := by decide +kernel
  refine v_seq ?_
  dsimp! only [b_text_by, g_cell_at]
  refine fun c0 => ?_
  refine v_cut (fun τ => ∃ c : Int, 0 ≤ c ∧ c ≤ 45 ∧ τ = [some (.val (.scr ns)), some (.val (.int c)), none, none, none, none, none]) ?_ fun nx hnx => ?now
  case now =>
    dsimp! only [g_cell_at]
    refine fun c1 => ?_
    split
    · exact fun c2 => hnx _ ⟨_, Int.emod_nonneg _ (by decide), by have := Int.emod_lt_of_pos (c2 / 28) (show (0 : Int) < 46 by decide); omega, rfl⟩
    · exact hnx _ ⟨_, Int.emod_nonneg _ (by decide), by have := Int.emod_lt_of_pos c0 (show (0 : Int) < 7 by decide); omega, rfl⟩
  rintro τ ⟨c, hc0, hc1, rfl⟩
  refine v_cut (fun τ => ∃ z : Str, z.length ≤ 600 ∧ τ = [some (.val (.scr ns)), some (.val (.int c)), some (.val (.str z)), none, none, none, none]) ?_ fun nx hnx => ?now
  case now =>
    dsimp! only [g_cell_at, g_words_by]
    refine fun c2 => ⟨hc0, hc1, fun ws hl hz => ?_⟩
    have hg := glue_len "/" ws
    have hs := sum12 ws hz
    rw [e1] at hg
    refine ⟨ws, .inl rfl, by rw [e1]; omega, hnx _ ⟨_, by omega, rfl⟩⟩
  rintro τ ⟨z, hz, rfl⟩
  refine v_cut (fun τ => ∃ z : Str, z.length ≤ 700 ∧ τ = [some (.val (.scr ns)), some (.val (.int c)), some (.val (.str z)), none, none, none, none]) ?_ fun nx hnx => ?now
  case now =>
    dsimp! only [g_cell_at]
    refine fun c2 => ?_
    split
    · exact ⟨Nat.le_trans (by omega) line1000, hnx _ ⟨_, by rw [PySem.Str.length_append]; omega, rfl⟩⟩
    · exact hnx _ ⟨_, by omega, rfl⟩
  clear hz z
  rintro τ ⟨z, hz, rfl⟩
  have sz : z.length ≤ sizeLine := Nat.le_trans (by omega) line1000
  have sl : ∀ l u, (Txt.slice z l u).length ≤ 700 := fun l u => Nat.le_trans (Txt.slice_le z l u) hz
  refine v_seq ?_
  dsimp! only [g_cell_at]
  refine fun c3 => ?_
  generalize c3 / 2 % 9 = kind
  refine v_seq ?_
  dsimp! only [g_cell_at]
  refine fun c4 => ⟨sz, by omega, ?_⟩
  generalize c4 % ((z.length : Int) + 1) = place
  refine v_seq ?_
  dsimp! only [g_cell_at, g_sign_by]
  refine fun c5 y hy => ?_
  refine v_seq ?_
  dsimp! only [true_and]
  split
  · refine ⟨Nat.le_trans (by omega) line1000, h _ ?_⟩
    rw [PySem.Str.length_append]
    omega
  refine v_seq ?_
  dsimp! only [true_and]
  split
  · have a1 := sl none (some place)
    have a2 := sl (some (place + 1)) none
    refine ⟨sz, Nat.le_trans (by omega) line1000, sz, Nat.le_trans (m := 2000) ?_ (by decide), h _ ?_⟩
    · rw [PySem.Str.length_append]; omega
    · rw [PySem.Str.length_append, PySem.Str.length_append]; omega
  refine v_seq ?_
  dsimp! only [true_and]
  split
  · have a1 := sl none (some place)
    have a2 := sl (some place) none
    refine ⟨sz, Nat.le_trans (by omega) line1000, sz, Nat.le_trans (m := 2000) ?_ (by decide), h _ ?_⟩
    · rw [PySem.Str.length_append]; omega
    · rw [PySem.Str.length_append, PySem.Str.length_append]; omega
  refine v_seq ?_
  dsimp! only [true_and]
  split
  · refine ⟨Nat.le_trans (by omega) line1000, h _ ?_⟩
    rw [PySem.Str.length_append]
    omega
  have more : vSeq (vSet 6 (vOp vMod (vOp vDiv (vCallN g_cell_at (vCons (vVar 0) (vCons (vC (.int 3)) vNil))) (vC (.int 3))) (vC (.int 299))))
    (vSeq (vIfS (vBl (vOp vGt (vOp vMod (vCallN g_cell_at (vCons (vVar 0) (vCons (vC (.int 3)) vNil))) (vC (.int 3))) (vC (.int 0))))
      (vSet 6 (vOp vAdd (vC (.int 38)) (vOp vMod (vVar 6) (vC (.int 4)))))
      vNext)
    (vRet (vOp vAdd (vOp vAdd (vStrip (vSlice (vVar 2) vNoPart (vPart (vC (.int 1)))) (vC (.str ("." : Str)))) (vOp vMulS (vC (.str ("a/" : Str))) (vVar 6))) (vC (.str ("a" : Str))))))
    { nx := vRet (vVar 2) (En Q), rt := Q } [some (.val (.scr ns)), some (.val (.int c)), some (.val (.str z)), some (.val (.int kind)), some (.val (.int place)), some (.val (.str y)), none] := by
    refine v_seq ?_
    dsimp! only [g_cell_at]
    refine fun c6 => ?_
    refine v_cut (fun τ => ∃ m : Int, 0 ≤ m ∧ m ≤ 298 ∧ τ = [some (.val (.scr ns)), some (.val (.int c)), some (.val (.str z)), some (.val (.int kind)), some (.val (.int place)), some (.val (.str y)), some (.val (.int m))]) ?_ fun nx hnx => ?now
    case now =>
      dsimp! only [g_cell_at]
      refine fun c7 => ?_
      have m0 := Int.emod_nonneg (c6 / 3) (show (299 : Int) ≠ 0 by decide)
      have m1 := Int.emod_lt_of_pos (c6 / 3) (show (0 : Int) < 299 by decide)
      have m2 := Int.emod_nonneg (c6 / 3 % 299) (show (4 : Int) ≠ 0 by decide)
      have m3 := Int.emod_lt_of_pos (c6 / 3 % 299) (show (0 : Int) < 4 by decide)
      split
      · exact hnx _ ⟨_, by omega, by omega, rfl⟩
      · exact hnx _ ⟨_, by omega, by omega, rfl⟩
    rintro τ ⟨m, hm0, hm1, rfl⟩
    dsimp! only [true_and]
    have a1 := sl none (some 1)
    have a2 := PyProof.Rows.len_stripChars (Txt.slice z none (some 1)) "."
    have e2 : ("a/" : Str).length = 2 := by decide +kernel
    have e3 : ("a" : Str).length = 1 := by decide +kernel
    have a3 : (Txt.mul "a/" m).length ≤ 2 * 298 := PyProof.Rows.len_mul_leN (Nat.le_of_eq e2) hm1
    have ok : MulOk "a/" m := by
      have d1 : ¬ m < -(2 ^ 63 : Int) := by omega
      have d2 : ¬ m ≥ 2 ^ 63 := by omega
      refine ⟨by rw [decide_eq_false d1, decide_eq_false d2]; rfl, fun p1 _ q => ?_, fun _ _ => ?_⟩
      · rw [e2] at q
        have : (2 : Int) ≤ (2 ^ 63 - 1) / m := by
          rw [Int.le_ediv_iff_mul_le (by omega)]
          omega
        have q' : ((2 : Nat) : Int) > (2 ^ 63 - 1) / m := q
        omega
      · rw [e2]
        exact decide_eq_false (Nat.not_lt.mpr (Nat.le_trans (m := 2000) (by omega) (by decide)))
    refine ⟨sz, Nat.le_trans a1 (Nat.le_trans (by decide) line1000), ok, Nat.le_trans (m := 2000) (by omega) (by decide), Nat.le_trans (m := 2000) ?_ (by decide), h _ ?_⟩
    · rw [PySem.Str.length_append]; omega
    · rw [PySem.Str.length_append, PySem.Str.length_append]; omega
  refine v_seq ?_
  dsimp! only [true_and]
  split
  · exact more
  · split
    · exact more
    · exact h _ (by omega)
def b_is_name : TVS := (vSeq (vIfS (vNotT (vBl (vIsin .str (vVar 0))))
    (vRet (vC (.bl false)))
    vNext)
  (vSeq (vIfS (vNotT (vBl (vChain vLe vLe (vC (.int 1)) (vF1 vLen (vVar 0)) (vC (.int 12)))))
    (vRet (vC (.bl false)))
    vNext)
  (vRet (vF1 (vAll fun bs => bs.all id) (vComp (vItems (vVar 0)) (vgName 1) (fun _ Q => Q true) (vOp (vIn id) (vVar 1) (vC (.str ("abcdefghijklmnopqrstuvwxyz0123456789" : Str)))) 1)))))
abbrev N_is_name : List Str := ["thing"]
theorem w_is_name : ∀ ds Q, g_is_name ds Q → b_is_name (En Q) (startD N_is_name ds) := by
  rintro ds Q ⟨z, rfl, hz, h⟩
  have sz : z.length ≤ sizeLine := Nat.le_trans hz (by decide)
  unfold nmB nmL at h
  have el : z.cps.toList.length = z.length := rfl
  rw [el] at h
  simp! only [b_is_name]
  refine ⟨sz, ?_⟩
  by_cases h1 : 1 ≤ z.length
  · rw [decide_eq_true (by omega : 1 ≤ (z.length : Int))]
    refine iteT ?_
    rw [decide_eq_true h1, Bool.true_and] at h
    by_cases h2 : z.length ≤ 12
    · rw [decide_eq_true (by omega : (z.length : Int) ≤ 12)]
      refine iteF ?_
      rw [decide_eq_true h2, Bool.true_and] at h
      refine comp_map (fun c => .bl (decide (c ∈ NS.cps.toList))) z.cps.toList (Nat.le_trans (Nat.le_of_eq el) sz) (fun c _ Y N hY => ?_) ?_
      · simp! only [true_and]
        show Y (.val (.bl (!(Builtin.Str.occurrences NS ⟨#[c]⟩ 0 NS.length 1).isEmpty)))
        rw [in_NS]
        exact hY
      · simp! only [true_and]
        refine ⟨z.cps.toList.map fun c => decide (c ∈ NS.cps.toList), ?_, ?_⟩
        · rw [List.map_map]
          rfl
        · rw [List.all_map]
          exact h
    · rw [decide_eq_false (by omega : ¬ (z.length : Int) ≤ 12)]
      rw [decide_eq_false h2, Bool.false_and] at h
      exact iteT h
  · rw [decide_eq_false (by omega : ¬ 1 ≤ (z.length : Int))]
    rw [decide_eq_false h1, Bool.false_and, Bool.false_and] at h
    exact iteF h
def b_l_is_word : TVS := (vSeq (vFor (vItems (vVar 0)) (vgName 1)
    (vIfS (vBl (vOp (vIn (!·)) (vVar 1) (vC (.str ("0123456789abcdefghijklmnopqrstuvwxyz" : Str)))))
    (vRet (vOrE (vOp vEq (vVar 0) (vC (.str ("." : Str)))) (vOp vEq (vVar 0) (vC (.str (".." : Str))))))
    vNext))
  (vRet (vChain vLt vLe (vC (.int 0)) (vF1 vLen (vVar 0)) (vC (.int 12)))))
abbrev N_l_is_word : List Str := ["_law_word", "_law_sign"]
theorem w_l_is_word : ∀ ds Q, g_l_is_word ds Q → b_l_is_word (En Q) (startD N_l_is_word ds) := by
  rintro ds Q ⟨z, rfl, hz, h⟩
  have sz : z.length ≤ sizeLine := Nat.le_trans hz (by decide)
  have el : z.cps.toList.length = z.length := rfl
  simp! only [b_l_is_word]
  refine for_map (fun i τ => ∃ kv, τ = [some (.val (.str z)), kv] ∧ ∀ y ∈ z.cps.toList.take i, y ∈ NS.cps.toList) ⟨none, rfl, by simp⟩ ?_ ?_
  · rintro i c τ hc ⟨kv, rfl, hall⟩ nx hnx
    simp! only [true_and]
    show if (!(!(Builtin.Str.occurrences NT ⟨#[c]⟩ 0 NT.length 1).isEmpty)) = true then _ else _
    rw [in_NT]
    by_cases hm : c ∈ NS.cps.toList
    · rw [decide_eq_true hm]
      refine iteF (hnx _ ⟨_, rfl, fun y hy => ?_⟩)
      rw [List.take_succ, hc] at hy
      rcases List.mem_append.mp hy with m | m
      · exact hall y m
      · have : y = c := by simpa using m
        rw [this]
        exact hm
    · rw [decide_eq_false hm]
      refine iteT ?_
      have e : nmB z = false := by
        unfold nmB nmL
        have : (z.cps.toList.all fun c => decide (c ∈ NS.cps.toList)) = false := by
          rw [List.all_eq_false]
          exact ⟨c, List.mem_of_getElem? hc, by simpa using hm⟩
        rw [this, Bool.and_false]
      unfold wdB at h
      rw [e, Bool.or_false] at h
      have e5 : decide (z ∈ [Str.ofString ".", Str.ofString ".."]) = (decide (z = Str.ofString ".") || decide (z = Str.ofString "..")) := by
        rw [← Bool.decide_or]
        exact decide_eq_decide.mpr (by simp)
      rw [e5] at h
      by_cases q : z = Str.ofString "."
      · rw [decide_eq_true q] at h ⊢
        exact iteT h
      · rw [decide_eq_false q] at h ⊢
        exact iteF h
  · rintro τ ⟨kv, rfl, hall⟩
    rw [List.take_length] at hall
    have nd : ¬ z ∈ [(".": Str), ".."] := fun m => by
      have hd : (46 : Nat) ∈ z.cps.toList := by
        have all : ∀ y ∈ [(".": Str), ".."], (46 : Nat) ∈ y.cps.toList := by decide +kernel
        exact all z m
      have := hall 46 hd
      exact absurd this (by decide +kernel)
    unfold wdB at h
    rw [decide_eq_false nd, Bool.false_or] at h
    unfold nmB nmL at h
    have ha : (z.cps.toList.all fun c => decide (c ∈ NS.cps.toList)) = true := List.all_eq_true.mpr fun y hy => decide_eq_true (hall y hy)
    rw [ha, Bool.and_true, el] at h
    simp! only [true_and]
    refine ⟨sz, ?_⟩
    by_cases h1 : 1 ≤ z.length
    · rw [decide_eq_true (by omega : 0 < (z.length : Int))]
      rw [decide_eq_true h1, Bool.true_and] at h
      refine iteT ?_
      have e : decide ((z.length : Int) ≤ 12) = decide (z.length ≤ 12) := decide_eq_decide.mpr (by omega)
      rw [e]
      exact h
    · rw [decide_eq_false (by omega : ¬ 0 < (z.length : Int))]
      rw [decide_eq_false h1, Bool.false_and] at h
      exact iteF h
def b_is_word : TVS := (vRet (vOrE (vOp (vIn id) (vVar 0) (vTup (vCons (vC (.str ("." : Str))) (vCons (vC (.str (".." : Str))) vNil)))) (vCallN g_is_name (vCons (vVar 0) vNil))))
abbrev N_is_word : List Str := ["text"]
theorem w_is_word : ∀ ds Q, g_is_word ds Q → b_is_word (En Q) (startD N_is_word ds) := by
  rintro ds Q ⟨z, rfl, hz, h⟩
  unfold wdB at h
  simp! only [b_is_word, g_is_name]
  refine ⟨by decide, ?_⟩
  show if decide (z ∈ [(".": Str), ".."]) = true then _ else _
  by_cases hm : z ∈ [(".": Str), ".."]
  · rw [decide_eq_true hm] at h ⊢
    exact iteT h
  · rw [decide_eq_false hm] at h ⊢
    exact iteF ⟨hz, h⟩
def b_words_of : TVS := (vSeq (vIfS (vBl (vOp vEq (vVar 0) (vC (.str ("/" : Str)))))
    (vRet (vTup (vCons (vC (.bl true)) (vCons (vLst vNil) vNil))))
    vNext)
  (vSeq (vSet 1 (vStarts (vVar 0) (vC (.str ("/" : Str)))))
  (vSeq (vSet 2 (vSplit (vIfE (vBl (vVar 1)) (vSlice (vVar 0) (vPart (vC (.int 1))) vNoPart) (vVar 0)) (vC (.str ("/" : Str)))))
  (vSeq (vIfS (vOrT (vBl (vOp vGt (vF1 vLen (vVar 2)) (vC (.int 40)))) (vNotT (vBl (vF1 (vAll fun bs => bs.all id) (vComp (vItems (vVar 2)) (vgName 3) (fun _ Q => Q true) (vCallN g_is_word (vCons (vVar 3) vNil)) 1)))))
    (vRaise "NoWay" (vCons (vVar 0) vNil))
    vNext)
  (vRet (vTup (vCons (vVar 1) (vCons (vVar 2) vNil))))))))
abbrev N_words_of : List Str := ["text", "rooted", "words"]
theorem ifT {c : Prop} [Decidable c] {p q : Prop} (h : c) (hp : p) : if c then p else q := by rw [if_pos h]; exact hp
theorem ifF {c : Prop} [Decidable c] {p q : Prop} (h : ¬ c) (hq : q) : if c then p else q := by rw [if_neg h]; exact hq
theorem wsW_len (z : Str) : (wsW z).length ≤ z.length + 1 ∧ ∀ w ∈ wsW z, w.length ≤ z.length := by
  have el : z.cps.toList.length = z.length := rfl
  have key : ∀ l : List Nat, l.length ≤ z.length → ((sp 47 l).map mkS).length ≤ z.length + 1 ∧ ∀ w ∈ (sp 47 l).map mkS, w.length ≤ z.length := fun l hl => by
    have := sp_len 47 l
    refine ⟨by rw [List.length_map]; omega, fun w hw => ?_⟩
    obtain ⟨p, hp, rfl⟩ := List.mem_map.mp hw
    rw [mkS_len]
    exact Nat.le_trans (sp_piece 47 l p hp) hl
  unfold wsW
  split
  · exact key _ (by rw [List.length_drop]; omega)
  · exact key _ (Nat.le_of_eq el)
theorem w_words_of : ∀ ds Q, g_words_of ds Q → b_words_of (EnX Q) (startD N_words_of ds) := by
  rintro ds Q ⟨z, rfl, hz, hy, hn⟩
  have sz : z.length ≤ sizeLine := Nat.le_trans hz (by decide)
  have el : z.cps.toList.length = z.length := rfl
  unfold wordsW at hy hn
  obtain ⟨w1, w2⟩ := wsW_len z
  refine v_seq ?_
  dsimp! only [b_words_of]
  by_cases h0 : z = "/"
  · rw [decide_eq_true h0]
    exact iteT ⟨by decide, hy true [] (by rw [if_pos h0])⟩
  rw [decide_eq_false h0]
  rw [if_neg h0] at hy hn
  refine iteF ?_
  refine v_seq ?_
  dsimp! only [true_and]
  have hr : Txt.startswith z "/" = rt z := by rw [slash, starts_one]; rfl
  rw [hr]
  have sl : ("/" : Str).length = 1 := by decide +kernel
  have rest : vSeq
      (vIfS (vOrT (vBl (vOp vGt (vF1 vLen (vVar 2)) (vC (.int 40)))) (vNotT (vBl (vF1 (vAll fun bs => bs.all id) (vComp (vItems (vVar 2)) (vgName 3) (fun _ Q => Q true) (vCallN g_is_word (vCons (vVar 3) vNil)) 1)))))
        (vRaise "NoWay" (vCons (vVar 0) vNil)) vNext)
      (vRet (vTup (vCons (vVar 1) (vCons (vVar 2) vNil)))) (EnX Q) [some (.val (.str z)), some (.val (.bl (rt z))), some (.val (.lst ((wsW z).map D.str)))] := by
    refine v_seq ?_
    dsimp! only [true_and]
    have one : 1 ≤ sizeLine := by decide
    by_cases hl : (wsW z).length ≤ 40
    · rw [decide_eq_false (by omega : ¬ 40 < ((wsW z).length : Int))]
      refine iteF ?_
      refine comp_map (fun w => .bl (wdB w)) (wsW z) (Nat.le_trans hl (by decide)) (fun w hw Y N hY => ?_) ?_
      · simp! only [g_is_word]
        exact ⟨Nat.le_trans (w2 w hw) hz, hY⟩
      · simp! only [true_and]
        refine ⟨(wsW z).map wdB, by rw [List.map_map]; rfl, ?_⟩
        rw [List.all_map]
        show if (!(wsW z).all wdB) = true then _ else _
        by_cases ha : (wsW z).all wdB = true
        · rw [ha]
          refine iteF ⟨by decide, hy _ _ (by rw [if_pos ⟨hl, ha⟩])⟩
        · rw [Bool.eq_false_iff.mpr ha]
          exact iteT ⟨one, hn (by rw [if_neg (fun q => ha q.2)])⟩
    · rw [decide_eq_true (by omega : 40 < ((wsW z).length : Int))]
      exact iteT ⟨one, hn (by rw [if_neg (fun q => hl q.1)])⟩
  have hws : (wsW z).length ≤ sizeLine := Nat.le_trans w1 (Nat.le_trans (by omega) (show 5001 ≤ sizeLine by decide))
  refine v_seq ?_
  dsimp! only [true_and]
  by_cases hrt : rt z = true
  · have e : Txt.split (Txt.slice z (some 1) none) "/" = wsW z := by
      rw [slash, split_eq _ (by decide), slice_list]
      unfold wsW
      rw [if_pos hrt, show (some 1 : Option Int) = some ((1 : Nat) : Int) from rfl, cutL_drop]
    refine ifT hrt ⟨sz, by rw [sl]; rfl, Nat.le_trans (Txt.slice_le z _ _) sz, by rw [e]; exact hws, ?_⟩
    rw [e]
    exact rest
  · have e : Txt.split z "/" = wsW z := by
      rw [slash, split_eq _ (by decide)]
      unfold wsW
      rw [if_neg hrt]
    refine ifF hrt ⟨by rw [sl]; rfl, sz, by rw [e]; exact hws, ?_⟩
    rw [e]
    exact rest
def b_due : TVS := (vSeq (vSetO 1 (vLst (vCons (vC (.str ("" : Str))) vNil)))
  (vSeq (vFor (vItems (vVar 0)) (vgName 2)
    (vIfS (vBl (vOp vEq (vVar 2) (vC (.str ("/" : Str)))))
    (vAppend 1 (vC (.str ("" : Str))))
    (vSetI 1 (vNeg (vC (.int 1))) (vOp vAdd (vOp vIxR (vVar 1) (vNeg (vC (.int 1)))) (vVar 2)))))
  (vSeq (vIfS (vBl (vOp vEq (vSlice (vVar 0) vNoPart (vPart (vC (.int 1)))) (vC (.str ("/" : Str)))))
    (vSetO 1 (vSlice (vVar 1) (vPart (vC (.int 1))) vNoPart))
    vNext)
  (vSeq (vIfS (vBl (vOp vEq (vVar 0) (vC (.str ("/" : Str)))))
    (vSetO 1 (vLst vNil))
    vNext)
  (vFrz 1 (vSeq (vFor (vItems (vVar 1)) (vgName 3)
    (vIfS (vOrT (vNotT (vBl (vCallN g_l_is_word (vCons (vVar 3) vNil)))) (vBl (vOp vGt (vF1 vLen (vVar 1)) (vC (.int 40)))))
    (vRet (vC .non))
    vNext))
  (vRet (vTup (vCons (vOp vEq (vSlice (vVar 0) vNoPart (vPart (vC (.int 1)))) (vC (.str ("/" : Str)))) (vCons (vVar 1) vNil))))))))))
abbrev N_due : List Str := ["_law_text", "_law_words", "_law_sign", "_law_word"]
theorem sp_snoc_cut (c : Nat) : ∀ xs, sp c (xs ++ [c]) = sp c xs ++ [[]]
  | [] => by simp [sp]
  | y :: xs => by
    have ih := sp_snoc_cut c xs
    rw [List.cons_append, sp, sp, ih]
    split
    · rfl
    · cases h : sp c xs with
      | nil => exact absurd h (sp_ne c xs)
      | cons p ps => rfl
theorem sp_snoc {c x : Nat} (h : ¬ x = c) : ∀ xs, ∃ ps p, sp c xs = ps ++ [p] ∧ sp c (xs ++ [x]) = ps ++ [p ++ [x]]
  | [] => ⟨[], [], rfl, by simp [sp, h]⟩
  | y :: xs => by
    obtain ⟨ps, p, e1, e2⟩ := sp_snoc h xs
    by_cases hy : y = c
    · exact ⟨[] :: ps, p, by rw [sp, if_pos hy, e1]; rfl, by rw [List.cons_append, sp, if_pos hy, e2]; rfl⟩
    · cases ps with
      | nil => exact ⟨[], y :: p, by rw [sp, if_neg hy, e1]; rfl, by rw [List.cons_append, sp, if_neg hy, e2]; rfl⟩
      | cons q ps => exact ⟨(y :: q) :: ps, p, by rw [sp, if_neg hy, e1]; rfl, by rw [List.cons_append, sp, if_neg hy, e2]; rfl⟩
theorem w_due : ∀ ds Q, g_due ds Q → b_due (En Q) (startD N_due ds) := by
  rintro ds Q ⟨z, rfl, hz, hy, hn⟩
  have sz : z.length ≤ sizeLine := Nat.le_trans hz (by decide)
  have el : z.cps.toList.length = z.length := rfl
  obtain ⟨w1, w2⟩ := wsW_len z
  unfold wordsW at hy hn
  refine v_seq ?_
  dsimp! only [b_due]
  refine ⟨by decide, ?_⟩
  refine v_seq ?_
  dsimp! only [true_and]
  have e1 : Txt.slice z none (some 1) = "/" ↔ rt z = true := by
    unfold rt
    constructor
    · intro h
      have h2 := congrArg (·.cps.toList) h
      rw [slice_list, show (some 1 : Option Int) = some ((1 : Nat) : Int) from rfl, cutL_take, slash] at h2
      cases hl : z.cps.toList with
      | nil => rw [hl] at h2; cases h2
      | cons x xs =>
        rw [hl] at h2
        have : x = 47 := by simpa using h2
        rw [this]
        rfl
    · intro h
      apply str_ext
      rw [slice_list, show (some 1 : Option Int) = some ((1 : Nat) : Int) from rfl, cutL_take, slash]
      cases hl : z.cps.toList with
      | nil => rw [hl] at h; cases h
      | cons x xs =>
        rw [hl] at h
        have : x = 47 := by simpa using h
        rw [this]
        rfl
  have lk : ∀ i, ((sp 47 (z.cps.toList.take i)).map mkS).length ≤ 5001 ∧ ∀ w ∈ (sp 47 (z.cps.toList.take i)).map mkS, w.length ≤ 5000 := fun i => by
    have a1 := sp_len 47 (z.cps.toList.take i)
    rw [List.length_take] at a1
    refine ⟨by rw [List.length_map]; omega, fun w hw => ?_⟩
    obtain ⟨p, hp, rfl⟩ := List.mem_map.mp hw
    have a2 := sp_piece 47 _ p hp
    rw [List.length_take] at a2
    rw [mkS_len]
    omega
  refine for_map (fun i τ => ∃ kv, τ = [some (.val (.str z)), some (.own (.lst (((sp 47 (z.cps.toList.take i)).map mkS).map D.str))), kv, none]) ⟨none, rfl⟩ ?_ ?_
  · rintro i c τ hc ⟨kv, rfl⟩ nx hnx
    simp! only [true_and]
    have hlk := lk i
    rw [List.length_map] at hlk
    have et : z.cps.toList.take (i + 1) = z.cps.toList.take i ++ [c] := by rw [List.take_succ, hc]; rfl
    rw [et] at hnx
    by_cases hc47 : c = 47
    · subst hc47
      rw [decide_eq_true slash.symm]
      refine iteT ⟨Nat.lt_of_le_of_lt hlk.1 (by decide), hnx _ ⟨some (.val (.str ⟨#[47]⟩)), ?_⟩⟩
      simp only [sp_snoc_cut, List.map_append]
      rfl
    · have ne : ¬ (({ cps := #[c] } : Str) = Str.ofString "/") := fun q => hc47 (by
        have : (({ cps := #[c] } : Str).cps.toList) = ("/" : Str).cps.toList := congrArg (·.cps.toList) q
        rw [slash] at this
        simpa using this)
      rw [decide_eq_false ne]
      refine iteF ?_
      obtain ⟨ps, p, e1, e2⟩ := sp_snoc (x := c) hc47 (z.cps.toList.take i)
      have ea : (sp 47 (z.cps.toList.take i)).map mkS = ps.map mkS ++ [mkS p] := by
        rw [e1, List.map_append]
        rfl
      have eb : (sp 47 (z.cps.toList.take i ++ [c])).map mkS = ps.map mkS ++ [mkS p ++ ⟨#[c]⟩] := by
        rw [e2, List.map_append]
        congr 1
        show [mkS (p ++ [c])] = _
        congr 1
        apply str_ext
        rw [list_mkS]
        show _ = ((mkS p).cps ++ #[c]).toList
        rw [Array.toList_append, list_mkS]
      have hps : (mkS p).length ≤ 5000 := hlk.2 _ (by rw [ea]; exact List.mem_append_right _ (List.mem_singleton.mpr rfl))
      have el2 : (sp 47 (z.cps.toList.take i)).length = ps.length + 1 := by rw [e1, List.length_append]; rfl
      rw [eb] at hnx
      rw [ea, el2]
      refine ⟨.str (mkS p), by rw [List.map_append]; simp, ?_, ps.length, ?_, hnx _ ⟨some (.val (.str ⟨#[c]⟩)), ?_⟩⟩
      · exact Nat.le_trans (Nat.add_le_add_right hps 1) (by decide)
      · unfold ixN
        rw [if_neg (by decide), if_pos (by omega)]
        congr 1
        omega
      · congr 4
        rw [List.map_append, List.map_append, List.set_append_right _ _ (by simp)]
        simp
  · rintro τ ⟨kv, rfl⟩
    rw [List.take_length]
    have hlk := lk z.cps.toList.length
    rw [List.take_length] at hlk
    dsimp! only [true_and]
    refine v_cut (fun τ => τ = [some (.val (.str z)), some (.own (.lst ((wsW z).map D.str))), kv, none]) ?_ fun nx hnx => ?now
    case now =>
      dsimp! only [true_and]
      refine ⟨sz, ?_⟩
      by_cases hrt : rt z = true
      · rw [decide_eq_true (e1.mpr hrt)]
        refine iteT (hnx _ ?_)
        have e2 : cutL (sp 47 z.cps.toList) (some 1) none = sp 47 (z.cps.toList.drop 1) := by
          rw [show (some 1 : Option Int) = some ((1 : Nat) : Int) from rfl, cutL_drop]
          unfold rt at hrt
          cases hl : z.cps.toList with
          | nil => rw [hl] at hrt; cases hrt
          | cons x xs =>
            rw [hl] at hrt
            have : x = 47 := by simpa using hrt
            rw [this, sp, if_pos rfl]
            rfl
        rw [e2]
        unfold wsW
        rw [if_pos hrt]
      · rw [decide_eq_false (fun q => hrt (e1.mp q))]
        refine iteF (hnx _ ?_)
        unfold wsW
        rw [if_neg hrt]
    rintro τ rfl
    refine v_cut (fun τ => τ = [some (.val (.str z)), some (.own (.lst ((if z = "/" then [] else wsW z).map D.str))), kv, none]) ?_ fun nx hnx => ?now
    case now =>
      dsimp! only [true_and]
      by_cases h0 : z = "/"
      · rw [if_pos h0] at hnx
        rw [decide_eq_true h0]
        exact iteT (hnx _ rfl)
      · rw [if_neg h0] at hnx
        rw [decide_eq_false h0]
        exact iteF (hnx _ rfl)
    rintro τ rfl
    dsimp! only [true_and]
    refine v_seq ?_
    dsimp! only [true_and]
    have sl := Txt.slice_le z none (some 1)
    have er : decide (Txt.slice z none (some 1) = "/") = rt z := by
      by_cases hrt : rt z = true
      · rw [decide_eq_true (e1.mpr hrt), hrt]
      · rw [decide_eq_false (fun q => hrt (e1.mp q)), Bool.eq_false_iff.mpr hrt]
    by_cases h0 : z = "/"
    · rw [if_pos h0] at hy
      rw [if_pos h0]
      simp! only [forW]
      refine ⟨sz, by decide, ?_⟩
      rw [er, h0]
      exact hy true [] rfl
    · rw [if_neg h0] at hy hn
      rw [if_neg h0]
      have pos : 0 < (wsW z).length := by
        unfold wsW
        rw [List.length_map]
        exact List.length_pos_iff.mpr (sp_ne 47 _)
      refine for_map (fun i τ => (∀ w ∈ (wsW z).take i, wdB w = true) ∧ (0 < i → (wsW z).length ≤ 40) ∧ ∃ kv2, τ = [some (.val (.str z)), some (.val (.lst ((wsW z).map D.str))), kv, kv2]) ⟨by simp, fun q => absurd q (by decide), none, rfl⟩ ?_ ?_
      · rintro i w τ hw ⟨ha, hb, kv2, rfl⟩ nx hnx
        simp! only [g_l_is_word]
        have mw := List.mem_of_getElem? hw
        refine ⟨Nat.le_trans (w2 w mw) hz, ?_⟩
        by_cases hnm : wdB w = true
        · rw [hnm]
          refine iteF ?_
          by_cases h40 : (wsW z).length ≤ 40
          · rw [decide_eq_false (by omega : ¬ 40 < ((wsW z).length : Int))]
            refine iteF (hnx _ ⟨fun y hy => ?_, fun _ => h40, _, rfl⟩)
            rw [List.take_succ, hw] at hy
            rcases List.mem_append.mp hy with m | m
            · exact ha y m
            · have : y = w := by simpa using m
              rw [this]
              exact hnm
          · rw [decide_eq_true (by omega : 40 < ((wsW z).length : Int))]
            exact iteT (hn (by rw [if_neg fun q => h40 q.1]))
        · rw [Bool.eq_false_iff.mpr hnm]
          exact iteT (hn (by rw [if_neg fun q => hnm (List.all_eq_true.mp q.2 w mw)]))
      · rintro τ ⟨ha, hb, kv2, rfl⟩
        rw [List.take_length] at ha
        simp! only [true_and]
        refine ⟨sz, by decide, ?_⟩
        rw [er]
        exact hy _ _ (by rw [if_pos ⟨hb pos, List.all_eq_true.mpr ha⟩])
def b_refused : TVS := (vSeq (vSet 1 (vC (.bl false)))
  (vSeq (vTry (vDrop (vCall g_words_of (vCons (vVar 0) vNil)))
    (vhCons ["NoWay"] [] (vSet 1 (vC (.bl true))) vhNil))
  (vSeq (vTry (vDrop (vCall g_words_of (vCons (vVar 0) vNil)))
    (vhAs 2 ["NoWay"] [] (vRet (vAndE (vVar 1) (vAndE (vIsX ["NoWay"] [] (vVar 2)) (vNotE (vIsX [] ["NoWay"] (vVar 2)))))) vhNil))
  (vRet (vC (.bl false))))))
abbrev N_refused : List Str := ["_law_text", "_law_own", "e"]
theorem w_refused : ∀ ds Q, g_refused ds Q → b_refused (En Q) (startD N_refused ds) := by
  rintro ds Q ⟨z, rfl, hz, hn, h⟩
  simp! only [b_refused, g_words_of]
  refine ⟨hz, fun r ws q => ?_, fun _ => .inl ⟨by decide, ?_⟩⟩
  · rw [hn] at q
    cases q
  simp! only [g_words_of]
  refine ⟨hz, fun r ws q => ?_, fun _ => .inl ⟨by decide, ?_⟩⟩
  · rw [hn] at q
    cases q
  simp! only [true_and]
  refine .inl ⟨by decide, ?_⟩
  simp! only [true_and]
  refine .inr ⟨by decide, ?_⟩
  simp! only [true_and]
  exact h
def b_told : TVS := (vSeq (vIfS (vOrT (vNotT (vBl (vIsin .tuple (vVar 0)))) (vBl (vOp vNe (vF1 vLen (vVar 0)) (vC (.int 2)))))
    (vRet (vC (.bl false)))
    vNext)
  (vSeq (vIfS (vOrT (vNotT (vBl (vIsin .bool (vOp vIxR (vVar 0) (vC (.int 0)))))) (vBl (vOp vNe (vOp vIxR (vVar 0) (vC (.int 0))) (vOp vIxR (vVar 1) (vC (.int 0))))))
    (vRet (vC (.bl false)))
    vNext)
  (vSeq (vIfS (vOrT (vNotT (vBl (vIsin .list (vOp vIxR (vVar 0) (vC (.int 1)))))) (vBl (vOp vNe (vF1 vLen (vOp vIxR (vVar 0) (vC (.int 1)))) (vF1 vLen (vOp vIxR (vVar 1) (vC (.int 1)))))))
    (vRet (vC (.bl false)))
    vNext)
  (vSeq (vFor (vRng1 (vF1 vLen (vOp vIxR (vVar 1) (vC (.int 1))))) (vgName 2)
    (vIfS (vOrT (vNotT (vBl (vIsin .str (vOp vIxR (vOp vIxR (vVar 0) (vC (.int 1))) (vVar 2))))) (vBl (vOp vNe (vOp vIxR (vOp vIxR (vVar 0) (vC (.int 1))) (vVar 2)) (vOp vIxR (vOp vIxR (vVar 1) (vC (.int 1))) (vVar 2)))))
    (vRet (vC (.bl false)))
    vNext))
  (vRet (vC (.bl true)))))))
abbrev N_told : List Str := ["_law_found", "_law_due_here", "_law_k"]
theorem w_told : ∀ ds Q, g_told ds Q → b_told (En Q) (startD N_told ds) := by
  rintro ds Q ⟨r, ws, rfl, hl, h⟩
  refine v_seq ?_
  dsimp! only [b_told, strsD]
  refine iteF ?_
  refine v_seq ?_
  dsimp! only [true_and]
  refine v_seq ?_
  dsimp! only [true_and]
  refine v_seq ?_
  dsimp! only [true_and]
  refine ⟨by omega, by omega, for_rng (fun i τ => ∃ kv, τ = [some (.val (.tup [.bl r, .lst (ws.map D.str)])), some (.val (.tup [.bl r, .lst (ws.map D.str)])), kv]) ⟨none, rfl⟩ ?_ ?_⟩
  · rintro i τ hi ⟨kv, rfl⟩ nx hnx
    simp! only [true_and]
    obtain ⟨y, hy, _⟩ := at_nat (xs := ws) (k := (i : Int)) (by omega) (by omega)
    have hy2 : atI (ws.map D.str) (i : Int) = some (.str y) := by rw [atI_map, hy]; rfl
    refine ⟨_, hy2, ?_⟩
    simp! only [true_and]
    refine ⟨_, hy2, _, hy2, ?_⟩
    simp! only [true_and]
    exact hnx _ ⟨_, rfl⟩
  · rintro τ ⟨kv, rfl⟩
    simp! only [true_and]
    exact h
def b_law : TVS := (vSeq (vSet 1 (vCallN g_text_by (vCons (vVar 0) vNil)))
  (vSeq (vSet 2 (vCallN g_due (vCons (vVar 1) vNil)))
  (vSeq (vIfS (vBl (vOp (vIsN id) (vVar 2) (vC .non)))
    (vRet (vCallN g_refused (vCons (vVar 1) vNil)))
    vNext)
  (vScr 3 (vCallN g_words_of (vCons (vVar 1) vNil)) (vNotT (vBl (vCallN g_told (vCons (vVar 3) (vCons (vVar 2) vNil)))))
  (vRet (vCallN g_told (vCons (vCallN g_words_of (vCons (vVar 1) vNil)) (vCons (vVar 2) vNil))))))))
abbrev N_law : List Str := ["_law_script", "_law_text", "_law_due_here", "_law_found"]
theorem w_law : ∀ ds Q, g_law ds Q → b_law (En Q) (startD N_law ds) := by
  rintro ds Q ⟨ns, rfl, h⟩
  simp! only [b_law, g_text_by, g_due]
  refine fun z hz => ⟨by omega, fun r ws hw => ?_, fun hw => ?_⟩
  · have hlw : ws.length ≤ 5001 := by
      unfold wordsW at hw
      have := (wsW_len z).1
      split at hw
      · cases hw
        decide
      · split at hw
        · cases hw
          omega
        · cases hw
    have same : ∀ r' ws', wordsW z = some (r', ws') → r' = r ∧ ws' = ws := fun r' ws' q => by
      rw [hw] at q
      cases q
      exact ⟨rfl, rfl⟩
    refine iteF ⟨z, rfl, by omega, fun r' ws' q => ?_, fun q => by rw [hw] at q; cases q⟩
    obtain ⟨rfl, rfl⟩ := same _ _ q
    simp! only [strsD]
    refine ⟨by decide, Nat.lt_of_le_of_lt hlw (by decide), _, _, rfl, hlw, ?_⟩
    simp! only [true_and]
    refine ⟨z, rfl, by omega, fun r' ws' q => ?_, fun q => by rw [hw] at q; cases q⟩
    obtain ⟨rfl, rfl⟩ := same _ _ q
    simp! only [true_and]
    refine ⟨_, _, rfl, hlw, ?_⟩
    simp! only [true_and]
    exact h
  · refine iteT ⟨z, rfl, by omega, hw, ?_⟩
    simp! only [true_and]
    exact h
theorem law_sp {K : PySem.W.Frag} {H : Hp} {a : Addr} (ns : List Int) (_ : ns.length ≤ 63) (hS : SqL K H a (ns.map V.int)) {E : XK} : spOf K g_law [.ref a] H (fun v _ => v = .bl true) E := spOf_law ⟨ns, rfl, rfl⟩ hS
def top (i : Nat) : Stmt := PySem.Challenge.pw_glasslayers_k05_words_read.main.body.getD i (.Pass ⟨0, 0, 0, 0⟩)
abbrev s_is_name : Stmt := top 9
abbrev s_is_word : Stmt := top 12
abbrev s_words_of : Stmt := top 13
abbrev s_cell_at : Stmt := top 15
abbrev s_name_by : Stmt := top 16
abbrev s_word_by : Stmt := top 17
abbrev s_words_by : Stmt := top 18
abbrev s_sign_by : Stmt := top 19
abbrev s_text_by : Stmt := top 20
abbrev s_l_is_word : Stmt := top 21
abbrev s_due : Stmt := top 22
abbrev s_refused : Stmt := top 23
abbrev s_told : Stmt := top 24
abbrev s_law : Stmt := top 25
structure Blt (K : PySem.W.Frag) (mg : Str → Option Value) (cGlassError : Addr) (cNoWay : Addr) (cMissing : Addr) (cNotFolder : Addr) (cAstray : Addr) : Prop where
  GlassError : mg "GlassError" = some (.ref cGlassError)
  k_GlassError : clsOf K "GlassError" cGlassError
  NoWay : mg "NoWay" = some (.ref cNoWay)
  k_NoWay : clsOf K "NoWay" cNoWay
  Missing : mg "Missing" = some (.ref cMissing)
  k_Missing : clsOf K "Missing" cMissing
  NotFolder : mg "NotFolder" = some (.ref cNotFolder)
  k_NotFolder : clsOf K "NotFolder" cNotFolder
  Astray : mg "Astray" = some (.ref cAstray)
  k_Astray : clsOf K "Astray" cAstray
  x_NoWay : OwnX K cNoWay
  ek_NoWay : ExcK K cNoWay
  m_NoWay_NoWay : PySem.W.exmOne K (.ref cNoWay) (.ref cNoWay) = some true
  m_NoWay_GlassError : PySem.W.exmOne K (.ref cNoWay) (.ref cGlassError) = some true
  i_NoWay_ValueError : PySem.W.kitOne K (.ref cNoWay) (.type "ValueError") = some true
  j_NoWay_Missing_NotFolder_Astray : PySem.W.kitAny K (.ref cNoWay) [(.ref cMissing), (.ref cNotFolder), (.ref cAstray)] = some false
  ValueError : mg "ValueError" = none
  all : mg "all" = none
  bool : mg "bool" = none
  isinstance : mg "isinstance" = none
  len : mg "len" = none
  list : mg "list" = none
  range : mg "range" = none
  str : mg "str" = none
  tuple : mg "tuple" = none
  g_NAME_SIGNS : ∃ t, mg "NAME_SIGNS" = some (Value.str ("abcdefghijklmnopqrstuvwxyz0123456789" : Str) t)
  g_LONGEST_NAME : ∃ t, mg "LONGEST_NAME" = some (Value.int 12 t)
  g_MOST_WORDS : ∃ t, mg "MOST_WORDS" = some (Value.int 40 t)
section
variable {P : Program} {w : World} {K : PySem.W.Frag} {mg : Str → Option Value} {base : Heap} {f : Addr} {fd : FuncData} {cGlassError : Addr} {cNoWay : Addr} {cMissing : Addr} {cNotFolder : Addr} {cAstray : Addr}
theorem sc_cell_at : FnScope ["_law_script", "_law_k"] ["_law_script", "_law_k"] (defScope s_cell_at) := ⟨rfl, rfl, rfl, by decide +kernel, rfl, by decide +kernel, by decide +kernel⟩
theorem ok_cell_at (F : Fun K "_law_cell_at" "_law_cell_at" s_cell_at f fd) (B : Blt K mg cGlassError cNoWay cMissing cNotFolder cAstray) : FnOk P w K mg base CX0 1 f fd ["_law_script", "_law_k"] (spOf K g_cell_at) :=
  F.okV sc_cell_at len_cell_at fun cdv A outer s H E hr => ⟨b_cell_at, (vss_cons (vs_if (vt_cmp vo_lt (vv 1) (ve_fb vf_len rfl B.len PyProof.Rows.Boot.«len» (vv 0)))
      (vss_one (vs_ret (ve_ix vx_seq (vv 0) (vv 1))))
      vss_nil)
    (vss_one (vs_ret ve_int))), w_cell_at⟩
theorem sc_name_by : FnScope ["_law_cell", "_law_signs", "_law_size", "_law_spot", "_law_mixed", "_law_name", "_law_k"] ["_law_cell"] (defScope s_name_by) := ⟨rfl, rfl, rfl, by decide +kernel, rfl, by decide +kernel, by decide +kernel⟩
theorem ok_name_by (F : Fun K "_law_name_by" "_law_name_by" s_name_by f fd) (B : Blt K mg cGlassError cNoWay cMissing cNotFolder cAstray) : FnOk P w K mg base CX0 1 f fd ["_law_cell"] (spOf K g_name_by) :=
  F.okV sc_name_by len_name_by fun cdv A outer s H E hr => ⟨b_name_by, (vss_cons (vs_set (i := 1) sc_name_by.nd rfl (Or.inl rfl) ve_str)
    (vss_cons (vs_set (i := 2) sc_name_by.nd rfl (Or.inl rfl) (ve_op vo_add ve_int (ve_op vo_mod (vv 0) ve_int)))
    (vss_cons (vs_set (i := 3) sc_name_by.nd rfl (Or.inl rfl) (ve_op vo_mod (ve_op vo_div (vv 0) ve_int) (vv 2)))
    (vss_cons (vs_set (i := 4) sc_name_by.nd rfl (Or.inl rfl) (ve_op vo_div (vv 0) ve_int))
    (vss_cons (vs_set (i := 5) sc_name_by.nd rfl (Or.inl rfl) ve_str)
    (vss_cons (vs_for PassesOwn.never rfl (vi_rng1 rfl B.range (vv 2)) (vg_name (i := 6) sc_name_by.nd rfl (Or.inl rfl))
      (vss_one (vs_if (vw_t (vw_and (vt_cmp (vo_eq hr.units) (ve_op vo_mod (ve_op vo_div (vv 0) ve_int) ve_int) ve_int) (vw_and1 (vt_cmp vo_ne (vv 6) (vv 3)))))
      (vss_one (vs_set (i := 5) sc_name_by.nd rfl (Or.inl rfl) (ve_op vo_add (vv 5) (ve_ix vx_seq (vv 1) (ve_op vo_mod (ve_op vo_div (vv 0) ve_int) ve_int)))))
      (vss_cons (vs_set (i := 5) sc_name_by.nd rfl (Or.inl rfl) (ve_op vo_add (vv 5) (ve_ix vx_seq (vv 1) (ve_op vo_mod (vv 4) ve_int))))
    (vss_one (vs_set (i := 4) sc_name_by.nd rfl (Or.inl rfl) (ve_op vo_div (vv 4) ve_int)))))))
    (vss_one (vs_ret (vv 5))))))))), w_name_by⟩
theorem sc_word_by : FnScope ["_law_cell"] ["_law_cell"] (defScope s_word_by) := ⟨rfl, rfl, rfl, by decide +kernel, rfl, by decide +kernel, by decide +kernel⟩
theorem ok_word_by (F : Fun K "_law_word_by" "_law_word_by" s_word_by f fd) (B : Blt K mg cGlassError cNoWay cMissing cNotFolder cAstray) (Cname_by : Cal P w K mg base 1 "_law_name_by" ["_law_cell"] (spOf K g_name_by)) : FnOk P w K mg base CX0 2 f fd ["_law_cell"] (spOf K g_word_by) :=
  F.okV sc_word_by len_word_by fun cdv A outer s H E hr => ⟨b_word_by, (vss_cons (vs_if (vw_t (vw_or (vt_cmp (vo_eq hr.units) (ve_op vo_mod (vv 0) ve_int) ve_int) (vw_or1 (vt_cmp (vo_eq hr.units) (ve_op vo_mod (vv 0) ve_int) ve_int))))
      (vss_one (vs_ret ve_str))
      vss_nil)
    (vss_cons (vs_if (vt_cmp (vo_eq hr.units) (ve_op vo_mod (vv 0) ve_int) ve_int)
      (vss_one (vs_ret ve_str))
      vss_nil)
    (vss_one (vs_ret (ve_cal Cname_by (hr.mono (by decide)) rfl (vac (ve_op vo_div (vv 0) ve_int) va_nil)))))), w_word_by⟩
theorem sc_words_by : FnScope ["_law_script", "_law_at", "_law_count", "_law_seed", "_law_words", "_law_mixed", "_law_k"] ["_law_script", "_law_at", "_law_count", "_law_seed"] (defScope s_words_by) := ⟨rfl, rfl, rfl, by decide +kernel, rfl, by decide +kernel, by decide +kernel⟩
theorem ok_words_by (F : Fun K "_law_words_by" "_law_words_by" s_words_by f fd) (B : Blt K mg cGlassError cNoWay cMissing cNotFolder cAstray) (Cword_by : Cal P w K mg base 2 "_law_word_by" ["_law_cell"] (spOf K g_word_by)) : FnOk P w K mg base CX0 3 f fd ["_law_script", "_law_at", "_law_count", "_law_seed"] (spOf K g_words_by) :=
  F.okV sc_words_by len_words_by fun cdv A outer s H E hr => ⟨b_words_by, (vss_cons (vs_setO (i := 4) sc_words_by.nd rfl (Or.inl rfl) (ve_lst va_nil))
    (vss_cons (vs_set (i := 5) sc_words_by.nd rfl (Or.inl rfl) (ve_op vo_mod (vv 3) ve_int))
    (vss_cons (vs_for PassesOwn.never rfl (vi_rng1 rfl B.range (vv 2)) (vg_name (i := 6) sc_words_by.nd rfl (Or.inl rfl))
      (vss_cons (vs_set (i := 5) sc_words_by.nd rfl (Or.inl rfl) (ve_op vo_mod (ve_op vo_add (ve_op vo_add (ve_op vo_mul (vv 5) ve_int) (ve_op vo_mul ve_int (vv 6))) ve_int) ve_int))
    (vss_one (vs_if (vt_cmp vo_lt (ve_op vo_add (vv 1) (vv 6)) (ve_fb vf_len rfl B.len PyProof.Rows.Boot.«len» (vv 0)))
      (vss_one (vs_append 4 (ve_cal Cword_by (hr.mono (by decide)) rfl (vac (ve_ix vx_seq (vv 0) (ve_op vo_add (vv 1) (vv 6))) va_nil))))
      (vss_one (vs_append 4 (ve_cal Cword_by (hr.mono (by decide)) rfl (vac (vv 5) va_nil))))))))
    (vss_one (vs_retO 4))))), w_words_by⟩
theorem sc_sign_by : FnScope ["_law_cell", "_law_some"] ["_law_cell"] (defScope s_sign_by) := ⟨rfl, rfl, rfl, by decide +kernel, rfl, by decide +kernel, by decide +kernel⟩
theorem ok_sign_by (F : Fun K "_law_sign_by" "_law_sign_by" s_sign_by f fd) (B : Blt K mg cGlassError cNoWay cMissing cNotFolder cAstray) : FnOk P w K mg base CX0 1 f fd ["_law_cell"] (spOf K g_sign_by) :=
  F.okV sc_sign_by len_sign_by fun cdv A outer s H E hr => ⟨b_sign_by, (vss_cons (vs_set (i := 1) sc_sign_by.nd rfl (Or.inl rfl) ve_str)
    (vss_cons (vs_set (i := 1) sc_sign_by.nd rfl (Or.inl rfl) (ve_op vo_add (vv 1) ve_str))
    (vss_cons (vs_if (vt_cmp (vo_eq hr.units) (ve_op vo_mod (vv 0) ve_int) ve_int)
      (vss_one (vs_ret ve_str))
      vss_nil)
    (vss_cons (vs_if (vt_cmp (vo_eq hr.units) (ve_op vo_mod (vv 0) ve_int) ve_int)
      (vss_one (vs_ret ve_str))
      vss_nil)
    (vss_one (vs_ret (ve_ix vx_seq (vv 1) (ve_op vo_mod (ve_op vo_div (vv 0) ve_int) (ve_fb vf_len rfl B.len PyProof.Rows.Boot.«len» (vv 1)))))))))), w_sign_by⟩
theorem sc_text_by : FnScope ["_law_script", "_law_count", "_law_text", "_law_kind", "_law_place", "_law_sign", "_law_more"] ["_law_script"] (defScope s_text_by) := ⟨rfl, rfl, rfl, by decide +kernel, rfl, by decide +kernel, by decide +kernel⟩
theorem ok_text_by (F : Fun K "_law_text_by" "_law_text_by" s_text_by f fd) (B : Blt K mg cGlassError cNoWay cMissing cNotFolder cAstray) (Ccell_at : Cal P w K mg base 1 "_law_cell_at" ["_law_script", "_law_k"] (spOf K g_cell_at)) (Cwords_by : Cal P w K mg base 3 "_law_words_by" ["_law_script", "_law_at", "_law_count", "_law_seed"] (spOf K g_words_by)) (Csign_by : Cal P w K mg base 1 "_law_sign_by" ["_law_cell"] (spOf K g_sign_by)) : FnOk P w K mg base CX0 4 f fd ["_law_script"] (spOf K g_text_by) :=
  F.okV sc_text_by len_text_by fun cdv A outer s H E hr => ⟨b_text_by, (vss_cons (vs_set (i := 1) sc_text_by.nd rfl (Or.inl rfl) (ve_op vo_mod (ve_cal Ccell_at (hr.mono (by decide)) rfl (vac (vv 0) (vac ve_int va_nil))) ve_int))
    (vss_cons (vs_if (vt_cmp (vo_eq hr.units) (ve_op vo_mod (ve_op vo_div (ve_cal Ccell_at (hr.mono (by decide)) rfl (vac (vv 0) (vac ve_int va_nil))) ve_int) ve_int) ve_int)
      (vss_one (vs_set (i := 1) sc_text_by.nd rfl (Or.inl rfl) (ve_op vo_mod (ve_op vo_div (ve_cal Ccell_at (hr.mono (by decide)) rfl (vac (vv 0) (vac ve_int va_nil))) ve_int) ve_int)))
      vss_nil)
    (vss_cons (vs_set (i := 2) sc_text_by.nd rfl (Or.inl rfl) (ve_join ve_str (ve_cal Cwords_by (hr.mono (by decide)) rfl (vac (vv 0) (vac ve_int (vac (vv 1) (vac (ve_cal Ccell_at (hr.mono (by decide)) rfl (vac (vv 0) (vac ve_int va_nil))) va_nil)))))))
    (vss_cons (vs_if (vt_cmp (vo_eq hr.units) (ve_op vo_mod (ve_cal Ccell_at (hr.mono (by decide)) rfl (vac (vv 0) (vac ve_int va_nil))) ve_int) ve_int)
      (vss_one (vs_set (i := 2) sc_text_by.nd rfl (Or.inl rfl) (ve_op vo_add ve_str (vv 2))))
      vss_nil)
    (vss_cons (vs_set (i := 3) sc_text_by.nd rfl (Or.inl rfl) (ve_op vo_mod (ve_op vo_div (ve_cal Ccell_at (hr.mono (by decide)) rfl (vac (vv 0) (vac ve_int va_nil))) ve_int) ve_int))
    (vss_cons (vs_set (i := 4) sc_text_by.nd rfl (Or.inl rfl) (ve_op vo_mod (ve_cal Ccell_at (hr.mono (by decide)) rfl (vac (vv 0) (vac ve_int va_nil))) (ve_op vo_add (ve_fb vf_len rfl B.len PyProof.Rows.Boot.«len» (vv 2)) ve_int)))
    (vss_cons (vs_set (i := 5) sc_text_by.nd rfl (Or.inl rfl) (ve_cal Csign_by (hr.mono (by decide)) rfl (vac (ve_cal Ccell_at (hr.mono (by decide)) rfl (vac (vv 0) (vac ve_int va_nil))) va_nil)))
    (vss_cons (vs_if (vt_cmp (vo_eq hr.units) (vv 3) ve_int)
      (vss_one (vs_ret (ve_op vo_add (vv 2) ve_str)))
      vss_nil)
    (vss_cons (vs_if (vt_cmp (vo_eq hr.units) (vv 3) ve_int)
      (vss_one (vs_ret (ve_op vo_add (ve_op vo_add (ve_slice (vv 2) vp_none (vp_some (vv 4))) (vv 5)) (ve_slice (vv 2) (vp_some (ve_op vo_add (vv 4) ve_int)) vp_none))))
      vss_nil)
    (vss_cons (vs_if (vt_cmp (vo_eq hr.units) (vv 3) ve_int)
      (vss_one (vs_ret (ve_op vo_add (ve_op vo_add (ve_slice (vv 2) vp_none (vp_some (vv 4))) (vv 5)) (ve_slice (vv 2) (vp_some (vv 4)) vp_none))))
      vss_nil)
    (vss_cons (vs_if (vt_cmp (vo_eq hr.units) (vv 3) ve_int)
      (vss_one (vs_ret (ve_op vo_add ve_str (vv 2))))
      vss_nil)
    (vss_cons (vs_if (vw_t (vw_or (vt_cmp (vo_eq hr.units) (vv 3) ve_int) (vw_or1 (vt_cmp (vo_eq hr.units) (vv 3) ve_int))))
      (vss_cons (vs_set (i := 6) sc_text_by.nd rfl (Or.inl rfl) (ve_op vo_mod (ve_op vo_div (ve_cal Ccell_at (hr.mono (by decide)) rfl (vac (vv 0) (vac ve_int va_nil))) ve_int) ve_int))
    (vss_cons (vs_if (vt_cmp vo_gt (ve_op vo_mod (ve_cal Ccell_at (hr.mono (by decide)) rfl (vac (vv 0) (vac ve_int va_nil))) ve_int) ve_int)
      (vss_one (vs_set (i := 6) sc_text_by.nd rfl (Or.inl rfl) (ve_op vo_add ve_int (ve_op vo_mod (vv 6) ve_int))))
      vss_nil)
    (vss_one (vs_ret (ve_op vo_add (ve_op vo_add (ve_strip (ve_slice (vv 2) vp_none (vp_some ve_int)) ve_str) (ve_op vo_mulS ve_str (vv 6))) ve_str)))))
      vss_nil)
    (vss_one (vs_ret (vv 2))))))))))))))), w_text_by⟩
theorem sc_l_is_word : FnScope ["_law_word", "_law_sign"] ["_law_word"] (defScope s_l_is_word) := ⟨rfl, rfl, rfl, by decide +kernel, rfl, by decide +kernel, by decide +kernel⟩
theorem ok_l_is_word (F : Fun K "_law_is_word" "_law_is_word" s_l_is_word f fd) (B : Blt K mg cGlassError cNoWay cMissing cNotFolder cAstray) : FnOk P w K mg base CX0 1 f fd ["_law_word"] (spOf K g_l_is_word) :=
  F.okV sc_l_is_word len_l_is_word fun cdv A outer s H E hr => ⟨b_l_is_word, (vss_cons (vs_for PassesOwn.never rfl (vi_any (vv 0)) (vg_name (i := 1) sc_l_is_word.nd rfl (Or.inl rfl))
      (vss_one (vs_if (vt_cmp vo_notin (vv 1) ve_str)
      (vss_one (vs_ret (ve_or (ve_cmp (vo_eq hr.units) (vv 0) ve_str) (ve_one (ve_cmp (vo_eq hr.units) (vv 0) ve_str)))))
      vss_nil)))
    (vss_one (vs_ret (ve_chain vo_lt vo_le ve_int (ve_fb vf_len rfl B.len PyProof.Rows.Boot.«len» (vv 0)) ve_int)))), w_l_is_word⟩
theorem sc_due : FnScope ["_law_text", "_law_words", "_law_sign", "_law_word"] ["_law_text"] (defScope s_due) := ⟨rfl, rfl, rfl, by decide +kernel, rfl, by decide +kernel, by decide +kernel⟩
theorem ok_due (F : Fun K "_law_due" "_law_due" s_due f fd) (B : Blt K mg cGlassError cNoWay cMissing cNotFolder cAstray) (Cl_is_word : Cal P w K mg base 1 "_law_is_word" ["_law_word"] (spOf K g_l_is_word)) : FnOk P w K mg base CX0 2 f fd ["_law_text"] (spOf K g_due) :=
  F.okV sc_due len_due fun cdv A outer s H E hr => ⟨b_due, (vss_cons (vs_setO (i := 1) sc_due.nd rfl (Or.inl rfl) (ve_lst (vac ve_str va_nil)))
    (vss_cons (vs_for PassesOwn.never rfl (vi_any (vv 0)) (vg_name (i := 2) sc_due.nd rfl (Or.inl rfl))
      (vss_one (vs_if (vt_cmp (vo_eq hr.units) (vv 2) ve_str)
      (vss_one (vs_append 1 ve_str))
      (vss_one (vs_setI 1 (ve_neg ve_int) (ve_op vo_add (ve_ix vx_seq (vv 1) (ve_neg ve_int)) (vv 2)))))))
    (vss_cons (vs_if (vt_cmp (vo_eq hr.units) (ve_slice (vv 0) vp_none (vp_some ve_int)) ve_str)
      (vss_one (vs_setO (i := 1) sc_due.nd rfl (Or.inl rfl) (ve_slice (vv 1) (vp_some ve_int) vp_none)))
      vss_nil)
    (vss_cons (vs_if (vt_cmp (vo_eq hr.units) (vv 0) ve_str)
      (vss_one (vs_setO (i := 1) sc_due.nd rfl (Or.inl rfl) (ve_lst va_nil)))
      vss_nil)
    (vss_frz 1 (vss_cons (vs_for PassesOwn.never rfl (vi_any (vv 1)) (vg_name (i := 3) sc_due.nd rfl (Or.inl rfl))
      (vss_one (vs_if (vw_t (vw_or (vt_not (vt_val (ve_cal Cl_is_word (hr.mono (by decide)) rfl (vac (vv 3) va_nil)))) (vw_or1 (vt_cmp vo_gt (ve_fb vf_len rfl B.len PyProof.Rows.Boot.«len» (vv 1)) ve_int))))
      (vss_one (vs_ret ve_non))
      vss_nil)))
    (vss_one (vs_ret (ve_tup (vac (ve_cmp (vo_eq hr.units) (ve_slice (vv 0) vp_none (vp_some ve_int)) ve_str) (vac (vv 1) va_nil))))))))))), w_due⟩
theorem sc_is_name : FnScope ["thing"] ["thing"] (defScope s_is_name) := ⟨rfl, rfl, rfl, by decide +kernel, rfl, by decide +kernel, by decide +kernel⟩
theorem cs_is_name0 : CompScope (defScope s_is_name) ["thing"] ["thing", "sign"] ["sign"] ({ kind := PySem.ScopeKind.function, names := [ (PySem.Str.ofString ".0", PySem.NameKind.local), (PySem.Str.ofString "sign", PySem.NameKind.local), (PySem.Str.ofString "NAME_SIGNS", PySem.NameKind.globalImplicit)], isGenerator := false, isCoroutine := false, more := [] : PySem.Scope }) := ⟨rfl, by decide +kernel, by decide +kernel, by decide +kernel, by decide +kernel, rfl, by decide +kernel⟩
theorem ok_is_name (F : Fun K "is_name" "is_name" s_is_name f fd) (B : Blt K mg cGlassError cNoWay cMissing cNotFolder cAstray) : FnOk P w K mg base CX0 1 f fd ["thing"] (spOf K g_is_name) :=
  F.okV sc_is_name len_is_name fun cdv A outer s H E hr => ⟨b_is_name, (vss_cons (vs_if (vt_not (vt_val (ve_isin .str rfl B.isinstance rfl B.str PyProof.Rows.Boot.«str» (vv 0))))
      (vss_one (vs_ret ve_bl))
      vss_nil)
    (vss_cons (vs_if (vt_not (vt_chain vo_le vo_le ve_int (ve_fb vf_len rfl B.len PyProof.Rows.Boot.«len» (vv 0)) (ve_globS (z := (.int 12)) rfl (Classical.choose_spec B.g_LONGEST_NAME) ⟨_, rfl⟩ rfl)))
      (vss_one (vs_ret ve_bl))
      vss_nil)
    (vss_one (vs_ret (ve_fb (vf_all rfl) rfl B.all PyProof.Rows.Boot.«all» (vc_e (vc_comp (M := ["sign"]) (vi_any (vv 0)) rfl cs_is_name0 (fun cl C s2 H2 fp pn => (vg_name (i := 1) (cs_is_name0).nd rfl (Or.inl rfl))) (fun cl C s2 H2 fp pn => vfs_nil) (fun cl C s2 H2 fp pn => (ve_cmp vo_in (vv 1) (ve_globS (z := (.str ("abcdefghijklmnopqrstuvwxyz0123456789" : Str))) rfl (Classical.choose_spec B.g_NAME_SIGNS) ⟨_, rfl⟩ rfl)))))))))), w_is_name⟩
theorem sc_is_word : FnScope ["text"] ["text"] (defScope s_is_word) := ⟨rfl, rfl, rfl, by decide +kernel, rfl, by decide +kernel, by decide +kernel⟩
theorem ok_is_word (F : Fun K "is_word" "is_word" s_is_word f fd) (B : Blt K mg cGlassError cNoWay cMissing cNotFolder cAstray) (Cis_name : Cal P w K mg base 1 "is_name" ["thing"] (spOf K g_is_name)) : FnOk P w K mg base CX0 2 f fd ["text"] (spOf K g_is_word) :=
  F.okV sc_is_word len_is_word fun cdv A outer s H E hr => ⟨b_is_word, (vss_one (vs_ret (ve_or (ve_cmp vo_in (vv 0) (ve_tup (vac ve_str (vac ve_str va_nil)))) (ve_one (ve_cal Cis_name (hr.mono (by decide)) rfl (vac (vv 0) va_nil)))))), w_is_word⟩
theorem sc_words_of : FnScope ["text", "rooted", "words"] ["text"] (defScope s_words_of) := ⟨rfl, rfl, rfl, by decide +kernel, rfl, by decide +kernel, by decide +kernel⟩
theorem cs_words_of0 : CompScope (defScope s_words_of) ["text", "rooted", "words"] ["text", "rooted", "words", "word"] ["word"] ({ kind := PySem.ScopeKind.function, names := [ (PySem.Str.ofString ".0", PySem.NameKind.local), (PySem.Str.ofString "word", PySem.NameKind.local), (PySem.Str.ofString "is_word", PySem.NameKind.globalImplicit)], isGenerator := false, isCoroutine := false, more := [] : PySem.Scope }) := ⟨rfl, by decide +kernel, by decide +kernel, by decide +kernel, by decide +kernel, rfl, by decide +kernel⟩
theorem ok_words_of (F : Fun K "words_of" "words_of" s_words_of f fd) (B : Blt K mg cGlassError cNoWay cMissing cNotFolder cAstray) (Cis_word : Cal P w K mg base 2 "is_word" ["text"] (spOf K g_is_word)) : FnOk P w K mg base (CXR P w) 3 f fd ["text"] (spOf K g_words_of) :=
  F.okVX sc_words_of len_words_of fun cdv A outer s H E hr o => ⟨b_words_of, (vss_cons (vs_if (vt_cmp (vo_eq hr.units) (vv 0) ve_str)
      (vss_one (vs_ret (ve_tup (vac ve_bl (vac (ve_lst va_nil) va_nil)))))
      vss_nil)
    (vss_cons (vs_set (i := 1) sc_words_of.nd rfl (Or.inl rfl) (ve_starts (vv 0) ve_str))
    (vss_cons (vs_set (i := 2) sc_words_of.nd rfl (Or.inl rfl) (ve_split (ve_ifExp (vt_val (vv 1)) (ve_slice (vv 0) (vp_some ve_int) vp_none) (vv 0)) ve_str))
    (vss_cons (vs_if (vw_t (vw_or (vt_cmp vo_gt (ve_fb vf_len rfl B.len PyProof.Rows.Boot.«len» (vv 2)) (ve_globS (z := (.int 40)) rfl (Classical.choose_spec B.g_MOST_WORDS) ⟨_, rfl⟩ rfl)) (vw_or1 (vt_not (vt_val (ve_fb (vf_all rfl) rfl B.all PyProof.Rows.Boot.«all» (vc_e (vc_comp (M := ["word"]) (vi_any (vv 2)) rfl cs_words_of0 (fun cl C s2 H2 fp pn => (vg_name (i := 3) (cs_words_of0).nd rfl (Or.inl rfl))) (fun cl C s2 H2 fp pn => vfs_nil) (fun cl C s2 H2 fp pn => (ve_cal Cis_word (hr.mono (by decide)) rfl (vac (vv 3) va_nil)))))))))))
      (vss_one (vs_raise ⟨cNoWay, B.NoWay, B.k_NoWay, B.x_NoWay⟩ rfl rfl o (vac (vv 0) va_nil)))
      vss_nil)
    (vss_one (vs_ret (ve_tup (vac (vv 1) (vac (vv 2) va_nil))))))))), w_words_of⟩
theorem sc_refused : FnScope ["_law_text", "_law_own", "e"] ["_law_text"] (defScope s_refused) := ⟨rfl, rfl, rfl, by decide +kernel, rfl, by decide +kernel, by decide +kernel⟩
theorem ok_refused (F : Fun K "_law_refused" "_law_refused" s_refused f fd) (B : Blt K mg cGlassError cNoWay cMissing cNotFolder cAstray) (Cwords_of : CalX P w K mg base 3 "words_of" ["text"] (spOf K g_words_of)) : FnOk P w K mg base CX0 4 f fd ["_law_text"] (spOf K g_refused) :=
  F.okV sc_refused len_refused fun cdv A outer s H E hr => ⟨b_refused, (vss_cons (vs_set (i := 1) sc_refused.nd rfl (Or.inl rfl) ve_bl)
    (vss_cons (vs_try (fun pn E EX' po1 o1 => (vss_one (vs_expr (ve_calX Cwords_of o1 (hr.mono (by decide)) rfl (vac (vv 0) va_nil)))))
      (vh_cons (yes := ["NoWay"]) (no := []) ⟨.ref cNoWay, B.NoWay, (cl_cons B.k_NoWay B.m_NoWay_NoWay cl_nil), cl_nil⟩ rfl (fun e pn E => (vss_one (vs_set (i := 1) sc_refused.nd rfl (Or.inl rfl) ve_bl))) vh_nil))
    (vss_cons (vs_try (fun pn E EX' po2 o2 => (vss_one (vs_expr (ve_calX Cwords_of o2 (hr.mono (by decide)) rfl (vac (vv 0) va_nil)))))
      (vh_as (yes := ["NoWay"]) (no := []) (i := 2) sc_refused.nd rfl rfl ⟨.ref cGlassError, B.GlassError, (cl_cons B.k_NoWay B.m_NoWay_GlassError cl_nil), cl_nil⟩ rfl (fun e pn E => (vss_one (vs_ret (ve_and (vv 1) (ve_and (ve_isX (T := "ValueError") (yes := ["NoWay"]) (no := []) (cl_or (cl_cons B.k_NoWay B.ek_NoWay cl_nil) cl_nil) (cl_cons B.k_NoWay B.i_NoWay_ValueError cl_nil) cl_nil rfl B.isinstance rfl B.ValueError PyProof.Rows.Boot.«ValueError» (vv 2)) (ve_one (ve_not (ve_isXs (cs := [cMissing, cNotFolder, cAstray]) (yes := []) (no := ["NoWay"]) (cl_or cl_nil (cl_cons B.k_NoWay B.ek_NoWay cl_nil)) cl_nil (cl_cons B.k_NoWay B.j_NoWay_Missing_NotFolder_Astray cl_nil) (Nat.le_of_ble_eq_true rfl) (qac (qe_glob (v := .ref cMissing) rfl B.Missing rfl) (qac (qe_glob (v := .ref cNotFolder) rfl B.NotFolder rfl) (qac (qe_glob (v := .ref cAstray) rfl B.Astray rfl) qa_nil))) (fun _ _ _ h => h) rfl B.isinstance (vv 2))))))))) vh_nil))
    (vss_one (vs_ret ve_bl))))), w_refused⟩
theorem sc_told : FnScope ["_law_found", "_law_due_here", "_law_k"] ["_law_found", "_law_due_here"] (defScope s_told) := ⟨rfl, rfl, rfl, by decide +kernel, rfl, by decide +kernel, by decide +kernel⟩
theorem ok_told (F : Fun K "_law_told" "_law_told" s_told f fd) (B : Blt K mg cGlassError cNoWay cMissing cNotFolder cAstray) : FnOk P w K mg base CX0 1 f fd ["_law_found", "_law_due_here"] (spOf K g_told) :=
  F.okV sc_told len_told fun cdv A outer s H E hr => ⟨b_told, (vss_cons (vs_if (vw_t (vw_or (vt_not (vt_val (ve_isin .tuple rfl B.isinstance rfl B.tuple PyProof.Rows.Boot.«tuple» (vv 0)))) (vw_or1 (vt_cmp vo_ne (ve_fb vf_len rfl B.len PyProof.Rows.Boot.«len» (vv 0)) ve_int))))
      (vss_one (vs_ret ve_bl))
      vss_nil)
    (vss_cons (vs_if (vw_t (vw_or (vt_not (vt_val (ve_isin .bool rfl B.isinstance rfl B.bool PyProof.Rows.Boot.«bool» (ve_ix vx_seq (vv 0) ve_int)))) (vw_or1 (vt_cmp vo_ne (ve_ix vx_seq (vv 0) ve_int) (ve_ix vx_seq (vv 1) ve_int)))))
      (vss_one (vs_ret ve_bl))
      vss_nil)
    (vss_cons (vs_if (vw_t (vw_or (vt_not (vt_val (ve_isin .list rfl B.isinstance rfl B.list PyProof.Rows.Boot.«list» (ve_ix vx_seq (vv 0) ve_int)))) (vw_or1 (vt_cmp vo_ne (ve_fb vf_len rfl B.len PyProof.Rows.Boot.«len» (ve_ix vx_seq (vv 0) ve_int)) (ve_fb vf_len rfl B.len PyProof.Rows.Boot.«len» (ve_ix vx_seq (vv 1) ve_int))))))
      (vss_one (vs_ret ve_bl))
      vss_nil)
    (vss_cons (vs_for PassesOwn.never rfl (vi_rng1 rfl B.range (ve_fb vf_len rfl B.len PyProof.Rows.Boot.«len» (ve_ix vx_seq (vv 1) ve_int))) (vg_name (i := 2) sc_told.nd rfl (Or.inl rfl))
      (vss_one (vs_if (vw_t (vw_or (vt_not (vt_val (ve_isin .str rfl B.isinstance rfl B.str PyProof.Rows.Boot.«str» (ve_ix vx_seq (ve_ix vx_seq (vv 0) ve_int) (vv 2))))) (vw_or1 (vt_cmp vo_ne (ve_ix vx_seq (ve_ix vx_seq (vv 0) ve_int) (vv 2)) (ve_ix vx_seq (ve_ix vx_seq (vv 1) ve_int) (vv 2))))))
      (vss_one (vs_ret ve_bl))
      vss_nil)))
    (vss_one (vs_ret ve_bl)))))), w_told⟩
theorem sc_law : FnScope ["_law_script", "_law_text", "_law_due_here", "_law_found"] ["_law_script"] (defScope s_law) := ⟨rfl, rfl, rfl, by decide +kernel, rfl, by decide +kernel, by decide +kernel⟩
theorem ok_law (F : Fun K "law" "law" s_law f fd) (B : Blt K mg cGlassError cNoWay cMissing cNotFolder cAstray) (Ctext_by : Cal P w K mg base 4 "_law_text_by" ["_law_script"] (spOf K g_text_by)) (Cdue : Cal P w K mg base 2 "_law_due" ["_law_text"] (spOf K g_due)) (Crefused : Cal P w K mg base 4 "_law_refused" ["_law_text"] (spOf K g_refused)) (Cwords_of : CalX P w K mg base 3 "words_of" ["text"] (spOf K g_words_of)) (Ctold : Cal P w K mg base 1 "_law_told" ["_law_found", "_law_due_here"] (spOf K g_told)) : FnOk P w K mg base CX0 5 f fd ["_law_script"] (spOf K g_law) :=
  F.okV sc_law len_law fun cdv A outer s H E hr => ⟨b_law, (vss_cons (vs_set (i := 1) sc_law.nd rfl (Or.inl rfl) (ve_cal Ctext_by (hr.mono (by decide)) rfl (vac (vv 0) va_nil)))
    (vss_cons (vs_set (i := 2) sc_law.nd rfl (Or.inl rfl) (ve_cal Cdue (hr.mono (by decide)) rfl (vac (vv 1) va_nil)))
    (vss_cons (vs_if (vt_cmp vo_is (vv 2) ve_non)
      (vss_one (vs_ret (ve_cal Crefused (hr.mono (by decide)) rfl (vac (vv 1) va_nil))))
      vss_nil)
    (vss_scr (i := 3) sc_law.nd rfl (Or.inl rfl) (ve_calN Cwords_of (hr.mono (by decide)) rfl (vac (vv 1) va_nil)) (vt_not (vt_val (ve_cal Ctold (hr.mono (by decide)) rfl (vac (vv 3) (vac (vv 2) va_nil)))))
    (vss_one (vs_ret (ve_cal Ctold (hr.mono (by decide)) rfl (vac (ve_calN Cwords_of (hr.mono (by decide)) rfl (vac (vv 1) va_nil)) (vac (vv 2) va_nil))))))))), w_law⟩
end
theorem all_mk {l : PySem.W.OpenLaw} {w : World} {K : PySem.W.Frag} {h : Heap} {mg : Str → Option Value} {fa : Addr} (X : K.In h) (G : h.Ns mainGlobals mg) (hfa : mg "law" = some (.ref fa))
    {f1 : Addr} {od1 an1 : Option Addr} {sl1 : Array (Option Value)} {oc1 kV1 dc1 pm1 cd1 ct1 : Value}
    {f2 : Addr} {od2 an2 : Option Addr} {sl2 : Array (Option Value)} {oc2 kV2 dc2 pm2 cd2 ct2 : Value}
    {f3 : Addr} {od3 an3 : Option Addr} {sl3 : Array (Option Value)} {oc3 kV3 dc3 pm3 cd3 ct3 : Value}
    {f4 : Addr} {od4 an4 : Option Addr} {sl4 : Array (Option Value)} {oc4 kV4 dc4 pm4 cd4 ct4 : Value}
    {f5 : Addr} {od5 an5 : Option Addr} {sl5 : Array (Option Value)} {oc5 kV5 dc5 pm5 cd5 ct5 : Value}
    {f6 : Addr} {od6 an6 : Option Addr} {sl6 : Array (Option Value)} {oc6 kV6 dc6 pm6 cd6 ct6 : Value}
    {f7 : Addr} {od7 an7 : Option Addr} {sl7 : Array (Option Value)} {oc7 kV7 dc7 pm7 cd7 ct7 : Value}
    {f8 : Addr} {od8 an8 : Option Addr} {sl8 : Array (Option Value)} {oc8 kV8 dc8 pm8 cd8 ct8 : Value}
    {f9 : Addr} {od9 an9 : Option Addr} {sl9 : Array (Option Value)} {oc9 kV9 dc9 pm9 cd9 ct9 : Value}
    {f10 : Addr} {od10 an10 : Option Addr} {sl10 : Array (Option Value)} {oc10 kV10 dc10 pm10 cd10 ct10 : Value}
    {f11 : Addr} {od11 an11 : Option Addr} {sl11 : Array (Option Value)} {oc11 kV11 dc11 pm11 cd11 ct11 : Value}
    {f12 : Addr} {od12 an12 : Option Addr} {sl12 : Array (Option Value)} {oc12 kV12 dc12 pm12 cd12 ct12 : Value}
    {f13 : Addr} {od13 an13 : Option Addr} {sl13 : Array (Option Value)} {oc13 kV13 dc13 pm13 cd13 ct13 : Value}
    {f14 : Addr} {od14 an14 : Option Addr} {sl14 : Array (Option Value)} {oc14 kV14 dc14 pm14 cd14 ct14 : Value}
    {cGlassError : Addr}
    {cNoWay : Addr}
    {cMissing : Addr}
    {cNotFolder : Addr}
    {cAstray : Addr}
    {gt_NAME_SIGNS : Tok}
    {gt_LONGEST_NAME : Tok}
    {gt_MOST_WORDS : Tok}
    (a1 : PySem.W.nsIn K mainGlobals "is_name" = some (some (.ref f1))) (l1 : K.lookup f1 = some ⟨oc1, od1, .func (PySem.W.fnOf "is_name" "is_name" (defArgs s_is_name) (defBody s_is_name) (defScope s_is_name) .none kV1 dc1 pm1 an1 cd1 ct1), sl1⟩) (c1 : PySem.W.codeIn K cd1 "is_name" = true) (k1 : PySem.W.keepIn K (.ref f1) = true)
    (a2 : PySem.W.nsIn K mainGlobals "is_word" = some (some (.ref f2))) (l2 : K.lookup f2 = some ⟨oc2, od2, .func (PySem.W.fnOf "is_word" "is_word" (defArgs s_is_word) (defBody s_is_word) (defScope s_is_word) .none kV2 dc2 pm2 an2 cd2 ct2), sl2⟩) (c2 : PySem.W.codeIn K cd2 "is_word" = true) (k2 : PySem.W.keepIn K (.ref f2) = true)
    (a3 : PySem.W.nsIn K mainGlobals "words_of" = some (some (.ref f3))) (l3 : K.lookup f3 = some ⟨oc3, od3, .func (PySem.W.fnOf "words_of" "words_of" (defArgs s_words_of) (defBody s_words_of) (defScope s_words_of) .none kV3 dc3 pm3 an3 cd3 ct3), sl3⟩) (c3 : PySem.W.codeIn K cd3 "words_of" = true) (k3 : PySem.W.keepIn K (.ref f3) = true)
    (a4 : PySem.W.nsIn K mainGlobals "_law_cell_at" = some (some (.ref f4))) (l4 : K.lookup f4 = some ⟨oc4, od4, .func (PySem.W.fnOf "_law_cell_at" "_law_cell_at" (defArgs s_cell_at) (defBody s_cell_at) (defScope s_cell_at) .none kV4 dc4 pm4 an4 cd4 ct4), sl4⟩) (c4 : PySem.W.codeIn K cd4 "_law_cell_at" = true) (k4 : PySem.W.keepIn K (.ref f4) = true)
    (a5 : PySem.W.nsIn K mainGlobals "_law_name_by" = some (some (.ref f5))) (l5 : K.lookup f5 = some ⟨oc5, od5, .func (PySem.W.fnOf "_law_name_by" "_law_name_by" (defArgs s_name_by) (defBody s_name_by) (defScope s_name_by) .none kV5 dc5 pm5 an5 cd5 ct5), sl5⟩) (c5 : PySem.W.codeIn K cd5 "_law_name_by" = true) (k5 : PySem.W.keepIn K (.ref f5) = true)
    (a6 : PySem.W.nsIn K mainGlobals "_law_word_by" = some (some (.ref f6))) (l6 : K.lookup f6 = some ⟨oc6, od6, .func (PySem.W.fnOf "_law_word_by" "_law_word_by" (defArgs s_word_by) (defBody s_word_by) (defScope s_word_by) .none kV6 dc6 pm6 an6 cd6 ct6), sl6⟩) (c6 : PySem.W.codeIn K cd6 "_law_word_by" = true) (k6 : PySem.W.keepIn K (.ref f6) = true)
    (a7 : PySem.W.nsIn K mainGlobals "_law_words_by" = some (some (.ref f7))) (l7 : K.lookup f7 = some ⟨oc7, od7, .func (PySem.W.fnOf "_law_words_by" "_law_words_by" (defArgs s_words_by) (defBody s_words_by) (defScope s_words_by) .none kV7 dc7 pm7 an7 cd7 ct7), sl7⟩) (c7 : PySem.W.codeIn K cd7 "_law_words_by" = true) (k7 : PySem.W.keepIn K (.ref f7) = true)
    (a8 : PySem.W.nsIn K mainGlobals "_law_sign_by" = some (some (.ref f8))) (l8 : K.lookup f8 = some ⟨oc8, od8, .func (PySem.W.fnOf "_law_sign_by" "_law_sign_by" (defArgs s_sign_by) (defBody s_sign_by) (defScope s_sign_by) .none kV8 dc8 pm8 an8 cd8 ct8), sl8⟩) (c8 : PySem.W.codeIn K cd8 "_law_sign_by" = true) (k8 : PySem.W.keepIn K (.ref f8) = true)
    (a9 : PySem.W.nsIn K mainGlobals "_law_text_by" = some (some (.ref f9))) (l9 : K.lookup f9 = some ⟨oc9, od9, .func (PySem.W.fnOf "_law_text_by" "_law_text_by" (defArgs s_text_by) (defBody s_text_by) (defScope s_text_by) .none kV9 dc9 pm9 an9 cd9 ct9), sl9⟩) (c9 : PySem.W.codeIn K cd9 "_law_text_by" = true) (k9 : PySem.W.keepIn K (.ref f9) = true)
    (a10 : PySem.W.nsIn K mainGlobals "_law_is_word" = some (some (.ref f10))) (l10 : K.lookup f10 = some ⟨oc10, od10, .func (PySem.W.fnOf "_law_is_word" "_law_is_word" (defArgs s_l_is_word) (defBody s_l_is_word) (defScope s_l_is_word) .none kV10 dc10 pm10 an10 cd10 ct10), sl10⟩) (c10 : PySem.W.codeIn K cd10 "_law_is_word" = true) (k10 : PySem.W.keepIn K (.ref f10) = true)
    (a11 : PySem.W.nsIn K mainGlobals "_law_due" = some (some (.ref f11))) (l11 : K.lookup f11 = some ⟨oc11, od11, .func (PySem.W.fnOf "_law_due" "_law_due" (defArgs s_due) (defBody s_due) (defScope s_due) .none kV11 dc11 pm11 an11 cd11 ct11), sl11⟩) (c11 : PySem.W.codeIn K cd11 "_law_due" = true) (k11 : PySem.W.keepIn K (.ref f11) = true)
    (a12 : PySem.W.nsIn K mainGlobals "_law_refused" = some (some (.ref f12))) (l12 : K.lookup f12 = some ⟨oc12, od12, .func (PySem.W.fnOf "_law_refused" "_law_refused" (defArgs s_refused) (defBody s_refused) (defScope s_refused) .none kV12 dc12 pm12 an12 cd12 ct12), sl12⟩) (c12 : PySem.W.codeIn K cd12 "_law_refused" = true) (k12 : PySem.W.keepIn K (.ref f12) = true)
    (a13 : PySem.W.nsIn K mainGlobals "_law_told" = some (some (.ref f13))) (l13 : K.lookup f13 = some ⟨oc13, od13, .func (PySem.W.fnOf "_law_told" "_law_told" (defArgs s_told) (defBody s_told) (defScope s_told) .none kV13 dc13 pm13 an13 cd13 ct13), sl13⟩) (c13 : PySem.W.codeIn K cd13 "_law_told" = true) (k13 : PySem.W.keepIn K (.ref f13) = true)
    (a14 : PySem.W.nsIn K mainGlobals "law" = some (some (.ref f14))) (l14 : K.lookup f14 = some ⟨oc14, od14, .func (PySem.W.fnOf "law" "law" (defArgs s_law) (defBody s_law) (defScope s_law) .none kV14 dc14 pm14 an14 cd14 ct14), sl14⟩) (c14 : PySem.W.codeIn K cd14 "law" = true) (k14 : PySem.W.keepIn K (.ref f14) = true)
    (q_GlassError : PySem.W.nsIn K mainGlobals "GlassError" = some (some (.ref cGlassError)))
    (q_NoWay : PySem.W.nsIn K mainGlobals "NoWay" = some (some (.ref cNoWay)))
    (q_Missing : PySem.W.nsIn K mainGlobals "Missing" = some (some (.ref cMissing)))
    (q_NotFolder : PySem.W.nsIn K mainGlobals "NotFolder" = some (some (.ref cNotFolder)))
    (q_Astray : PySem.W.nsIn K mainGlobals "Astray" = some (some (.ref cAstray)))
    (x_NoWay : OwnX K cNoWay)
    (ek_NoWay : ExcK K cNoWay)
    (m_NoWay_NoWay : PySem.W.exmOne K (.ref cNoWay) (.ref cNoWay) = some true)
    (m_NoWay_GlassError : PySem.W.exmOne K (.ref cNoWay) (.ref cGlassError) = some true)
    (i_NoWay_ValueError : PySem.W.kitOne K (.ref cNoWay) (.type "ValueError") = some true)
    (j_NoWay_Missing_NotFolder_Astray : PySem.W.kitAny K (.ref cNoWay) [(.ref cMissing), (.ref cNotFolder), (.ref cAstray)] = some false)
    (g_NAME_SIGNS : PySem.W.nsIn K mainGlobals "NAME_SIGNS" = some (some (.str ("abcdefghijklmnopqrstuvwxyz0123456789" : Str) gt_NAME_SIGNS)))
    (g_LONGEST_NAME : PySem.W.nsIn K mainGlobals "LONGEST_NAME" = some (some (.int 12 gt_LONGEST_NAME)))
    (g_MOST_WORDS : PySem.W.nsIn K mainGlobals "MOST_WORDS" = some (some (.int 40 gt_MOST_WORDS)))
    (z_ValueError : PySem.W.nsIn K mainGlobals "ValueError" = some none)
    (z_all : PySem.W.nsIn K mainGlobals "all" = some none)
    (z_bool : PySem.W.nsIn K mainGlobals "bool" = some none)
    (z_isinstance : PySem.W.nsIn K mainGlobals "isinstance" = some none)
    (z_len : PySem.W.nsIn K mainGlobals "len" = some none)
    (z_list : PySem.W.nsIn K mainGlobals "list" = some none)
    (z_range : PySem.W.nsIn K mainGlobals "range" = some none)
    (z_str : PySem.W.nsIn K mainGlobals "str" = some none)
    (z_tuple : PySem.W.nsIn K mainGlobals "tuple" = some none) :
    ∃ fd : FuncData, (∀ (s : Shared) (v : Value), BindsTo s fd ⟨[v], []⟩ [("_law_script", v)]) ∧ ∀ base : Heap, K.In base → base.Ns mainGlobals mg → FnOk l.prog w K mg base CX0 5 fa fd ["_law_script"] (spOf K g_law) := by
  have e := hfa.symm.trans (PySem.W.mg_of X G a14)
  cases e
  have B : Blt K mg cGlassError cNoWay cMissing cNotFolder cAstray := ⟨PySem.W.mg_of X G q_GlassError, q_GlassError, PySem.W.mg_of X G q_NoWay, q_NoWay, PySem.W.mg_of X G q_Missing, q_Missing, PySem.W.mg_of X G q_NotFolder, q_NotFolder, PySem.W.mg_of X G q_Astray, q_Astray, x_NoWay, ek_NoWay, m_NoWay_NoWay, m_NoWay_GlassError, i_NoWay_ValueError, j_NoWay_Missing_NotFolder_Astray, PySem.W.mg_none_of X G z_ValueError, PySem.W.mg_none_of X G z_all, PySem.W.mg_none_of X G z_bool, PySem.W.mg_none_of X G z_isinstance, PySem.W.mg_none_of X G z_len, PySem.W.mg_none_of X G z_list, PySem.W.mg_none_of X G z_range, PySem.W.mg_none_of X G z_str, PySem.W.mg_none_of X G z_tuple, ⟨_, PySem.W.mg_of X G g_NAME_SIGNS⟩, ⟨_, PySem.W.mg_of X G g_LONGEST_NAME⟩, ⟨_, PySem.W.mg_of X G g_MOST_WORDS⟩⟩
  have F1 := fun_mk (st := s_is_name) l1 c1 k1
  have b1 := F1.binds (ps := ["thing"]) fun _ _ _ _ _ _ us hl => match us, hl with | [_], _ => rfl
  have F2 := fun_mk (st := s_is_word) l2 c2 k2
  have b2 := F2.binds (ps := ["text"]) fun _ _ _ _ _ _ us hl => match us, hl with | [_], _ => rfl
  have F3 := fun_mk (st := s_words_of) l3 c3 k3
  have b3 := F3.binds (ps := ["text"]) fun _ _ _ _ _ _ us hl => match us, hl with | [_], _ => rfl
  have F4 := fun_mk (st := s_cell_at) l4 c4 k4
  have b4 := F4.binds (ps := ["_law_script", "_law_k"]) fun _ _ _ _ _ _ us hl => match us, hl with | [_, _], _ => rfl
  have F5 := fun_mk (st := s_name_by) l5 c5 k5
  have b5 := F5.binds (ps := ["_law_cell"]) fun _ _ _ _ _ _ us hl => match us, hl with | [_], _ => rfl
  have F6 := fun_mk (st := s_word_by) l6 c6 k6
  have b6 := F6.binds (ps := ["_law_cell"]) fun _ _ _ _ _ _ us hl => match us, hl with | [_], _ => rfl
  have F7 := fun_mk (st := s_words_by) l7 c7 k7
  have b7 := F7.binds (ps := ["_law_script", "_law_at", "_law_count", "_law_seed"]) fun _ _ _ _ _ _ us hl => match us, hl with | [_, _, _, _], _ => rfl
  have F8 := fun_mk (st := s_sign_by) l8 c8 k8
  have b8 := F8.binds (ps := ["_law_cell"]) fun _ _ _ _ _ _ us hl => match us, hl with | [_], _ => rfl
  have F9 := fun_mk (st := s_text_by) l9 c9 k9
  have b9 := F9.binds (ps := ["_law_script"]) fun _ _ _ _ _ _ us hl => match us, hl with | [_], _ => rfl
  have F10 := fun_mk (st := s_l_is_word) l10 c10 k10
  have b10 := F10.binds (ps := ["_law_word"]) fun _ _ _ _ _ _ us hl => match us, hl with | [_], _ => rfl
  have F11 := fun_mk (st := s_due) l11 c11 k11
  have b11 := F11.binds (ps := ["_law_text"]) fun _ _ _ _ _ _ us hl => match us, hl with | [_], _ => rfl
  have F12 := fun_mk (st := s_refused) l12 c12 k12
  have b12 := F12.binds (ps := ["_law_text"]) fun _ _ _ _ _ _ us hl => match us, hl with | [_], _ => rfl
  have F13 := fun_mk (st := s_told) l13 c13 k13
  have b13 := F13.binds (ps := ["_law_found", "_law_due_here"]) fun _ _ _ _ _ _ us hl => match us, hl with | [_, _], _ => rfl
  have F14 := fun_mk (st := s_law) l14 c14 k14
  have b14 := F14.binds (ps := ["_law_script"]) fun _ _ _ _ _ _ us hl => match us, hl with | [_], _ => rfl
  refine ⟨PySem.W.fnOf "law" "law" (defArgs s_law) (defBody s_law) (defScope s_law) .none kV14 dc14 pm14 an14 cd14 ct14, fun s v => .of_eq rfl, fun base _ _ => ?_⟩
  have Ccell_at := Cal.mk (ok_cell_at (P := l.prog) (w := w) (mg := mg) (base := base) F4 B) (PySem.W.mg_of X G a4) k4 b4
  have Cname_by := Cal.mk (ok_name_by (P := l.prog) (w := w) (mg := mg) (base := base) F5 B) (PySem.W.mg_of X G a5) k5 b5
  have Cword_by := Cal.mk (ok_word_by (P := l.prog) (w := w) (mg := mg) (base := base) F6 B Cname_by) (PySem.W.mg_of X G a6) k6 b6
  have Cwords_by := Cal.mk (ok_words_by (P := l.prog) (w := w) (mg := mg) (base := base) F7 B Cword_by) (PySem.W.mg_of X G a7) k7 b7
  have Csign_by := Cal.mk (ok_sign_by (P := l.prog) (w := w) (mg := mg) (base := base) F8 B) (PySem.W.mg_of X G a8) k8 b8
  have Ctext_by := Cal.mk (ok_text_by (P := l.prog) (w := w) (mg := mg) (base := base) F9 B Ccell_at Cwords_by Csign_by) (PySem.W.mg_of X G a9) k9 b9
  have Cl_is_word := Cal.mk (ok_l_is_word (P := l.prog) (w := w) (mg := mg) (base := base) F10 B) (PySem.W.mg_of X G a10) k10 b10
  have Cdue := Cal.mk (ok_due (P := l.prog) (w := w) (mg := mg) (base := base) F11 B Cl_is_word) (PySem.W.mg_of X G a11) k11 b11
  have Cis_name := Cal.mk (ok_is_name (P := l.prog) (w := w) (mg := mg) (base := base) F1 B) (PySem.W.mg_of X G a1) k1 b1
  have Cis_word := Cal.mk (ok_is_word (P := l.prog) (w := w) (mg := mg) (base := base) F2 B Cis_name) (PySem.W.mg_of X G a2) k2 b2
  have Cwords_of := CalX.mk (ok_words_of (P := l.prog) (w := w) (mg := mg) (base := base) F3 B Cis_word) (PySem.W.mg_of X G a3) k3 b3
  have Crefused := Cal.mk (ok_refused (P := l.prog) (w := w) (mg := mg) (base := base) F12 B Cwords_of) (PySem.W.mg_of X G a12) k12 b12
  have Ctold := Cal.mk (ok_told (P := l.prog) (w := w) (mg := mg) (base := base) F13 B) (PySem.W.mg_of X G a13) k13 b13
  exact ok_law F14 B Ctext_by Cdue Crefused Cwords_of Ctold
theorem walk {l : PySem.W.OpenLaw} {q : Program} {loose : List Str} {XP : (Str → Option Value) → Heap → Prop} {YP : World → Heap → Prop} {d : DefRec} {K : Params → PySem.W.Frag} (hn : l.most = some 63) (hdf : d.params.defaults = [])
    (hY : ∀ (w : World) (h : Heap), YP w h → (K w.params).In h)
    (F : ∀ (w : World) (mg : Str → Option Value) (fa : Addr) (h : Heap), (K w.params).In h → h.Ns mainGlobals mg → mg d.name = some (.ref fa) →
      ∃ fd : FuncData, (∀ (s : Shared) (u : Value), BindsTo s fd ⟨[u], []⟩ [("_law_script", u)]) ∧ ∀ base : Heap, (K w.params).In base → base.Ns mainGlobals mg → FnOk l.prog w (K w.params) mg base CX0 5 fa fd ["_law_script"] (spOf (K w.params) g_law)) :
    PySem.W.WalkO q loose XP YP l.row.toRowW d [] (fun f vs => PySem.call f vs) :=
  L2.walk_of (n := 63) (k := 5) (x := "_law_script") (CX := fun _ => CX0) (sp := fun w => spOf (K w.params) g_law) hn (by decide) hdf ⟨rfl, by decide, by decide⟩ hY F (fun w H a ns hl _ hS => law_sp ns hl hS) fun _ _ _ _ _ z => z

end K05
open PySem PySem.W PyProof.Rows
set_option maxRecDepth 100000 in
set_option maxHeartbeats 0 in
theorem PySem.Challenge.cw_glasslayers_k05_words_read_holds : PySem.Challenge.rw_glasslayers_k05_words_read.Holds := by
  w_on; o_law; k_head; (case hw => w_witness2)
  k_fill
  refine K05.walk (l := PySem.Challenge.rw_glasslayers_k05_words_read) rfl rfl (fun w h Y => PySem.W.kIn_of Y) ?F
  case F =>
    intro w mg fa h KX G hmg
    refine' K05.all_mk KX G hmg ?a1 ?l1 ?c1 ?k1 ?a2 ?l2 ?c2 ?k2 ?a3 ?l3 ?c3 ?k3 ?a4 ?l4 ?c4 ?k4 ?a5 ?l5 ?c5 ?k5 ?a6 ?l6 ?c6 ?k6 ?a7 ?l7 ?c7 ?k7 ?a8 ?l8 ?c8 ?k8 ?a9 ?l9 ?c9 ?k9 ?a10 ?l10 ?c10 ?k10 ?a11 ?l11 ?c11 ?k11 ?a12 ?l12 ?c12 ?k12 ?a13 ?l13 ?c13 ?k13 ?a14 ?l14 ?c14 ?k14 ?q_GlassError ?q_NoWay ?q_Missing ?q_NotFolder ?q_Astray ?x_NoWay ?ek_NoWay ?m_NoWay_NoWay ?m_NoWay_GlassError ?i_NoWay_ValueError ?j_NoWay_Missing_NotFolder_Astray ?g_NAME_SIGNS ?g_LONGEST_NAME ?g_MOST_WORDS ?z_ValueError ?z_all ?z_bool ?z_isinstance ?z_len ?z_list ?z_range ?z_str ?z_tuple
    (case a1 => k_is)
    (case l1 => k_is)
    (case c1 => k_is)
    (case k1 => k_is)
    (case a2 => k_is)
    (case l2 => k_is)
    (case c2 => k_is)
    (case k2 => k_is)
    (case a3 => k_is)
    (case l3 => k_is)
    (case c3 => k_is)
    (case k3 => k_is)
    (case a4 => k_is)
    (case l4 => k_is)
    (case c4 => k_is)
    (case k4 => k_is)
    (case a5 => k_is)
    (case l5 => k_is)
    (case c5 => k_is)
    (case k5 => k_is)
    (case a6 => k_is)
    (case l6 => k_is)
    (case c6 => k_is)
    (case k6 => k_is)
    (case a7 => k_is)
    (case l7 => k_is)
    (case c7 => k_is)
    (case k7 => k_is)
    (case a8 => k_is)
    (case l8 => k_is)
    (case c8 => k_is)
    (case k8 => k_is)
    (case a9 => k_is)
    (case l9 => k_is)
    (case c9 => k_is)
    (case k9 => k_is)
    (case a10 => k_is)
    (case l10 => k_is)
    (case c10 => k_is)
    (case k10 => k_is)
    (case a11 => k_is)
    (case l11 => k_is)
    (case c11 => k_is)
    (case k11 => k_is)
    (case a12 => k_is)
    (case l12 => k_is)
    (case c12 => k_is)
    (case k12 => k_is)
    (case a13 => k_is)
    (case l13 => k_is)
    (case c13 => k_is)
    (case k13 => k_is)
    (case a14 => k_is)
    (case l14 => k_is)
    (case c14 => k_is)
    (case k14 => k_is)
    (case q_GlassError => k_is)
    (case q_NoWay => k_is)
    (case q_Missing => k_is)
    (case q_NotFolder => k_is)
    (case q_Astray => k_is)
    (case x_NoWay => (delta L2.OwnX; k_exc))
    (case ek_NoWay => exact ⟨by k_is, by k_is, by k_is, by k_is, by k_is, by k_is⟩)
    (case m_NoWay_NoWay => kts_exm)
    (case m_NoWay_GlassError => kts_exm)
    (case i_NoWay_ValueError => kit_is)
    (case j_NoWay_Missing_NotFolder_Astray => kit_is)
    (case g_NAME_SIGNS => k_is)
    (case g_LONGEST_NAME => k_is)
    (case g_MOST_WORDS => k_is)
    (case z_ValueError => k_is)
    (case z_all => k_is)
    (case z_bool => k_is)
    (case z_isinstance => k_is)
    (case z_len => k_is)
    (case z_list => k_is)
    (case z_range => k_is)
    (case z_str => k_is)
    (case z_tuple => k_is)

