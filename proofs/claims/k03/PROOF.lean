import PyProof.Rows.All
import Wide.All
import OpenK.AllK
import Wide.FinOn
import Lean
import PyProof.EqAt
import PyProof.EqKinds
import PyProof.TupleCall
import PySem.Challenge.RW_runpaint_k03_whole_long_lines
set_option Elab.async false
set_option linter.all false
set_option maxRecDepth 100000
set_option maxHeartbeats 4000000
/-! THE HAND LAYER, for ints, bools, texts, own classes, LISTS and tuples (index, slices, in, append, pop ..), calls, loops. Paste it whole ahead of your own text; what your proof does not reach may be deleted. -/
namespace L2
open PySem PySem.Spec PyProof.Rows

/-- a key: an int or a str -/
abbrev Key := Sum Int Str
def keyIs : Key → Value → Bool
  | .inl k, v => Value.isInt k v
  | .inr x, v => Value.isStrOf x v
def keyH (w : World) : Key → Int
  | .inl k => hashInt k
  | .inr x => hashStr w x
theorem keyIs_shape : ∀ {k : Key} {v : Value}, keyIs k v = true → (∃ i t, k = Sum.inl i ∧ v = Value.int i t) ∨ (∃ x t, k = Sum.inr x ∧ v = Value.str x t)
  | .inl i, v, h => by
    obtain ⟨t, e⟩ := Value.isInt_shape (k := i) (v := v) h
    exact .inl ⟨i, t, rfl, e⟩
  | .inr x, v, h => by
    obtain ⟨t, e⟩ := Value.isStrOf_shape (x := x) (v := v) h
    exact .inr ⟨x, t, rfl, e⟩
theorem keyIs_int (i : Int) (t : Tok) : keyIs (.inl i) (.int i t) = true := by simp [keyIs, Value.isInt]
theorem keyIs_str (x : Str) (t : Tok) : keyIs (.inr x) (.str x t) = true := by simp [keyIs, Value.isStrOf]
theorem key_ll (a b : Int) : decide ((Sum.inl a : Key) = Sum.inl b) = (a == b) := by
  by_cases e : a = b
  · subst e; simp
  · have h : ¬ (Sum.inl a : Key) = Sum.inl b := fun q => e (Sum.inl.inj q)
    rw [decide_eq_false h]
    exact (beq_eq_false_iff_ne.mpr e).symm
theorem key_rr (a b : Str) : decide ((Sum.inr a : Key) = Sum.inr b) = decide (a = b) := by
  by_cases e : a = b
  · subst e; simp
  · have h : ¬ (Sum.inr a : Key) = Sum.inr b := fun q => e (Sum.inr.inj q)
    rw [decide_eq_false h, decide_eq_false e]
theorem key_lr (a : Int) (b : Str) : decide ((Sum.inl a : Key) = Sum.inr b) = false := decide_eq_false (fun q => nomatch q)
theorem key_rl (a : Str) (b : Int) : decide ((Sum.inr a : Key) = Sum.inl b) = false := decide_eq_false (fun q => nomatch q)

def mixKind (prog : Program) (w : World) : PySem.KeyKind prog w Key where
  is := keyIs
  hash := keyH w
  inj := fun v a b ha hb => by
    rcases keyIs_shape ha with ⟨i, t, rfl, rfl⟩ | ⟨x, t, rfl, rfl⟩
    · rcases keyIs_shape hb with ⟨j, u, rfl, e⟩ | ⟨y, u, rfl, e⟩
      · injection e with e1 _; rw [e1]
      · exact nomatch e
    · rcases keyIs_shape hb with ⟨j, u, rfl, e⟩ | ⟨y, u, rfl, e⟩
      · exact nomatch e
      · injection e with e1 _; rw [e1]
  byValue := fun k v h => by
    rcases keyIs_shape h with ⟨i, t, rfl, rfl⟩ | ⟨x, t, rfl, rfl⟩ <;> rfl
  pyHash := fun hv h => by
    rcases keyIs_shape hv with ⟨i, t, rfl, rfl⟩ | ⟨x, t, rfl, rfl⟩
    · exact wpAny_pyHash_int h
    · exact wpAny_pyHash_str h
  eqBool := fun hu hv h => by
    rcases keyIs_shape hu with ⟨i, t, rfl, rfl⟩ | ⟨x, t, rfl, rfl⟩
    · rcases keyIs_shape hv with ⟨j, u, rfl, rfl⟩ | ⟨y, u, rfl, rfl⟩
      · rw [key_ll] at h; exact wpAny_eqBool_int h
      · rw [key_lr] at h; exact SeqAt.EqAt.int_str i t y u _ _ _ _ h
    · rcases keyIs_shape hv with ⟨j, u, rfl, rfl⟩ | ⟨y, u, rfl, rfl⟩
      · rw [key_rl] at h; exact SeqAt.EqAt.str_int x t j u _ _ _ _ h
      · rw [key_rr] at h; exact wpAny_eqBool_str h
  «strs» := fun k x t v h => by
    rcases keyIs_shape h with ⟨i, u, rfl, e⟩ | ⟨y, u, rfl, e⟩
    · exact nomatch e
    · injection e with e1 _
      subst e1
      cases v <;> rfl

theorem mixKind_is (prog : Program) (w : World) (k : Key) (v : Value) : (mixKind prog w).is k v = keyIs k v := rfl
theorem mixKind_int (prog : Program) (w : World) (i : Int) (t : Tok) : (mixKind prog w).is (.inl i) (.int i t) = true := keyIs_int i t
theorem mixKind_str (prog : Program) (w : World) (x : Str) (t : Tok) : (mixKind prog w).is (.inr x) (.str x t) = true := keyIs_str x t
end L2

namespace L2
open PySem PySem.Spec PyProof.Rows

/-- a value, without the heap -/
inductive V where
  | non | bl (b : Bool) | int (i : Int) | str (x : Str) | byt (b : Array UInt8) | flt (b : UInt64) | ref (a : Addr) | ty (n : String)
  deriving DecidableEq

def RelV : V → Value → Prop
  | .non, u => u = Value.none
  | .bl b, u => u = Value.bool b
  | .int i, u => ∃ t, u = Value.int i t
  | .str x, u => ∃ t, u = Value.str x t
  | .byt b, u => ∃ t, u = Value.bytes b t
  | .flt b, u => ∃ t, u = Value.float b t
  | .ref a, u => u = Value.ref a
  | .ty n, u => u = Value.type n

abbrev Vals : List V → List Value → Prop := Paired RelV
theorem Vals.length {xs : List V} {us : List Value} (r : Vals xs us) : xs.length = us.length := Paired.length r
theorem Vals.get : ∀ {xs : List V} {us : List Value} {i : Nat} {x : V}, Vals xs us → xs[i]? = some x → ∃ u, us[i]? = some u ∧ RelV x u
  | _, _, _, _, .nil, e => by simp at e
  | _, _, 0, _, .cons r _, e => by simp at e; subst e; exact ⟨_, rfl, r⟩
  | _, _, i + 1, x, .cons _ t, e => by
    obtain ⟨u, h1, h2⟩ := Vals.get (i := i) (x := x) t (by simpa using e)
    exact ⟨u, by simpa using h1, h2⟩
theorem Vals.set {x : V} {u : Value} (r : RelV x u) : ∀ {xs : List V} {us : List Value} (i : Nat), Vals xs us → Vals (xs.set i x) (us.set i u)
  | _, _, _, .nil => .nil
  | _, _, 0, .cons _ t => .cons r t
  | _, _, i + 1, .cons q t => .cons q (Vals.set r i t)
theorem Vals.append : ∀ {xs ys : List V} {us ws : List Value}, Vals xs us → Vals ys ws → Vals (xs ++ ys) (us ++ ws)
  | _, _, _, _, .nil, s => s
  | _, _, _, _, .cons r t, s => .cons r (Vals.append t s)
theorem Vals.take : ∀ {xs : List V} {us : List Value} (n : Nat), Vals xs us → Vals (xs.take n) (us.take n)
  | _, _, 0, _ => .nil
  | _, _, _ + 1, .nil => .nil
  | _, _, n + 1, .cons r t => .cons r (Vals.take n t)
theorem Vals.drop : ∀ {xs : List V} {us : List Value} (n : Nat), Vals xs us → Vals (xs.drop n) (us.drop n)
  | _, _, 0, r => r
  | _, _, _ + 1, .nil => .nil
  | _, _, n + 1, .cons _ t => Vals.drop n t
theorem Vals.none_of : ∀ {xs : List V} {us : List Value} {i : Nat}, Vals xs us → xs[i]? = none → us[i]? = none := fun {xs us i} r e => by
  have h1 := r.length
  have h2 : xs.length ≤ i := List.getElem?_eq_none_iff.mp e
  exact List.getElem?_eq_none_iff.mpr (by omega)

def RelO : Option V → Option Value → Prop
  | some v, some u => RelV v u
  | none, none => True
  | _, _ => False
def KV {κ : Type} : List (κ × V) → List (κ × Value) → Prop := Paired fun (p : κ × V) (q : κ × Value) => p.1 = q.1 ∧ RelV p.2 q.2

/-- a key of a dict (00_mix): an int or a text -/
def kV : Key → V
  | .inl i => .int i
  | .inr x => .str x

/-- what stands at a tracked address -/
inductive HO where
  /-- a list -/
  | lst (xs : List V)
  /-- a tuple (never changes) -/
  | tup (xs : List V)
  /-- a dict whose keys are ints and texts; one whose keys are tuples of ints and texts (the empty one is both) -/
  | dK (kvs : List (Key × V)) | dT (kvs : List (List Key × V))
  /-- a set of ints: its members, its size -/
  | set (S : Int → Bool) (n : Nat)
  /-- an instance of the class at C, its dict at dx, its attributes -/
  | ins (C dx : Addr) (fs : List (Str × V))
  /-- the dict of the instance at x -/
  | own (x : Addr)
  /-- the dict of an exception -/
  | xd (fs : List (Str × V))
  /-- a bound method, f of x -/
  | met (f x : Addr)
  /-- a range object lo, lo + 1, .. below hi -/
  | rng (lo hi : Int)
  /-- a thing that is known to the object (the script; a dict while a loop walks it): read, never written while it is so -/
  | frz (o : Obj) (u : HO)
  /-- a code object's table -/
  | tbl (ps : Array Value)
  /-- any other thing, by what is true of its one object (a def of one's own: SetO a S n := HO.ext fun h => ..) -/
  | ext (φ : Heap → Prop)

abbrev Hp := Addr → Option HO
def upd (H : Hp) (a : Addr) (o : HO) : Hp := fun b => if b = a then some o else H b
theorem upd_same {H : Hp} {a : Addr} {o : HO} : upd H a o a = some o := by unfold upd; rw [if_pos rfl]
theorem upd_ne {H : Hp} {a b : Addr} {o : HO} (h : b ≠ a) : upd H a o b = H b := by unfold upd; rw [if_neg h]
theorem upd_upd {H : Hp} {a : Addr} {o u : HO} : upd (upd H a o) a u = upd H a u := by
  funext b; unfold upd; split <;> rfl
/-- two objects of different content stand apart -/
theorem ne_of {H : Hp} {a b : Addr} {o u : HO} (h : H a = some o) (h' : H b = some u) (d : o ≠ u) : a ≠ b := by
  intro e; subst e; rw [h] at h'; exact d (Option.some.inj h')
theorem ne_of_none {H : Hp} {a b : Addr} {o : HO} (h : H a = some o) (h' : H b = none) : a ≠ b := by
  intro e; subst e; rw [h] at h'; cases h'

section
variable (P : Program) (w : World)
def ObjOk (H : Hp) (h : Heap) (a : Addr) : HO → Prop
  | .lst xs => xs.length ≤ sizeLine ∧ ∃ (its : List Value) (n : Nat), Vals xs its ∧ h.get? a = some { cls := .type "list", data := .seq its.toArray n }
  | .tup xs => xs.length ≤ sizeLine ∧ ∃ its : List Value, Vals xs its ∧ IsTup h a its.toArray
  | .dK kvs => kvs.length ≤ sizeLine ∧ (a == sysModules) = false ∧ ∃ vs, KV kvs vs ∧ h.DictOf (mixKind P w) a vs
  | .dT kvs => kvs.length ≤ sizeLine ∧ (a == sysModules) = false ∧ ∃ xs : List (List Key × Addr × Value),
      Paired (fun (p : List Key × V) (q : List Key × Addr × Value) => p.1 = q.1 ∧ H q.2.1 = some (.tup (p.1.map kV)) ∧ RelV p.2 q.2.2) kvs xs ∧
      ∃ o es ep, h.get? a = some o ∧ o.ExactDict ∧ o.data = .dict es ep ∧ es.toList = xs.map (entryOfKey (tupleKind (mixKind P w))) ∧ (xs.map (·.1)).Nodup
  | .set S n => h.SetOf (intKind P w) a S n
  | .ins C dx fs => H dx = some (.own a) ∧ fs.length ≤ 1000 ∧ dx ≠ a ∧ h.get? a = some (PySem.W.instObj C dx) ∧
      ∃ mA, h.Ns1 dx mA ∧ (∀ f, RelO (fs.lookup f) (mA f)) ∧ PySem.Within mA (fs.map (·.1))
  | .own _ => ∃ o, h.get? a = some o
  | .xd fs => ∃ mA, h.Ns1 a mA ∧ ∀ f, RelO (fs.lookup f) (mA f)
  | .rng lo hi => ∃ t u v, h.get? a = some { cls := .type "range", data := .fields #[.int lo t, .int hi u, .int 1 v] }
  | .frz o u => h.get? a = some o ∧ ObjOk H h a u
  | .tbl ps => h.get? a = some { cls := .none, data := .fields ps }
  | .met f x => h.get? a = some (PySem.W.methodObj (.ref f) (.ref x))
  | .ext φ => φ h ∧ (∃ o, h.get? a = some o) ∧ ∀ h1 h2 : Heap, φ h1 → (∀ o, h1.get? a = some o → h2.get? a = some o) → φ h2
/-- the abstract heap is held -/
def HOk (H : Hp) (h : Heap) : Prop := ∀ a o, H a = some o → ObjOk P w H h a o
end

section
variable {P : Program} {w : World} {H H' : Hp} {h h' : Heap} {a : Addr} {o : HO}
theorem ObjOk.lt (x : ObjOk P w H h a o) : a < h.objs.size := by
  cases o with
  | lst xs => obtain ⟨_, _, _, _, e⟩ := x; exact Heap.lt_size e
  | tup xs => obtain ⟨_, _, _, p⟩ := x; exact p.lt
  | dK kvs => obtain ⟨_, _, _, _, o, _, _, e, _⟩ := x; exact Heap.lt_size e
  | dT kvs => obtain ⟨_, _, _, _, o, _, _, e, _⟩ := x; exact Heap.lt_size e
  | set S n => obtain ⟨o, _, _, _, e, _⟩ := x; exact Heap.lt_size e
  | ins C dx fs => obtain ⟨_, _, _, e, _⟩ := x; exact Heap.lt_size e
  | own y => obtain ⟨_, e⟩ := x; exact Heap.lt_size e
  | xd fs => obtain ⟨_, ⟨_, _, _, e, _⟩, _⟩ := x; exact Heap.lt_size e
  | rng lo hi => obtain ⟨_, _, _, e⟩ := x; exact Heap.lt_size e
  | frz ob u => obtain ⟨e, _⟩ := x; exact Heap.lt_size e
  | tbl ps => exact Heap.lt_size (show h.get? a = some _ from x)
  | met f y => exact Heap.lt_size (show h.get? a = some _ from x)
  | ext φ => obtain ⟨_, ⟨_, e⟩, _⟩ := x; exact Heap.lt_size e
theorem Paired.mapP {α β : Type} {F G : α → β → Prop} : ∀ {l₁ : List α} {l₂ : List β}, Paired F l₁ l₂ → (∀ a b, F a b → G a b) → Paired G l₁ l₂
  | _, _, .nil, _ => .nil
  | _, _, .cons r t, f => .cons (f _ _ r) (Paired.mapP t f)
theorem Paired.imp' {α β : Type} {F G : α → β → Prop} (f : ∀ a b, F a b → G a b) {l₁ : List α} {l₂ : List β} (r : Paired F l₁ l₂) : Paired G l₁ l₂ := Paired.mapP r f
/-- what an object's description leans on: its own object, its own dict, the tuples -/
theorem ObjOk.stay (x : ObjOk P w H h a o) (k : ∀ b u, (b = a ∨ H b = some (.own a)) → h.get? b = some u → h'.get? b = some u)
    (ho : ∀ b, H b = some (.own a) → H' b = some (.own a)) (ht : ∀ b xs, H b = some (.tup xs) → H' b = some (.tup xs)) : ObjOk P w H' h' a o := by
  induction o with
  | lst xs => obtain ⟨z, its, n, r, e⟩ := x; exact ⟨z, its, n, r, k _ _ (.inl rfl) e⟩
  | tup xs => obtain ⟨z, its, r, ob, e, c⟩ := x; exact ⟨z, its, r, ob, k _ _ (.inl rfl) e, c⟩
  | dK kvs => obtain ⟨z, y, vs, r, ob, es, ep, e, c⟩ := x; exact ⟨z, y, vs, r, ob, es, ep, k _ _ (.inl rfl) e, c⟩
  | dT kvs =>
    obtain ⟨z, y, xs, r, ob, es, ep, e, c⟩ := x
    exact ⟨z, y, xs, Paired.mapP r fun p q z => ⟨z.1, ht _ _ z.2.1, z.2.2⟩, ob, es, ep, k _ _ (.inl rfl) e, c⟩
  | set S n => obtain ⟨ob, es, ep, t, e, c⟩ := x; exact ⟨ob, es, ep, t, k _ _ (.inl rfl) e, c⟩
  | ins C dx fs =>
    obtain ⟨d, z, ne, e, mA, ⟨od, es, ep, e2, c⟩, r⟩ := x
    exact ⟨ho _ d, z, ne, k _ _ (.inl rfl) e, mA, ⟨od, es, ep, k _ _ (.inr d) e2, c⟩, r⟩
  | own y => obtain ⟨ob, e⟩ := x; exact ⟨ob, k _ _ (.inl rfl) e⟩
  | xd fs => obtain ⟨mA, ⟨od, es, ep, e, c⟩, r⟩ := x; exact ⟨mA, ⟨od, es, ep, k _ _ (.inl rfl) e, c⟩, r⟩
  | rng lo hi => obtain ⟨t, u, v, e⟩ := x; exact ⟨t, u, v, k _ _ (.inl rfl) e⟩
  | frz ob u ih => obtain ⟨e, q⟩ := x; exact ⟨k _ _ (.inl rfl) e, ih q⟩
  | tbl ps =>
    have e : h.get? a = some { cls := .none, data := .fields ps } := x
    show h'.get? a = some { cls := .none, data := .fields ps }
    exact k a _ (.inl rfl) e
  | met f y =>
    have e : h.get? a = some (PySem.W.methodObj (.ref f) (.ref y)) := x
    show h'.get? a = some (PySem.W.methodObj (.ref f) (.ref y))
    exact k a _ (.inl rfl) e
  | ext φ => obtain ⟨p, ⟨o, e⟩, st⟩ := x; exact ⟨st _ _ p fun o q => k _ _ (.inl rfl) q, ⟨o, k _ _ (.inl rfl) e⟩, st⟩
theorem HOk.lt (x : HOk P w H h) (e : H a = some o) : a < h.objs.size := (x a o e).lt
theorem HOk.fresh (x : HOk P w H h) (e : h.objs.size ≤ a) : H a = none := by
  cases q : H a with
  | none => rfl
  | some u => exact absurd (Nat.lt_of_lt_of_le (x.lt q) e) (Nat.lt_irrefl _)
/-- every object of the heap is kept -/
theorem HOk.kept (x : HOk P w H h) (k : ∀ b u, h.get? b = some u → h'.get? b = some u) : HOk P w H h' := fun a o e =>
  (x a o e).stay (fun b u _ q => k b u q) (fun _ q => q) fun _ _ q => q
/-- a new object is laid and tracked -/
theorem HOk.laid (x : HOk P w H h) (k : ∀ b u, h.get? b = some u → h'.get? b = some u) (hp : h.objs.size ≤ a) (new : ObjOk P w (upd H a o) h' a o) : HOk P w (upd H a o) h' := fun b u e => by
  have hn := x.fresh hp
  by_cases hb : b = a
  · subst hb; rw [upd_same] at e; cases e; exact new
  · rw [upd_ne hb] at e
    exact (x b u e).stay (fun c v _ q => k c v q) (fun c q => by rw [upd_ne (ne_of_none q hn)]; exact q) fun c xs q => by rw [upd_ne (ne_of_none q hn)]; exact q
end

/-- what may be read as u: it is u, or a known u -/
def Rd (H : Hp) (a : Addr) (u : HO) : Prop := H a = some u ∨ ∃ o, H a = some (.frz o u)
theorem Rd.of {H : Hp} {a : Addr} {u : HO} (h : H a = some u) : Rd H a u := .inl h
theorem Rd.ok {P : Program} {w : World} {H : Hp} {h : Heap} {a : Addr} {u : HO} (r : Rd H a u) (x : HOk P w H h) : ObjOk P w H h a u := by
  rcases r with r | ⟨o, r⟩
  · exact x a u r
  · obtain ⟨_, q⟩ := x a _ r
    exact q
/-- what may be written -/
def Mut : Option HO → Prop
  | some (.lst _) => True
  | some (.dK _) => True
  | some (.dT _) => True
  | some (.set _ _) => True
  | some (.ins _ _ _) => True
  | some (.ext _) => True
  | _ => False
section
variable {P : Program} {w : World} {H : Hp} {h h' : Heap} {x e : Addr} {o' : HO}
/-- the object at e is changed: x itself, or the dict of the instance x -/
theorem HOk.write (ok : HOk P w H h) (mu : Mut (H x)) (he : e = x ∨ H e = some (.own x)) (k : ∀ b u, b ≠ e → h.get? b = some u → h'.get? b = some u) (heo : ∃ u, h'.get? e = some u)
    (new : ObjOk P w (upd H x o') h' x o') : HOk P w (upd H x o') h' := fun b u q => by
  have nown : ∀ c y, H c = some (.own y) → c ≠ x := fun c y r z => by subst z; rw [r] at mu; exact mu
  have ntup : ∀ c xs, H c = some (.tup xs) → c ≠ x := fun c xs r z => by subst z; rw [r] at mu; exact mu
  by_cases hb : b = x
  · subst hb; rw [upd_same] at q; cases q; exact new
  · rw [upd_ne hb] at q
    by_cases hbe : b = e
    · have q' : H b = some (.own x) := by
        rcases he with z | z
        · exact absurd (hbe.trans z) hb
        · rw [hbe]; exact z
      rw [q] at q'; cases q'
      obtain ⟨v, hv⟩ := heo
      exact ⟨v, by rw [hbe]; exact hv⟩
    · refine (ok b u q).stay (fun c v hc r => k c v ?_ r) (fun c r => by rw [upd_ne (nown c b r)]; exact r) fun c xs r => by rw [upd_ne (ntup c xs r)]; exact r
      rcases hc with rfl | hc
      · exact hbe
      · rintro rfl
        rcases he with z | z
        · exact nown c b hc z
        · rw [hc] at z; cases z; exact hb rfl
end

/-! ### kept unless tracked; of the frames at fs (the callers') the slots may change (an exception that passes writes there); of the records at ex (iterators) nothing is said -/
structure Un (fs ex : List Addr) (H H' : Hp) (h h' : Heap) : Prop where
  keep : ∀ b o, h.get? b = some o → H b = none → b ∉ fs → b ∉ ex → h'.get? b = some o
  slot : ∀ b o, h.get? b = some o → H b = none → b ∈ fs → b ∉ ex → ∃ sl, h'.get? b = some { o with slots := sl }
  free : ∀ b o, h.get? b = some o → H b = none → b ∉ ex → H' b = none
  there : ∀ b o, h.get? b = some o → b ∉ ex → ∃ o', h'.get? b = some o'
  tups : ∀ b xs, H b = some (.tup xs) → H' b = some (.tup xs)
  frzs : ∀ b o u, H b = some (.frz o u) → H' b = some (.frz o u)
  tbls : ∀ b ps, H b = some (.tbl ps) → ∃ more, H' b = some (.tbl (ps ++ more))
section
variable {fs fs' ex ex' : List Addr} {H H1 H2 : Hp} {h h1 h2 h' : Heap} {a x e : Addr} {o : HO}
theorem Un.any (u : Un fs ex H H1 h h1) {b : Addr} {ob : Obj} (q : h.get? b = some ob) (n : H b = none) (hx : b ∉ ex) : ∃ sl, h1.get? b = some { ob with slots := sl } := by
  by_cases hb : b ∈ fs
  · exact u.slot b ob q n hb hx
  · exact ⟨ob.slots, u.keep b ob q n hb hx⟩
theorem Un.trans (a : Un fs ex H H1 h h1) (b : Un fs ex H1 H2 h1 h2) : Un fs ex H H2 h h2 where
  keep := fun c ob q n hc hx => b.keep c ob (a.keep c ob q n hc hx) (a.free c ob q n hx) hc hx
  slot := fun c ob q n hc hx => by
    obtain ⟨sl, e1⟩ := a.slot c ob q n hc hx
    obtain ⟨sl', e2⟩ := b.slot c _ e1 (a.free c ob q n hx) hc hx
    exact ⟨sl', e2⟩
  free := fun c ob q n hx => by
    obtain ⟨o', e1⟩ := a.there c ob q hx
    exact b.free c o' e1 (a.free c ob q n hx) hx
  there := fun c ob q hx => by
    obtain ⟨o', e1⟩ := a.there c ob q hx
    exact b.there c o' e1 hx
  tups := fun c xs q => b.tups c xs (a.tups c xs q)
  frzs := fun c ob xs q => b.frzs c ob xs (a.frzs c ob xs q)
  tbls := fun c ps q => by
    obtain ⟨m1, e1⟩ := a.tbls c ps q
    obtain ⟨m2, e2⟩ := b.tbls c _ e1
    exact ⟨m1 ++ m2, by rw [e2, Array.append_assoc]⟩
theorem Un.kept (k : ∀ b u, h.get? b = some u → h'.get? b = some u) : Un fs ex H H h h' :=
  ⟨fun b ob q _ _ _ => k b ob q, fun b ob q _ _ _ => ⟨ob.slots, k b ob q⟩, fun _ _ _ n _ => n, fun b ob q _ => ⟨ob, k b ob q⟩, fun _ _ q => q, fun _ _ _ q => q, fun _ ps q => ⟨#[], by rw [q]; simp⟩⟩
theorem Un.refl : Un fs ex H H h h := Un.kept fun _ _ q => q
theorem Un.laid (k : ∀ b u, h.get? b = some u → h'.get? b = some u) (hp : h.objs.size ≤ a) (hn : H a = none) : Un fs ex H (upd H a o) h h' where
  keep := fun b u q _ _ _ => k b u q
  slot := fun b u q _ _ _ => ⟨u.slots, k b u q⟩
  free := fun b u q n _ => by rw [upd_ne (Nat.ne_of_lt (Nat.lt_of_lt_of_le (Heap.lt_size q) hp))]; exact n
  there := fun b u q _ => ⟨u, k b u q⟩
  tups := fun b xs q => by rw [upd_ne (ne_of_none q hn)]; exact q
  frzs := fun b u xs q => by rw [upd_ne (ne_of_none q hn)]; exact q
  tbls := fun b ps q => ⟨#[], by rw [upd_ne (ne_of_none q hn), q]; simp⟩
theorem Un.write (mu : Mut (H x)) (he : e = x ∨ H e = some (.own x)) (k : ∀ b u, b ≠ e → h.get? b = some u → h'.get? b = some u) (heo : ∃ u, h'.get? e = some u) : Un fs ex H (upd H x o) h h' := by
  have hx : ∀ b, H b = none → b ≠ x := fun b n z => by subst z; rw [n] at mu; exact mu
  have hb : ∀ b, H b = none → b ≠ e := fun b n z => by
    subst z
    rcases he with r | r
    · exact hx b n r
    · rw [n] at r; cases r
  have hm : ∀ b u, H b = some u → ¬ Mut (some u) → b ≠ x := fun b u q nm z => by subst z; rw [q] at mu; exact nm mu
  refine ⟨fun b u q n _ _ => k b u (hb b n) q, fun b u q n _ _ => ⟨u.slots, k b u (hb b n) q⟩, fun b u q n _ => by rw [upd_ne (hx b n)]; exact n, fun b u q _ => ?_,
    fun b xs q => by rw [upd_ne (hm b _ q fun z => z)]; exact q, fun b u xs q => by rw [upd_ne (hm b _ q fun z => z)]; exact q, fun b ps q => ⟨#[], by rw [upd_ne (hm b _ q fun z => z), q]; simp⟩⟩
  by_cases hbe : b = e
  · subst hbe; exact heo
  · exact ⟨u, k b u hbe q⟩
theorem Un.mono (u : Un fs ex H H1 h h1) (hs : ∀ b ∈ fs, b ∈ fs') (hx : ∀ b ∈ ex, b ∈ ex') : Un fs' ex' H H1 h h1 :=
  ⟨fun b ob q n hb he => u.keep b ob q n (fun z => hb (hs b z)) fun z => he (hx b z), fun _ _ q n _ he => u.any q n fun z => he (hx _ z), fun b ob q n he => u.free b ob q n fun z => he (hx b z), fun b ob q he => u.there b ob q fun z => he (hx b z), u.tups, u.frzs, u.tbls⟩
end

/-! ### the heap without what is tracked -/
def trk (h : Heap) (H : Hp) : List Addr := (List.range h.objs.size).filter fun a => (H a).isSome
def hidT (h : Heap) (H : Hp) : Heap := PySem.W.hideAll h (trk h H)
theorem hidT_size (h : Heap) (H : Hp) : (hidT h H).objs.size = h.objs.size := PySem.W.hideAll_size _ _
theorem hidT_get {h : Heap} {H : Hp} {b : Addr} {o : Obj} (e : h.get? b = some o) (n : H b = none) : (hidT h H).get? b = some o :=
  PySem.W.hideAll_get _ e fun hm => by
    have q : (H b).isSome = true := (List.mem_filter.mp hm).2
    rw [n] at q; simp at q
theorem of_hidT {h : Heap} {H : Hp} {b : Addr} {o : Obj} (e : (hidT h H).get? b = some o) : h.get? b = some o ∧ H b = none := by
  have e' : h.get? b = some o := PySem.W.of_hideAll (trk h H) e
  refine ⟨e', ?_⟩
  cases q : H b with
  | none => rfl
  | some x =>
    have hm : b ∈ trk h H := List.mem_filter.mpr ⟨List.mem_range.mpr (Heap.lt_size e'), by simp [q]⟩
    have z : (hidT h H).get? b = none := PySem.W.hideAll_none (trk h H) hm
    rw [z] at e; cases e

/-! ### OpenK's ledger, filled with every new object but one -/
def allNews (g h : Heap) (L : Addr) : List (Addr × Obj) := (List.range h.objs.size).filterMap fun a => if a = L ∨ (g.get? a).isSome = true then none else (h.get? a).map fun o => (a, o)
theorem mem_allNews {g h : Heap} {L a : Addr} {o : Obj} (h1 : a ≠ L) (h2 : g.get? a = none) (h3 : h.get? a = some o) : (a, o) ∈ allNews g h L :=
  List.mem_filterMap.mpr ⟨a, List.mem_range.mpr (Heap.lt_size h3), by simp [h1, h2, h3]⟩
theorem of_mem_allNews {g h : Heap} {L : Addr} {p : Addr × Obj} (hp : p ∈ allNews g h L) : p.1 ≠ L ∧ g.get? p.1 = none ∧ h.get? p.1 = some p.2 := by
  obtain ⟨b, _, e⟩ := List.mem_filterMap.mp hp
  split at e
  · cases e
  · rename_i hn
    cases q : h.get? b with
    | none => rw [q] at e; simp at e
    | some u =>
      rw [q] at e
      simp only [Option.map_some, Option.some.injEq] at e
      subst e
      refine ⟨fun z => hn (.inl z), ?_, q⟩
      show g.get? b = none
      cases r : g.get? b with
      | none => rfl
      | some v => exact (hn (.inr (by simp [r]))).elim
def rest (g h : Heap) (L d : Addr) : List (Addr × Obj) := (allNews g h L).filter fun p => decide (p.1 ≠ d)
theorem rest_ne {g h : Heap} {L d : Addr} : ∀ p ∈ rest g h L d, p.1 ≠ d := fun p hp => of_decide_eq_true (List.mem_filter.mp hp).2
theorem mem_rest {g h : Heap} {L d a : Addr} {o : Obj} (h1 : a ≠ L) (h2 : g.get? a = none) (h3 : h.get? a = some o) (h4 : a ≠ d) : (a, o) ∈ rest g h L d :=
  List.mem_filter.mpr ⟨mem_allNews h1 h2 h3, decide_eq_true h4⟩
theorem news_all {g h : Heap} {L : Addr} : News g L h (allNews g h L) := fun p hp => let ⟨a, b, c⟩ := of_mem_allNews hp; ⟨c, a, b⟩
theorem news_at {g h : Heap} {L d : Addr} {o : Obj} (h1 : d ≠ L) (h2 : g.get? d = none) (h3 : h.get? d = some o) : News g L h ((d, o) :: rest g h L d) := fun p hp => by
  rcases List.mem_cons.mp hp with rfl | hp
  · exact ⟨h3, h1, h2⟩
  · exact news_all p (List.mem_filter.mp hp).1
/-- behind a rule that changed d alone: all else but the frame is kept -/
theorem kept_of_news {g h h' : Heap} {L d : Addr} {m : Str → Option Value} (k : ∀ b o, g.get? b = some o → h.get? b = some o) (F : Fr g L h' m) (N : News g L h' (rest g h L d)) :
    ∀ b o, b ≠ L → b ≠ d → h.get? b = some o → h'.get? b = some o := fun b o h1 h2 e => by
  cases q : g.get? b with
  | some u =>
    have := k b u q
    rw [e] at this; cases this
    exact F.keep b _ q
  | none => exact (N (b, o) (mem_rest h1 q e h2)).1
end L2

namespace L2
open PySem PySem.Spec PyProof.Rows

/-- the module's facts, over the base: the heap at the law's entry without what is tracked there -/
structure Mod (K : PySem.W.Frag) (mg : Str → Option Value) (base : Heap) : Prop where
  kin : K.In base
  glob : base.Ns mainGlobals mg
  blt : ∃ mb, base.Ns builtinsNs mb ∧ ∀ x : Str, x ≠ "__name__" → mb x = bootBuiltins x
  nolimit : base.NoLimit

/-- the context: a def's body (or a comprehension's block) running. base: fixed through the whole law; s₀, H₀: the entry; outer: the frames whose slots others may change (a def's callers); stack: all frames that run;
   ex: iterators that were made ahead of the entry and are walked here (a comprehension's); fn: the names whose cells were made at the entry (a def: all; a comprehension's block: its own); calm: not within an except suite; pn: pins that every state bears; xe: what is wanted of an exception that leaves the code -/
structure Cx where
  prog : Program
  w : World
  K : PySem.W.Frag
  mg : Str → Option Value
  base : Heap
  A : Around
  N : List Str
  s₀ : Shared
  H₀ : Hp
  env : Env
  outer : List Env
  stack : List Env
  ex : List Addr
  fn : Str → Bool
  calm : Bool
  pn : List (Addr × Obj)
  xe : Value → Shared → Prop
/-- the callers' frames -/
def frs (l : List Env) : List Addr := l.filterMap (·.frame)
abbrev Cx.fs (X : Cx) : List Addr := frs X.outer

def Vis (sc : Scope) (x : Str) : Prop := sc.names.lookup x = some .local ∨ sc.names.lookup x = some .cell ∨ sc.names.lookup x = some .free
def Loc (sc : Scope) (x : Str) : Prop := sc.names.lookup x = some .local ∨ sc.names.lookup x = some .cell
def Look (env : Env) (h : Heap) (m : Str → Option Value) (x : Str) (u : Value) : Prop :=
  (env.kindOf x = some .local ∧ m x = some u) ∨ ((env.kindOf x = some .cell ∨ env.kindOf x = some .free) ∧ ∃ c, env.cells.lookup x = some c ∧ h.IsCell c (some u))

structure Cx.Ok (X : Cx) : Prop where
  mod : Mod X.K X.mg X.base
  kind : X.env.scope.kind = .function
  glob : X.env.globals = mainGlobals
  blt : X.env.builtins = builtinsNs
  above : X.s₀.heap.objs.size ≤ X.env.locals
  inj : ∀ x y c, X.env.cells.lookup x = some c → X.env.cells.lookup y = some c → x = y
  has : ∀ x, (X.env.kindOf x = some .cell ∨ X.env.kindOf x = some .free) → ∃ c, X.env.cells.lookup x = some c
  cab : ∀ x c, X.fn x = true → X.env.cells.lookup x = some c → X.s₀.heap.objs.size ≤ c
  hd : X.calm = true → X.A.handled = none
  frames : X.A.frames = some X.stack
  stk : X.stack = X.outer ∨ (X.stack = X.env :: X.outer ∧ X.env.frame = some X.env.locals)
  exf : ∀ b ∈ X.ex, b ≠ X.env.locals ∧ ∀ x c, X.env.cells.lookup x = some c → c ≠ b
  bs : ∀ b o, X.base.get? b = some o → X.s₀.heap.get? b = some o ∧ X.H₀ b = none
  bsz : X.base.objs.size ≤ X.s₀.heap.objs.size
  noex : ∀ b o, X.base.get? b = some o → b ∉ X.ex
  exfs : ∀ b ∈ X.ex, b ∉ X.fs
  funs : X.s₀.heap.FunFrames X.base X.outer
  frf : ∀ b ∈ X.fs, X.H₀ b = none

structure Inv (X : Cx) (pins : List (Addr × Obj)) (σ : List (Option V)) (H : Hp) (s : Shared) : Prop where
  ok : X.Ok
  os : s.os = X.s₀.os
  bare : AllBare s.gens
  base : Un X.fs X.ex X.H₀ H X.s₀.heap s.heap
  loc : ∃ m, s.heap.Ns X.env.locals m ∧ ∀ (i : Nat) (x : Str) (v : V), X.N[i]? = some x → σ[i]? = some (some v) → Vis X.env.scope x → ∃ u, RelV v u ∧ Look X.env s.heap m x u
  cell : ∀ x c, X.env.cells.lookup x = some c → ∃ v, s.heap.IsCell c v
  free : H X.env.locals = none
  freeC : ∀ x c, X.env.cells.lookup x = some c → H c = none
  pin : ∀ p ∈ X.pn ++ pins, s.heap.get? p.1 = some p.2 ∧ H p.1 = none ∧ p.1 ≠ X.env.locals ∧ p.1 ∉ X.fs ∧ ∀ v, p.2.data ≠ .cell v
  hok : HOk X.prog X.w H s.heap
  len : σ.length = X.N.length

section
variable {X : Cx} {pins : List (Addr × Obj)} {σ : List (Option V)} {H H' : Hp} {s : Shared} {h' : Heap}

theorem Cx.Ok.nofr (ok : X.Ok) {b : Addr} {o : Obj} (e : X.base.get? b = some o) : b ∉ X.fs := fun hb => by
  have := (ok.funs.mem hb).1
  rw [e] at this; cases this
theorem Inv.bs (I : Inv X pins σ H s) : ∀ b o, X.base.get? b = some o → s.heap.get? b = some o ∧ H b = none := fun b o e =>
  ⟨I.base.keep b o (I.ok.bs b o e).1 (I.ok.bs b o e).2 (I.ok.nofr e) (I.ok.noex b o e), I.base.free b o (I.ok.bs b o e).1 (I.ok.bs b o e).2 (I.ok.noex b o e)⟩
theorem Inv.bk (I : Inv X pins σ H s) : ∀ b o, X.base.get? b = some o → s.heap.get? b = some o := fun b o e => (I.bs b o e).1
theorem Inv.mod (I : Inv X pins σ H s) : Mod X.K X.mg X.base := I.ok.mod
theorem Inv.kIn (I : Inv X pins σ H s) : X.K.In s.heap := I.ok.mod.kin.keeps I.bk
theorem Inv.nolimit (I : Inv X pins σ H s) : s.heap.NoLimit := I.ok.mod.nolimit.keeps I.bk
/-- the frame over the base: for OpenK's rules (K.In X.base is I.mod.kin) -/
theorem Inv.fr (I : Inv X pins σ H s) : ∃ m, Fr X.base X.env.locals s.heap m :=
  let ⟨m, hn, _⟩ := I.loc
  ⟨m, hn, I.bk, Nat.le_trans I.ok.bsz I.ok.above⟩
theorem Inv.lt (I : Inv X pins σ H s) : X.env.locals < s.heap.objs.size := let ⟨_, hn, _⟩ := I.loc; hn.lt
theorem Inv.sz (I : Inv X pins σ H s) : X.s₀.heap.objs.size ≤ s.heap.objs.size := Nat.le_trans I.ok.above (Nat.le_of_lt I.lt)
theorem Inv.nofs (I : Inv X pins σ H s) {a : Addr} (h : s.heap.objs.size ≤ a) : a ∉ X.fs := fun hb => by
  obtain ⟨_, o, ho, _⟩ := I.ok.funs.mem hb
  exact absurd (Nat.lt_of_lt_of_le (Heap.lt_size ho) (Nat.le_trans I.sz h)) (Nat.lt_irrefl _)
theorem Inv.cne (I : Inv X pins σ H s) : ∀ x c, X.env.cells.lookup x = some c → c ≠ X.env.locals := fun x c e z => by
  obtain ⟨v, o, ho, hd⟩ := I.cell x c e
  obtain ⟨m, ⟨o', es, ep, ho', hd', _⟩, _⟩ := I.loc
  rw [z, ho'] at ho; cases ho; rw [hd'] at hd; cases hd
theorem Inv.funs (I : Inv X pins σ H s) : s.heap.FunFrames X.base X.outer := by
  have all : ∀ (l : List Env), (∀ b ∈ frs l, b ∈ X.fs) → X.s₀.heap.FunFrames X.base l → s.heap.FunFrames X.base l := by
    intro l
    induction l with
    | nil => intro _ _; trivial
    | cons env r ih =>
      intro hs hl
      obtain ⟨hk, ⟨L, o, hf, hn, ho, hd⟩, hr⟩ := hl
      have hL : L ∈ X.fs := hs L (by unfold frs; rw [List.filterMap_cons, hf]; exact List.mem_cons_self)
      obtain ⟨sl, e⟩ := I.base.slot L o ho (I.ok.frf L hL) hL fun z => I.ok.exfs L z hL
      exact ⟨hk, ⟨L, _, hf, hn, e, hd⟩, ih (fun b hb => hs b (by unfold frs; rw [List.filterMap_cons, hf]; exact List.mem_cons_of_mem _ hb)) hr⟩
  exact all X.outer (fun _ hb => hb) I.ok.funs

/-- the frames that run, for a call -/
theorem Inv.stack (I : Inv X pins σ H s) : s.heap.FunFrames X.base X.stack := by
  rcases I.ok.stk with e | ⟨e, hf⟩
  · rw [e]; exact I.funs
  · rw [e]
    obtain ⟨m, hn, _⟩ := I.loc
    refine .cons (by rw [I.ok.kind]; decide) hf hn ?_ I.funs
    exact Heap.get?_none_of_le (Nat.le_trans I.ok.bsz I.ok.above)
theorem Inv.stkSub (I : Inv X pins σ H s) : ∀ b ∈ frs X.stack, b ∈ X.env.locals :: X.fs := fun b hb => by
  rcases I.ok.stk with e | ⟨e, hf⟩
  · rw [e] at hb; exact List.mem_cons_of_mem _ hb
  · rw [e] at hb
    unfold frs at hb
    rw [List.filterMap_cons, hf] at hb
    exact hb
theorem Inv.stkFree (I : Inv X pins σ H s) : ∀ b ∈ frs X.stack, H b = none := fun b hb => by
  rcases List.mem_cons.mp (I.stkSub b hb) with e | hb
  · rw [e]; exact I.free
  · obtain ⟨_, o, ho, _⟩ := I.ok.funs.mem hb
    exact I.base.free b o ho (I.ok.frf b hb) fun z => I.ok.exfs b z hb

/-- THE STEP: the untracked objects but the frame and the records at ch are kept (the callers' frames up to slots), the frame's map is kept, the new abstract heap is held -/
theorem Inv.step {g' : Array GenState} {t' : Nat} {d' : Drawn} {ch : List Addr} (I : Inv X pins σ H s)
    (hch : ∀ b ∈ ch, (b ∈ X.ex ∨ X.s₀.heap.objs.size ≤ b) ∧ b ≠ X.env.locals ∧ (∀ x c, X.env.cells.lookup x = some c → c ≠ b) ∧ ∀ p ∈ X.pn ++ pins, p.1 ≠ b)
    (keep : ∀ b o, b ≠ X.env.locals → b ∉ X.fs → b ∉ ch → s.heap.get? b = some o → H b = none → h'.get? b = some o)
    (slot : ∀ b o, b ≠ X.env.locals → b ∈ X.fs → b ∉ ch → s.heap.get? b = some o → H b = none → ∃ sl, h'.get? b = some { o with slots := sl }) (free : ∀ b o, b ∉ ch → s.heap.get? b = some o → H b = none → H' b = none)
    (there : ∀ b o, b ∉ ch → s.heap.get? b = some o → ∃ o', h'.get? b = some o')
    (tups : ∀ b xs, H b = some (.tup xs) → H' b = some (.tup xs)) (frzs : ∀ b o u, H b = some (.frz o u) → H' b = some (.frz o u)) (tbls : ∀ b ps, H b = some (.tbl ps) → ∃ more, H' b = some (.tbl (ps ++ more)))
    (ns : ∀ m, s.heap.Ns X.env.locals m → h'.Ns X.env.locals m) (hok : HOk X.prog X.w H' h') (hg : AllBare g') :
    Inv X pins σ H' { s with heap := h', gens := g', drawn := d', toks := t' } := by
  have neL : ∀ b o, X.s₀.heap.get? b = some o → b ≠ X.env.locals := fun b o e => Nat.ne_of_lt (Nat.lt_of_lt_of_le (Heap.lt_size e) I.ok.above)
  have neC : ∀ b o, X.s₀.heap.get? b = some o → b ∉ X.ex → b ∉ ch := fun b o e hx hb => by
    rcases (hch b hb).1 with z | z
    · exact hx z
    · exact absurd (Nat.lt_of_lt_of_le (Heap.lt_size e) z) (Nat.lt_irrefl _)
  have cellK : ∀ x c, X.env.cells.lookup x = some c → ∀ v, s.heap.IsCell c v → h'.IsCell c v := fun x c e v ⟨o, ho, hd⟩ => by
    have nch : c ∉ ch := fun z => (hch c z).2.2.1 x c e rfl
    by_cases hc : c ∈ X.fs
    · obtain ⟨sl, q⟩ := slot c o (I.cne x c e) hc nch ho (I.freeC x c e)
      exact ⟨_, q, hd⟩
    · exact ⟨o, keep c o (I.cne x c e) hc nch ho (I.freeC x c e), hd⟩
  refine ⟨I.ok, I.os, hg, ⟨fun b o e n hb hx => ?_, fun b o e n hb hx => ?_, fun b o e n hx => ?_, fun b o e hx => ?_, fun b xs e => tups b xs (I.base.tups b xs e), fun b o xs e => frzs b o xs (I.base.frzs b o xs e), fun b ps e => ?_⟩, ?_, fun x c e => ?_, ?_, fun x c e => ?_, fun p hp => ?_, hok, I.len⟩
  · exact keep b o (neL b o e) hb (neC b o e hx) (I.base.keep b o e n hb hx) (I.base.free b o e n hx)
  · obtain ⟨sl, e1⟩ := I.base.slot b o e n hb hx
    obtain ⟨sl', e2⟩ := slot b _ (neL b o e) hb (neC b o e hx) e1 (I.base.free b o e n hx)
    exact ⟨sl', e2⟩
  · obtain ⟨o', e1⟩ := I.base.there b o e hx
    exact free b o' (neC b o e hx) e1 (I.base.free b o e n hx)
  · obtain ⟨o', e1⟩ := I.base.there b o e hx
    exact there b o' (neC b o e hx) e1
  · obtain ⟨m1, e1⟩ := I.base.tbls b ps e
    obtain ⟨m2, e2⟩ := tbls b _ e1
    exact ⟨m1 ++ m2, by rw [e2, Array.append_assoc]⟩
  · obtain ⟨m, hn, hl⟩ := I.loc
    refine ⟨m, ns m hn, fun i x v e1 e2 e3 => ?_⟩
    obtain ⟨u, r, l⟩ := hl i x v e1 e2 e3
    refine ⟨u, r, ?_⟩
    rcases l with l | ⟨k, c, e, z⟩
    · exact .inl l
    · exact .inr ⟨k, c, e, cellK x c e _ z⟩
  · obtain ⟨v, z⟩ := I.cell x c e
    exact ⟨v, cellK x c e v z⟩
  · obtain ⟨m, ⟨o, _, _, ho, _⟩, _⟩ := I.loc
    exact free _ o (fun z => (hch _ z).2.1 rfl) ho I.free
  · obtain ⟨v, o, ho, hd⟩ := I.cell x c e
    exact free c o (fun z => (hch c z).2.2.1 x c e rfl) ho (I.freeC x c e)
  · obtain ⟨e, n, ne, nf, d⟩ := I.pin p hp
    have nch : p.1 ∉ ch := fun z => (hch p.1 z).2.2.2 p hp rfl
    exact ⟨keep p.1 p.2 ne nf nch e n, free p.1 p.2 nch e n, ne, nf, d⟩
/-- .. where the frame's own object is kept too -/
theorem Inv.un {t' : Nat} (I : Inv X pins σ H s) (u : Un X.fs [] H H' s.heap h') (hok : HOk X.prog X.w H' h') : Inv X pins σ H' { s with heap := h', toks := t' } := by
  obtain ⟨m, ⟨o, es, ep, ho, r⟩, _⟩ := id I.loc
  obtain ⟨sl, hL⟩ := u.any ho I.free (by simp)
  exact I.step (g' := s.gens) (d' := s.drawn) (ch := []) (fun _ z => nomatch z) (fun b o _ hb _ e n => u.keep b o e n hb (by simp)) (fun b o _ hb _ e n => u.slot b o e n hb (by simp)) (fun b o _ e n => u.free b o e n (by simp)) (fun b o _ e => u.there b o e (by simp)) u.tups u.frzs u.tbls (fun m' hm => by
    obtain ⟨o', es', ep', ho', r'⟩ := hm
    rw [ho] at ho'; cases ho'
    exact ⟨_, es', ep', hL, r'⟩) hok I.bare
/-- behind a call (or a comprehension's block): the slots of this frame may have changed too, the records at ch may have turned -/
theorem Inv.call {g' : Array GenState} {t' : Nat} {d' : Drawn} {ch : List Addr} (I : Inv X pins σ H s) (u : Un (frs X.stack) ch H H' s.heap h') (hok : HOk X.prog X.w H' h') (hg : AllBare g')
    (hch : ∀ b ∈ ch, (b ∈ X.ex ∨ X.s₀.heap.objs.size ≤ b) ∧ b ≠ X.env.locals ∧ (∀ x c, X.env.cells.lookup x = some c → c ≠ b) ∧ ∀ p ∈ X.pn ++ pins, p.1 ≠ b) :
    Inv X pins σ H' { s with heap := h', gens := g', drawn := d', toks := t' } := by
  obtain ⟨m, ⟨o, es, ep, ho, r⟩, _⟩ := id I.loc
  obtain ⟨sl, hL⟩ := u.any ho I.free fun z => (hch _ z).2.1 rfl
  exact I.step (ch := ch) hch (fun b o hL hb hc e n => u.keep b o e n (fun z => (List.mem_cons.mp (I.stkSub b z)).elim hL hb) hc) (fun b o _ _ hc e n => u.any e n hc) (fun b o hc e n => u.free b o e n hc) (fun b o hc e => u.there b o e hc) u.tups u.frzs u.tbls (fun m' hm => by
    obtain ⟨o', es', ep', ho', r'⟩ := hm
    rw [ho] at ho'; cases ho'
    exact ⟨_, es', ep', hL, r'⟩) hok hg
/-- an untracked record of ours (an iterator) has turned -/
theorem Inv.turned {t' : Nat} {it : Addr} (I : Inv X pins σ H s) (k : ∀ b o, b ≠ it → s.heap.get? b = some o → h'.get? b = some o) (hn : H it = none) (hL : it ≠ X.env.locals)
    (h1 : it ∈ X.ex ∨ X.s₀.heap.objs.size ≤ it) (h2 : ∀ x c, X.env.cells.lookup x = some c → c ≠ it) (h3 : ∀ p ∈ X.pn ++ pins, p.1 ≠ it) : Inv X pins σ H { s with heap := h', toks := t' } := by
  have nit : ∀ b u, H b = some u → b ≠ it := fun b u e z => by rw [z, hn] at e; cases e
  refine I.step (g' := s.gens) (d' := s.drawn) (ch := [it]) (fun b hb => ?_) (fun b o _ _ hc e _ => k b o (fun z => hc (by simp [z])) e) (fun b o _ _ hc e _ => ⟨o.slots, k b o (fun z => hc (by simp [z])) e⟩) (fun _ _ _ _ n => n)
    (fun b o hc e => ⟨o, k b o (fun z => hc (by simp [z])) e⟩) (fun _ _ e => e) (fun _ _ _ e => e) (fun b ps e => ⟨#[], by rw [e]; simp⟩) (fun m hm => ?_) (fun b u e => ?_) I.bare
  · have e : b = it := by simpa using hb
    subst e
    exact ⟨h1, hL, h2, h3⟩
  · obtain ⟨o, es, ep, ho, r⟩ := hm
    exact ⟨o, es, ep, k _ o (Ne.symm hL) ho, r⟩
  · refine (I.hok b u e).stay (fun c v hc q => k c v ?_ q) (fun _ q => q) fun _ _ q => q
    rcases hc with z | z
    · rw [z]; exact nit b u e
    · exact nit c _ z
theorem Inv.tok (I : Inv X pins σ H s) (t : Nat) : Inv X pins σ H { s with toks := t } := I.un (h' := s.heap) (t' := t) Un.refl I.hok
/-- all objects kept -/
theorem Inv.kept {t' : Nat} (I : Inv X pins σ H s) (k : ∀ b u, s.heap.get? b = some u → h'.get? b = some u) : Inv X pins σ H { s with heap := h', toks := t' } := I.un (Un.kept k) (I.hok.kept k)
/-- a new object laid and tracked -/
theorem Inv.laid {a : Addr} {o : HO} {t' : Nat} (I : Inv X pins σ H s) (k : ∀ b u, s.heap.get? b = some u → h'.get? b = some u) (hp : s.heap.objs.size ≤ a) (new : ObjOk X.prog X.w (upd H a o) h' a o) :
    Inv X pins σ (upd H a o) { s with heap := h', toks := t' } := I.un (Un.laid k hp (I.hok.fresh hp)) (I.hok.laid k hp new)
/-- an object written -/
theorem Inv.write {x e : Addr} {o : HO} {t' : Nat} (I : Inv X pins σ H s) (mu : Mut (H x)) (he : e = x ∨ H e = some (.own x)) (k : ∀ b u, b ≠ e → s.heap.get? b = some u → h'.get? b = some u) (heo : ∃ u, h'.get? e = some u)
    (new : ObjOk X.prog X.w (upd H x o) h' x o) : Inv X pins σ (upd H x o) { s with heap := h', toks := t' } := I.un (Un.write mu he k heo) (I.hok.write mu he k heo new)
/-- forgetting slots, pins -/
theorem Inv.weak {σ' : List (Option V)} (I : Inv X pins σ H s) (hl : σ'.length = σ.length) (w : ∀ (i : Nat) v, σ'[i]? = some (some v) → σ[i]? = some (some v)) : Inv X pins σ' H s :=
  ⟨I.ok, I.os, I.bare, I.base, let ⟨m, hn, hl'⟩ := I.loc; ⟨m, hn, fun i x v e1 e2 e3 => hl' i x v e1 (w i v e2) e3⟩, I.cell, I.free, I.freeC, I.pin, I.hok, hl.trans I.len⟩
theorem Inv.pins_of {pins' : List (Addr × Obj)} (I : Inv X pins σ H s) (h : ∀ p ∈ pins', s.heap.get? p.1 = some p.2 ∧ H p.1 = none ∧ p.1 ≠ X.env.locals ∧ p.1 ∉ X.fs ∧ ∀ v, p.2.data ≠ .cell v) : Inv X pins' σ H s :=
  ⟨I.ok, I.os, I.bare, I.base, I.loc, I.cell, I.free, I.freeC, fun p hp => (List.mem_append.mp hp).elim (fun z => I.pin p (List.mem_append_left _ z)) (h p), I.hok, I.len⟩

theorem nodup_ix {N : List Str} (hN : N.Nodup) {i j : Nat} {x : Str} (a : N[i]? = some x) (b : N[j]? = some x) : i = j := by
  obtain ⟨h1, e1⟩ := List.getElem?_eq_some_iff.mp a
  obtain ⟨h2, e2⟩ := List.getElem?_eq_some_iff.mp b
  exact (List.getElem_inj hN).mp (e1.trans e2.symm)

/-- a name is stored; what changed -/
theorem store_ok2 {M : Model} {A : Around} {E : Value → Shared → Prop} {i : Nat} {x : Str} {v : V} {u : Value} {Q : Unit → Shared → Prop} (I : Inv X pins σ H s) (hN : X.N.Nodup) (hi : X.N[i]? = some x) (hx : Loc X.env.scope x) (r : RelV v u)
    (h : ∀ s', Inv X pins (σ.set i (some v)) H s' → (∃ a, Heap.SameBut a s.heap s'.heap ∧ (a = X.env.locals ∨ X.env.cells.lookup x = some a)) → Q () s') (hf : X.fn x = true ∨ X.env.scope.names.lookup x = some .local := by first | exact .inl rfl | exact .inr rfl | assumption) : wpAny M A (storeName X.env x u) Q E s := by
  obtain ⟨m, hn, hl⟩ := id I.loc
  have hcls : (X.env.scope.kind == .class || (X.env.scope.kind == .module && X.env.locals != X.env.globals)) = false := by rw [I.ok.kind]; rfl
  have hiσ : i < σ.length := by rw [I.len]; exact (List.getElem?_eq_some_iff.mp hi).1
  have cne := I.cne
  have tracked : ∀ {a : Addr} {h' : Heap}, (∃ o, s.heap.get? a = some o ∧ H a = none) → Heap.SameBut a s.heap h' → HOk X.prog X.w H h' := fun {a h'} ha hs b ob e => by
    obtain ⟨_, _, hfree⟩ := ha
    refine (I.hok b ob e).stay (fun c w' hc q => (hs.2 c ?_).trans q) (fun _ q => q) fun _ _ q => q
    rintro rfl
    rcases hc with rfl | hc
    · rw [hfree] at e; cases e
    · rw [hfree] at hc; cases hc
  rcases hx with hk | hk
  · refine wpAny_storeName_local hk hn (fun h' hn' hs => ?_) hcls
    obtain ⟨oL, _, _, hoL, _⟩ := id hn
    refine h _ ⟨I.ok, I.os, I.bare, ⟨fun b o e n hb hx => ?_, fun b o e n hb hx => ?_, I.base.free, fun b o e hx => ?_, I.base.tups, I.base.frzs, I.base.tbls⟩, ⟨_, hn', fun j y v' e1 e2 e3 => ?_⟩, fun y c e => ?_, I.free, I.freeC, fun p hp => ?_, tracked ⟨oL, hoL, I.free⟩ hs, by simpa using I.len⟩ ⟨_, hs, .inl rfl⟩
    · exact (hs.2 b (Nat.ne_of_lt (Nat.lt_of_lt_of_le (Heap.lt_size e) I.ok.above))).trans (I.base.keep b o e n hb hx)
    · obtain ⟨sl, e1⟩ := I.base.slot b o e n hb hx
      exact ⟨sl, (hs.2 b (Nat.ne_of_lt (Nat.lt_of_lt_of_le (Heap.lt_size e) I.ok.above))).trans e1⟩
    · obtain ⟨o', e1⟩ := I.base.there b o e hx
      exact ⟨o', (hs.2 b (Nat.ne_of_lt (Nat.lt_of_lt_of_le (Heap.lt_size e) I.ok.above))).trans e1⟩
    · by_cases hj : j = i
      · subst hj
        rw [hi] at e1; cases e1
        rw [List.getElem?_set_self hiσ] at e2
        cases e2
        exact ⟨u, r, .inl ⟨hk, by simp⟩⟩
      · rw [List.getElem?_set_ne (Ne.symm hj)] at e2
        obtain ⟨u', r', q⟩ := hl j y v' e1 e2 e3
        refine ⟨u', r', ?_⟩
        rcases q with ⟨k, e⟩ | ⟨k, c, e, z⟩
        · refine .inl ⟨k, ?_⟩
          have : y ≠ x := fun e => hj (nodup_ix hN e1 (e ▸ hi))
          simp [this, e]
        · exact .inr ⟨k, c, e, z.sameBut hs (cne y c e)⟩
    · obtain ⟨w', z⟩ := I.cell y c e
      exact ⟨w', z.sameBut hs (cne y c e)⟩
    · obtain ⟨e, n, ne, nf, d⟩ := I.pin p hp
      exact ⟨(hs.2 p.1 ne).trans e, n, ne, nf, d⟩
  · have hfn : X.fn x = true := by
      rcases hf with z | z
      · exact z
      · rw [z] at hk; cases hk
    obtain ⟨c, hc⟩ := I.ok.has x (.inl hk)
    obtain ⟨w', z⟩ := I.cell x c hc
    refine wpAny_storeName_cell I.ok.kind hk hc z (fun h' hc' hs => ?_)
    obtain ⟨oc, hoc, hocd⟩ := id z
    refine h { s with heap := h' } ⟨I.ok, I.os, I.bare, ⟨fun b o e n hb hx => ?_, fun b o e n hb hx => ?_, I.base.free, fun b o e hx => ?_, I.base.tups, I.base.frzs, I.base.tbls⟩, ⟨m, hn.sameBut hs (Ne.symm (cne x c hc)), fun j y v' e1 e2 e3 => ?_⟩, fun y c' e => ?_, I.free, I.freeC, fun p hp => ?_, tracked ⟨oc, hoc, I.freeC x c hc⟩ hs, by simpa using I.len⟩ ⟨c, hs, .inr hc⟩
    · exact (hs.2 b (Nat.ne_of_lt (Nat.lt_of_lt_of_le (Heap.lt_size e) (I.ok.cab x c hfn hc)))).trans (I.base.keep b o e n hb hx)
    · obtain ⟨sl, e1⟩ := I.base.slot b o e n hb hx
      exact ⟨sl, (hs.2 b (Nat.ne_of_lt (Nat.lt_of_lt_of_le (Heap.lt_size e) (I.ok.cab x c hfn hc)))).trans e1⟩
    · obtain ⟨o', e1⟩ := I.base.there b o e hx
      exact ⟨o', (hs.2 b (Nat.ne_of_lt (Nat.lt_of_lt_of_le (Heap.lt_size e) (I.ok.cab x c hfn hc)))).trans e1⟩
    · by_cases hj : j = i
      · subst hj
        rw [hi] at e1; cases e1
        rw [List.getElem?_set_self hiσ] at e2
        cases e2
        exact ⟨u, r, .inr ⟨.inl hk, c, hc, hc'⟩⟩
      · rw [List.getElem?_set_ne (Ne.symm hj)] at e2
        obtain ⟨u', r', q⟩ := hl j y v' e1 e2 e3
        refine ⟨u', r', ?_⟩
        rcases q with q | ⟨k, c', e, z'⟩
        · exact .inl q
        · refine .inr ⟨k, c', e, z'.sameBut hs ?_⟩
          rintro rfl
          exact hj (nodup_ix hN e1 (I.ok.inj _ _ _ e hc ▸ hi))
    · by_cases hcc : c' = c
      · subst hcc; exact ⟨_, hc'⟩
      · obtain ⟨w2, z2⟩ := I.cell y c' e
        exact ⟨w2, z2.sameBut hs hcc⟩
    · obtain ⟨e, n, ne, nf, d⟩ := I.pin p hp
      refine ⟨(hs.2 p.1 ?_).trans e, n, ne, nf, d⟩
      intro q
      rw [q, hoc] at e
      have q' : oc = p.2 := Option.some.inj e
      exact d w' (by rw [← q']; exact hocd)
theorem store_ok {M : Model} {A : Around} {E : Value → Shared → Prop} {i : Nat} {x : Str} {v : V} {u : Value} {Q : Unit → Shared → Prop} (I : Inv X pins σ H s) (hN : X.N.Nodup) (hi : X.N[i]? = some x) (hx : Loc X.env.scope x) (r : RelV v u)
    (h : ∀ s', Inv X pins (σ.set i (some v)) H s' → Q () s') (hf : X.fn x = true ∨ X.env.scope.names.lookup x = some .local := by first | exact .inl rfl | exact .inr rfl | assumption) : wpAny M A (storeName X.env x u) Q E s :=
  store_ok2 I hN hi hx r (fun s' I' _ => h s' I') hf
/-- behind a call or a block, the state as it is -/
theorem Inv.call' {s' : Shared} {ch : List Addr} (I : Inv X pins σ H s) (ho : s'.os = s.os) (u : Un (frs X.stack) ch H H' s.heap s'.heap) (hok : HOk X.prog X.w H' s'.heap) (hg : AllBare s'.gens)
    (hch : ∀ b ∈ ch, (b ∈ X.ex ∨ X.s₀.heap.objs.size ≤ b) ∧ b ≠ X.env.locals ∧ (∀ x c, X.env.cells.lookup x = some c → c ≠ b) ∧ ∀ p ∈ X.pn ++ pins, p.1 ≠ b) : Inv X pins σ H' s' := by
  obtain ⟨h', g', d', t', o'⟩ := s'
  have e : o' = s.os := ho
  subst e
  exact I.call (g' := g') (t' := t') (d' := d') u hok hg hch
end

/-! ### the judgements -/
/-- an exception: its class, its own dict's address (where it has one), the abstract heap behind it -/
abbrev XK := Value → Option Addr → Hp → Prop
abbrev St := List (Option V)
abbrev VK := V → Hp → Prop
/-- an expression's reading; a test's; an argument list's -/
abbrev TE := St → Hp → VK → Prop
abbrev TT := St → Hp → (Bool → Hp → Prop) → Prop
abbrev TA := St → Hp → (List V → Hp → Prop) → Prop
/-- what is wanted behind a statement -/
structure Ends where
  nx : St → Hp → Prop
  rt : VK
  bk : St → Hp → Prop := fun _ _ => False
  ct : St → Hp → Prop := fun _ _ => False
abbrev TS := Ends → St → Hp → Prop

def EP (X : Cx) (pins : List (Addr × Obj)) (σ : St) (Q : VK) (u : Value) (s' : Shared) : Prop := ∃ v H', Inv X pins σ H' s' ∧ RelV v u ∧ Q v H'
def TP (X : Cx) (pins : List (Addr × Obj)) (σ : St) (Q : Bool → Hp → Prop) (b : Bool) (s' : Shared) : Prop := ∃ H', Inv X pins σ H' s' ∧ Q b H'
def AP (X : Cx) (pins : List (Addr × Obj)) (σ : St) (Q : List V → Hp → Prop) (us : List Value) (s' : Shared) : Prop := ∃ vs H', Inv X pins σ H' s' ∧ Vals vs us ∧ Q vs H'
def SP (X : Cx) (pins : List (Addr × Obj)) (D : Ends) (f : Flow) (s' : Shared) : Prop :=
  match f with
  | .next => ∃ σ' H', Inv X pins σ' H' s' ∧ D.nx σ' H'
  | .brk => ∃ σ' H', Inv X pins σ' H' s' ∧ D.bk σ' H'
  | .cont => ∃ σ' H', Inv X pins σ' H' s' ∧ D.ct σ' H'
  | .ret u => ∃ v σ' H', Inv X pins σ' H' s' ∧ RelV v u ∧ D.rt v H'

def PE (X : Cx) (e : Expr) (t : TE) : Prop :=
  ∀ (pins : List (Addr × Obj)) (s : Shared) (σ : St) (H : Hp) (Q : VK), Inv X pins σ H s → t σ H Q → wpAny (model X.prog X.w) X.A (eval e X.env) (EP X pins σ Q) X.xe s
def PT (X : Cx) (e : Expr) (t : TT) : Prop :=
  ∀ (pins : List (Addr × Obj)) (s : Shared) (σ : St) (H : Hp) (Q : Bool → Hp → Prop), Inv X pins σ H s → t σ H Q → wpAny (model X.prog X.w) X.A (isTrue e X.env (eval e X.env)) (TP X pins σ Q) X.xe s
/-- a test whatever its 'whole' is (and, or) -/
def PW (X : Cx) (e : Expr) (t : TT) : Prop :=
  ∀ (whole : Sem Value) (pins : List (Addr × Obj)) (s : Shared) (σ : St) (H : Hp) (Q : Bool → Hp → Prop), Inv X pins σ H s → t σ H Q → wpAny (model X.prog X.w) X.A (isTrue e X.env whole) (TP X pins σ Q) X.xe s
theorem PW.pt {X : Cx} {e : Expr} {t : TT} (h : PW X e t) : PT X e t := h _
/-- an argument list (no star), from the left -/
def PA (X : Cx) (es : List Expr) (t : TA) : Prop :=
  ∀ (pos : Pos) (pins : List (Addr × Obj)) (s : Shared) (σ : St) (H : Hp) (Q : List V → Hp → Prop), Inv X pins σ H s → t σ H Q → wpAny (model X.prog X.w) X.A (spliced (backTo pos (starEach es X.env))) (AP X pins σ Q) X.xe s
def PS (X : Cx) (st : Stmt) (t : TS) : Prop :=
  ∀ (pins : List (Addr × Obj)) (s : Shared) (σ : St) (H : Hp) (D : Ends), Inv X pins σ H s → t D σ H → wpAny (model X.prog X.w) X.A (exec st X.env) (SP X pins D) X.xe s
def PSs (X : Cx) (st : List Stmt) (t : TS) : Prop :=
  ∀ (pins : List (Addr × Obj)) (s : Shared) (σ : St) (H : Hp) (D : Ends), Inv X pins σ H s → t D σ H → wpAny (model X.prog X.w) X.A (execs st X.env) (SP X pins D) X.xe s
/-- weaken the end -/
theorem thn {α : Type} {t : Sem α} {Q Q' : α → Shared → Prop} {M : Model} {A : Around} {E : Value → Shared → Prop} {s : Shared} (h : wpAny M A t Q E s) (hQ : ∀ a s, Q a s → Q' a s) : wpAny M A t Q' E s := wpAny_mono h hQ fun _ _ x => x
end L2

namespace L2
open PySem PySem.Spec PyProof.Rows
section
variable {X : Cx}

/-- two expressions in a row -/
theorem bin {a b : Expr} {ta tb : TE} (ha : PE X a ta) (hb : PE X b tb) {pins : List (Addr × Obj)} {s : Shared} {σ : St} {H : Hp} {R : V → V → Hp → Prop} (I : Inv X pins σ H s) (h : ta σ H fun x H1 => tb σ H1 fun y H2 => R x y H2)
    {α : Type} {Q : α → Shared → Prop} {f : Value → Value → Sem α}
    (hf : ∀ v u s2 x y H2, Inv X pins σ H2 s2 → RelV x v → RelV y u → R x y H2 → wpAny (model X.prog X.w) X.A (f v u) Q X.xe s2) :
    wpAny (model X.prog X.w) X.A (eval a X.env) (fun v s₁ => wpAny (model X.prog X.w) X.A (eval b X.env) (fun u s₂ => wpAny (model X.prog X.w) X.A (f v u) Q X.xe s₂) X.xe s₁) X.xe s := by
  refine thn (ha pins s σ H _ I h) fun v s1 ⟨x, H1, I1, r1, q1⟩ => ?_
  refine thn (hb pins s1 σ H1 _ I1 q1) fun u s2 ⟨y, H2, I2, r2, q2⟩ => ?_
  exact hf v u s2 x y H2 I2 r1 r2 q2

/-! ### names and constants -/
def tVar (i : Nat) : TE := fun σ H Q => ∃ v, σ[i]? = some (some v) ∧ Q v H
def tC (v : V) : TE := fun _ H Q => Q v H
theorem pe_var {i : Nat} {x : Str} {pos : Pos} (hN : X.N[i]? = some x) (hv : Vis X.env.scope x) (hd : (x == ("__debug__" : Str)) = false := by decide) (hcd : (x == ("__classdict__" : Str)) = false := by decide) : PE X (.Name x pos) (tVar i) := by
  intro pins s σ H Q I h
  obtain ⟨v, e, h⟩ := h
  obtain ⟨m, hn, hl⟩ := I.loc
  obtain ⟨u, r, l⟩ := hl i x v hN e hv
  have fin : EP X pins σ Q u s := ⟨v, H, I, r, h⟩
  rcases l with ⟨hk, hm⟩ | ⟨hk, c, hc, hcell⟩
  · exact wpAny_Name (wpAny_loadName_local I.ok.kind hk hn hm fin) hd
  · rcases hk with hk | hk
    · exact wpAny_Name (wpAny_loadName_cell I.ok.kind hk hc hcell fin) hd
    · exact wpAny_Name (wpAny_loadName_free I.ok.kind hk hc hcell fin hcd) hd
theorem pe_int {i j pos} : PE X (.Constant (.int i) j pos) (tC (.int i)) := fun _ _ _ H _ I h => wpAny_Constant_int ⟨.int i, H, I.tok _, ⟨_, rfl⟩, h⟩
theorem pe_bl {b j pos} : PE X (.Constant (.bool b) j pos) (tC (.bl b)) := fun _ _ _ H _ I h => Constant_bool ⟨.bl b, H, I, rfl, h⟩
theorem pe_non {j pos} : PE X (.Constant .none j pos) (tC .non) := fun _ _ _ H _ I h => Constant_none ⟨.non, H, I, rfl, h⟩
theorem pe_str {x j pos} : PE X (.Constant (.str x) j pos) (tC (.str x)) := fun _ _ _ H _ I h => Calls.Constant_str ⟨.str x, H, I.tok _, ⟨_, rfl⟩, h⟩

/-- a global name of the def -/
def Gl (X : Cx) (x : Str) : Prop := X.env.kindOf x = some .globalImplicit
theorem ld_glob {E : Value → Shared → Prop} {pins : List (Addr × Obj)} {s : Shared} {σ : St} {H : Hp} {x : Str} {u : Value} {pos : Pos} {Q : Value → Shared → Prop} (I : Inv X pins σ H s) (hg : Gl X x) (hm : X.mg x = some u) (h : Q u s)
    (hd : (x == ("__debug__" : Str)) = false := by decide) : wpAny (model X.prog X.w) X.A (eval (.Name x pos) X.env) Q E s :=
  Calls.Name_function_global I.ok.kind hg (Calls.loadGlobal_global (by rw [I.ok.glob]; exact I.mod.glob.keeps I.bk) hm h) hd
theorem ld_blt {E : Value → Shared → Prop} {pins : List (Addr × Obj)} {s : Shared} {σ : St} {H : Hp} {x : Str} {u : Value} {pos : Pos} {Q : Value → Shared → Prop} (I : Inv X pins σ H s) (hg : Gl X x) (hm : X.mg x = none) (hv : bootBuiltins x = some u) (h : Q u s)
    (hn : x ≠ "__name__" := by decide) (hd : (x == ("__debug__" : Str)) = false := by decide) : wpAny (model X.prog X.w) X.A (eval (.Name x pos) X.env) Q E s := by
  obtain ⟨mb, h1, h2⟩ := I.mod.blt
  exact Calls.Name_function_global I.ok.kind hg (Calls.loadGlobal_builtin (by rw [I.ok.glob]; exact I.mod.glob.keeps I.bk) hm (by rw [I.ok.blt]; exact h1.keeps I.bk) ((h2 x hn).trans hv) h) hd
/-- a module's constant, a class, a function, as a value -/
theorem pe_glob {x : Str} {v : V} {u : Value} {pos : Pos} (hg : Gl X x) (hm : X.mg x = some u) (r : RelV v u) (hd : (x == ("__debug__" : Str)) = false := by decide) : PE X (.Name x pos) (tC v) :=
  fun _ _ _ H _ I h => ld_glob I hg hm ⟨v, H, I, r, h⟩ hd
theorem pe_bltn {x : Str} {v : V} {u : Value} {pos : Pos} (hg : Gl X x) (hm : X.mg x = none) (hv : bootBuiltins x = some u) (r : RelV v u) (hn : x ≠ "__name__" := by decide) (hd : (x == ("__debug__" : Str)) = false := by decide) : PE X (.Name x pos) (tC v) :=
  fun _ _ _ H _ I h => ld_blt I hg hm hv ⟨v, H, I, r, h⟩ hn hd

/-! ### arithmetic -/
/-- two ints -/
def t2I (ta tb : TE) (k : Int → Int → Hp → Prop) : St → Hp → Prop := fun σ H => ta σ H fun x H1 => tb σ H1 fun y H2 => ∃ i j, x = .int i ∧ y = .int j ∧ k i j H2
def tAdd (ta tb : TE) : TE := fun σ H Q => t2I ta tb (fun i j H2 => Q (.int (i + j)) H2) σ H
def tSub (ta tb : TE) : TE := fun σ H Q => t2I ta tb (fun i j H2 => Q (.int (i - j)) H2) σ H
/-- the left factor below 2^64 -/
def tMul (ta tb : TE) : TE := fun σ H Q => t2I ta tb (fun i j H2 => (-(2 ^ 64) < i ∧ i < 2 ^ 64) ∧ Q (.int (i * j)) H2) σ H
variable {a b : Expr} {ta tb : TE} {pos : Pos}
theorem pe_add (ha : PE X a ta) (hb : PE X b tb) : PE X (.BinOp a .Add b pos) (tAdd ta tb) := by
  intro pins s σ H Q I h
  refine wpAny_BinOp (bin ha hb I h fun v u s2 x y H2 I2 rx ry q => ?_)
  obtain ⟨i, j, rfl, rfl, q⟩ := q
  obtain ⟨t, rfl⟩ := rx
  obtain ⟨t', rfl⟩ := ry
  exact add_int ⟨.int _, H2, I2.tok _, ⟨_, rfl⟩, q⟩
theorem pe_sub (ha : PE X a ta) (hb : PE X b tb) : PE X (.BinOp a .Sub b pos) (tSub ta tb) := by
  intro pins s σ H Q I h
  refine wpAny_BinOp (bin ha hb I h fun v u s2 x y H2 I2 rx ry q => ?_)
  obtain ⟨i, j, rfl, rfl, q⟩ := q
  obtain ⟨t, rfl⟩ := rx
  obtain ⟨t', rfl⟩ := ry
  exact sub_int ⟨.int _, H2, I2.tok _, ⟨_, rfl⟩, q⟩
theorem pe_mul (ha : PE X a ta) (hb : PE X b tb) : PE X (.BinOp a .Mult b pos) (tMul ta tb) := by
  intro pins s σ H Q I h
  refine wpAny_BinOp (bin ha hb I h fun v u s2 x y H2 I2 rx ry q => ?_)
  obtain ⟨i, j, rfl, rfl, ⟨q1, q2⟩, q⟩ := q
  obtain ⟨t, rfl⟩ := rx
  obtain ⟨t', rfl⟩ := ry
  exact mul_int ⟨.int _, H2, I2.tok _, ⟨_, rfl⟩, q⟩ (.of_left (intBits_le_64 q1 q2))

/-! ### comparisons -/
def PC (X : Cx) (op : CmpOp) (a b : Expr) (t : TE) : Prop :=
  ∀ (pins : List (Addr × Obj)) (s : Shared) (σ : St) (H : Hp) (Q : VK), Inv X pins σ H s → t σ H Q →
    wpAny (model X.prog X.w) X.A (eval a X.env) (fun v s₁ => wpAny (model X.prog X.w) X.A (eval b X.env) (fun u s₂ => wpAny (model X.prog X.w) X.A (compareOp op v u) (EP X pins σ Q) X.xe s₂) X.xe s₁) X.xe s
theorem nobehind (b : Expr) {op : CmpOp} (h : op ≠ .In) (h2 : op ≠ .NotIn) : behindInMarks op b = false := by
  have e1 : (op == CmpOp.In) = false := by cases op <;> first | rfl | exact absurd rfl h
  have e2 : (op == CmpOp.NotIn) = false := by cases op <;> first | rfl | exact absurd rfl h2
  cases b <;> simp [behindInMarks, e1, e2]
def tCmp (p : Int → Int → Bool) (ta tb : TE) : TE := fun σ H Q => t2I ta tb (fun i j H2 => Q (.bl (p i j)) H2) σ H
abbrev tLt : TE → TE → TE := tCmp fun i j => decide (i < j)
abbrev tLe : TE → TE → TE := tCmp fun i j => decide (i ≤ j)
abbrev tGt : TE → TE → TE := tCmp fun i j => decide (j < i)
abbrev tGe : TE → TE → TE := tCmp fun i j => decide (j ≤ i)
abbrev tEqI : TE → TE → TE := tCmp fun i j => decide (i = j)
abbrev tNeI : TE → TE → TE := tCmp fun i j => !decide (i = j)
/-- a comparison of two ints, by its rule -/
theorem pc_int {op : CmpOp} {p : Int → Int → Bool} (ha : PE X a ta) (hb : PE X b tb)
    (rule : ∀ (i j : Int) (t u : Tok) (Q : Value → Shared → Prop) (s : Shared), Q (.bool (p i j)) s → wpAny (model X.prog X.w) X.A (compareOp op (.int i t) (.int j u)) Q X.xe s) : PC X op a b (tCmp p ta tb) := by
  intro pins s σ H Q I h
  refine bin ha hb I h fun v u s2 x y H2 I2 rx ry q => ?_
  obtain ⟨i, j, rfl, rfl, q⟩ := q
  obtain ⟨t, rfl⟩ := rx
  obtain ⟨t', rfl⟩ := ry
  exact rule i j t t' _ s2 ⟨.bl _, H2, I2, rfl, q⟩
theorem pc_lt (ha : PE X a ta) (hb : PE X b tb) : PC X .Lt a b (tLt ta tb) := pc_int ha hb fun _ _ _ _ _ _ h => lt_int h
theorem pc_le (ha : PE X a ta) (hb : PE X b tb) : PC X .LtE a b (tLe ta tb) := pc_int ha hb fun _ _ _ _ _ _ h => le_int h
theorem pc_gt (ha : PE X a ta) (hb : PE X b tb) : PC X .Gt a b (tGt ta tb) := pc_int ha hb fun _ _ _ _ _ _ h => gt_int h
theorem pc_ge (ha : PE X a ta) (hb : PE X b tb) : PC X .GtE a b (tGe ta tb) := pc_int ha hb fun _ _ _ _ _ _ h => ge_int h
theorem pc_eqI (ha : PE X a ta) (hb : PE X b tb) : PC X .Eq a b (tEqI ta tb) := pc_int ha hb fun _ _ _ _ _ _ h => eq_int (by rw [Bool.beq_eq_decide_eq]; exact h)
theorem pc_neI (ha : PE X a ta) (hb : PE X b tb) : PC X .NotEq a b (tNeI ta tb) := pc_int ha hb fun _ _ _ _ _ _ h => ne_int (by rw [bne, Bool.beq_eq_decide_eq]; exact h)
/-- is None -/
def tIsN (ta : TE) : TE := fun σ H Q => ta σ H fun x H1 => Q (.bl (decide (x = .non))) H1
def tNotN (ta : TE) : TE := fun σ H Q => ta σ H fun x H1 => Q (.bl (!decide (x = .non))) H1
theorem RelV.none_iff {x : V} {v : Value} (r : RelV x v) : (v == Value.none) = decide (x = .non) := by
  cases x with
  | non => cases r; rfl
  | bl _ => cases r; rfl
  | int _ => obtain ⟨t, rfl⟩ := r; rfl
  | str _ => obtain ⟨t, rfl⟩ := r; rfl
  | byt _ => obtain ⟨t, rfl⟩ := r; rfl
  | flt _ => obtain ⟨t, rfl⟩ := r; rfl
  | ref _ => cases r; rfl
  | ty _ => cases r; rfl
theorem pc_isN {j pos'} (ha : PE X a ta) : PC X .Is a (.Constant .none j pos') (tIsN ta) := by
  intro pins s σ H Q I h
  refine thn (ha pins s σ H _ I h) fun v s1 ⟨x, H1, I1, r1, q1⟩ => ?_
  exact Constant_none (is_none_gen ⟨.bl _, H1, I1, by rw [r1.none_iff]; rfl, q1⟩)
theorem pc_notN {j pos'} (ha : PE X a ta) : PC X .IsNot a (.Constant .none j pos') (tNotN ta) := by
  intro pins s σ H Q I h
  refine thn (ha pins s σ H _ I h) fun v s1 ⟨x, H1, I1, r1, q1⟩ => ?_
  exact Constant_none (isnot_none_gen ⟨.bl _, H1, I1, by rw [r1.none_iff]; rfl, q1⟩)
/-- a comparison as a value, as a test -/
def tB (t : TE) : TT := fun σ H Q => t σ H fun x H1 => ∃ c, x = .bl c ∧ Q c H1
theorem pe_cmp {op : CmpOp} {t : TE} (h : PC X op a b t) (h1 : behindInMarks op b = false := by first | exact nobehind _ (by decide) (by decide) | rfl) : PE X (.Compare a [op] [b] pos) t := fun pins s σ H Q I hw => wpAny_Compare1 (h pins s σ H Q I hw) h1
theorem pt_cmp {op : CmpOp} {t : TE} (h : PC X op a b t) (h1 : behindInMarks op b = false := by first | exact nobehind _ (by decide) (by decide) | rfl) : PT X (.Compare a [op] [b] pos) (tB t) := by
  intro pins s σ H Q I hw
  refine wpAny_isTrue_Compare1 (thn (h pins s σ H _ I hw) fun v s1 h1 => thn h1 fun u s2 h2 => thn h2 fun c s3 ⟨x, H1, I1, r1, q1⟩ => ?_) h1
  obtain ⟨d, rfl, q⟩ := q1
  cases r1
  exact wpAny_truthy_bool ⟨H1, I1, q⟩
/-- an expression whose value is a bool, as a test -/
theorem pt_val {e : Expr} {t : TE} (h : PE X e t) (he : ∀ whole, isTrue e X.env whole = (do let v ← whole; standAt e.pos; holding [v] (truthy v)) := by intro _; rfl) : PT X e (tB t) := by
  intro pins s σ H Q I hw
  refine isTrue_plain (thn (h pins s σ H _ I hw) fun v s1 ⟨x, H1, I1, r1, q1⟩ => ?_) (he _)
  obtain ⟨d, rfl, q⟩ := q1
  cases r1
  exact wpAny_truthy_bool ⟨H1, I1, q⟩

/-! ### and, or, not -/
variable {tA tB' : TT} {rest : List Expr}
def tAnd (t u : TT) : TT := fun σ H Q => t σ H fun c H1 => if c = true then u σ H1 Q else Q false H1
def tOr (t u : TT) : TT := fun σ H Q => t σ H fun c H1 => if c = true then Q true H1 else u σ H1 Q
def tNot (t : TT) : TT := fun σ H Q => t σ H fun c H1 => Q (!c) H1
theorem pw_and1 (ha : PT X a tA) : PW X (.BoolOp .And [a] pos) tA := by
  intro wh pins s σ H Q I h
  refine isTrue_and (thn (ha pins s σ H Q I h) fun c s1 e => ?_)
  cases c with
  | true => exact isTrue_and_nil e
  | false => exact e
theorem pw_or1 (ha : PT X a tA) : PW X (.BoolOp .Or [a] pos) tA := by
  intro wh pins s σ H Q I h
  refine isTrue_or (thn (ha pins s σ H Q I h) fun c s1 e => ?_)
  cases c with
  | false => exact isTrue_or_nil e
  | true => exact e
theorem pw_and (ha : PT X a tA) (hb : PW X (.BoolOp .And (b :: rest) pos) tB') : PW X (.BoolOp .And (a :: b :: rest) pos) (tAnd tA tB') := by
  intro wh pins s σ H Q I h
  refine isTrue_and (thn (ha pins s σ H _ I h) fun c s1 ⟨H1, I1, q1⟩ => ?_)
  cases c with
  | true => exact hb wh pins s1 σ H1 Q I1 q1
  | false => exact ⟨H1, I1, q1⟩
theorem pw_or (ha : PT X a tA) (hb : PW X (.BoolOp .Or (b :: rest) pos) tB') : PW X (.BoolOp .Or (a :: b :: rest) pos) (tOr tA tB') := by
  intro wh pins s σ H Q I h
  refine isTrue_or (thn (ha pins s σ H _ I h) fun c s1 ⟨H1, I1, q1⟩ => ?_)
  cases c with
  | true => exact ⟨H1, I1, q1⟩
  | false => exact hb wh pins s1 σ H1 Q I1 q1
theorem pt_not (ha : PT X a tA) : PT X (.UnaryOp .Not a pos) (tNot tA) := by
  intro pins s σ H Q I h
  exact isTrue_not (ha pins s σ H (fun c H1 => Q (!c) H1) I h)
/-- .. as values (bools) -/
def tAndV (ta tb : TE) : TE := fun σ H Q => ta σ H fun x H1 => ∃ c, x = .bl c ∧ if c = true then tb σ H1 Q else Q (.bl false) H1
def tOrV (ta tb : TE) : TE := fun σ H Q => ta σ H fun x H1 => ∃ c, x = .bl c ∧ if c = true then Q (.bl true) H1 else tb σ H1 Q
def tNotV (ta : TE) : TE := fun σ H Q => ta σ H fun x H1 => ∃ c, x = .bl c ∧ Q (.bl (!c)) H1
theorem pe_one {op} {t : TE} (h : PE X a t) : PE X (.BoolOp op [a] pos) t := fun pins s σ H Q I hw => BoolOp_one (h pins s σ H Q I hw)
theorem pe_and (ha : PE X a ta) (hb : PE X (.BoolOp .And (b :: rest) pos) tb) : PE X (.BoolOp .And (a :: b :: rest) pos) (tAndV ta tb) := by
  intro pins s σ H Q I h
  refine BoolOp_and (thn (ha pins s σ H _ I h) fun v s1 ⟨x, H1, I1, r1, q1⟩ => ?_)
  obtain ⟨c, rfl, q1⟩ := q1
  cases r1
  refine wpAny_truthy_bool ?_
  cases c with
  | true => exact hb pins s1 σ H1 Q I1 q1
  | false => exact ⟨.bl false, H1, I1, rfl, q1⟩
theorem pe_or (ha : PE X a ta) (hb : PE X (.BoolOp .Or (b :: rest) pos) tb) : PE X (.BoolOp .Or (a :: b :: rest) pos) (tOrV ta tb) := by
  intro pins s σ H Q I h
  refine BoolOp_or (thn (ha pins s σ H _ I h) fun v s1 ⟨x, H1, I1, r1, q1⟩ => ?_)
  obtain ⟨c, rfl, q1⟩ := q1
  cases r1
  refine wpAny_truthy_bool ?_
  cases c with
  | false => exact hb pins s1 σ H1 Q I1 q1
  | true => exact ⟨.bl true, H1, I1, rfl, q1⟩
theorem pe_not (ha : PE X a ta) : PE X (.UnaryOp .Not a pos) (tNotV ta) := by
  intro pins s σ H Q I h
  refine UnaryOp_ (thn (ha pins s σ H _ I h) fun v s1 ⟨x, H1, I1, r1, q1⟩ => ?_)
  obtain ⟨c, rfl, q1⟩ := q1
  cases r1
  exact not_of (wpAny_truthy_bool ⟨.bl (!c), H1, I1, rfl, q1⟩)
/-- a if t else b -/
def tIf (t : TT) (ta tb : TE) : TE := fun σ H Q => t σ H fun c H1 => if c = true then ta σ H1 Q else tb σ H1 Q
theorem pe_ifExp {c : Expr} (hc : PT X c tA) (ha : PE X a ta) (hb : PE X b tb) : PE X (.IfExp c a b pos) (tIf tA ta tb) := by
  intro pins s σ H Q I h
  refine wpAny_IfExp (thn (hc pins s σ H _ I h) fun d s1 ⟨H1, I1, q1⟩ => ?_)
  cases d with
  | true => exact ha pins s1 σ H1 Q I1 q1
  | false => exact hb pins s1 σ H1 Q I1 q1
end
end L2

namespace L2
open PySem PySem.Spec PyProof.Rows

/-! ### a list, a tuple that is read: tracked, frozen, or an object of the module -/
def SqL (K : PySem.W.Frag) (H : Hp) (a : Addr) (xs : List V) : Prop :=
  Rd H a (.lst xs) ∨
    ∃ (o : Obj) (its : Array Value) (n : Nat), K.lookup a = some o ∧ o.cls = .type "list" ∧ o.dict = none ∧ o.data = .seq its n ∧ its.size ≤ sizeLine ∧ Vals xs its.toList
def SqT (K : PySem.W.Frag) (H : Hp) (a : Addr) (xs : List V) : Prop :=
  Rd H a (.tup xs) ∨
    ∃ (o : Obj) (its : Array Value) (n : Nat), K.lookup a = some o ∧ o.cls = .type "tuple" ∧ o.data = .seq its n ∧ its.size ≤ sizeLine ∧ Vals xs its.toList
def absV : Value → Option V
  | .none => some .non
  | .bool b => some (.bl b)
  | .int i _ => some (.int i)
  | .str x _ => some (.str x)
  | .bytes b _ => some (.byt b)
  | .float b _ => some (.flt b)
  | .ref a => some (.ref a)
  | .type n => some (.ty n)
  | _ => none
theorem RelV.abs {x : V} {u : Value} (r : RelV x u) : absV u = some x := by
  cases x with
  | non => cases r; rfl
  | bl _ => cases r; rfl
  | int _ => obtain ⟨t, rfl⟩ := r; rfl
  | str _ => obtain ⟨t, rfl⟩ := r; rfl
  | byt _ => obtain ⟨t, rfl⟩ := r; rfl
  | flt _ => obtain ⟨t, rfl⟩ := r; rfl
  | ref _ => cases r; rfl
  | ty _ => cases r; rfl
theorem RelV.inj {x y : V} {u : Value} (r : RelV x u) (q : RelV y u) : x = y := Option.some.inj (r.abs.symm.trans q.abs)
theorem Vals.inj : ∀ {xs ys : List V} {us : List Value}, Vals xs us → Vals ys us → xs = ys
  | _, _, _, .nil, .nil => rfl
  | _, _, _, .cons r t, .cons r' t' => by rw [r.inj r', Vals.inj t t']
section
variable {X : Cx} {pins : List (Addr × Obj)} {σ : St} {H : Hp} {s : Shared} {a : Addr} {xs ys : List V}
theorem SqL.of {K : PySem.W.Frag} (h : H a = some (.lst xs)) : SqL K H a xs := .inl (.inl h)
theorem SqT.of {K : PySem.W.Frag} (h : H a = some (.tup xs)) : SqT K H a xs := .inl (.inl h)
theorem Inv.list (I : Inv X pins σ H s) (h : SqL X.K H a xs) : ∃ its : List Value, Vals xs its ∧ PlainL s.heap a its.toArray ∧ xs.length ≤ sizeLine := by
  rcases h with h | ⟨o, its, n, hk, hc, hd, hs, hz, r⟩
  · obtain ⟨z, its, n, r, e⟩ := h.ok I.hok
    exact ⟨its, r, ⟨_, n, e, rfl, rfl, rfl⟩, z⟩
  · refine ⟨its.toList, r, ⟨o, n, I.kIn a o hk, hc, hd, by simpa using hs⟩, ?_⟩
    have e := r.length
    simp only [Array.length_toList] at e
    omega
theorem Inv.tuple (I : Inv X pins σ H s) (h : SqT X.K H a xs) : ∃ its : List Value, Vals xs its ∧ IsTup s.heap a its.toArray ∧ xs.length ≤ sizeLine := by
  rcases h with h | ⟨o, its, n, hk, hc, hs, hz, r⟩
  · obtain ⟨z, its, r, p⟩ := h.ok I.hok
    exact ⟨its, r, p, z⟩
  · refine ⟨its.toList, r, ⟨o, I.kIn a o hk, hc, n, by simpa using hs⟩, ?_⟩
    have e := r.length
    simp only [Array.length_toList] at e
    omega
theorem Inv.list_inj (I : Inv X pins σ H s) (h : SqL X.K H a xs) (h' : SqL X.K H a ys) : xs = ys := by
  obtain ⟨its, r, ⟨o, n, e, _, _, d⟩, _⟩ := I.list h
  obtain ⟨its', r', ⟨o', n', e', _, _, d'⟩, _⟩ := I.list h'
  rw [e] at e'; cases e'
  rw [d] at d'
  injection d' with d1 _
  have : its = its' := by simpa using congrArg Array.toList d1
  subst this
  exact r.inj r'
theorem Inv.tuple_inj (I : Inv X pins σ H s) (h : SqT X.K H a xs) (h' : SqT X.K H a ys) : xs = ys := by
  obtain ⟨its, r, ⟨o, e, _, n, d⟩, _⟩ := I.tuple h
  obtain ⟨its', r', ⟨o', e', _, n', d'⟩, _⟩ := I.tuple h'
  rw [e] at e'; cases e'
  rw [d] at d'
  injection d' with d1 _
  have : its = its' := by simpa using congrArg Array.toList d1
  subst this
  exact r.inj r'
end

/-! ### another wish about exceptions -/
abbrev Cx.wish (X : Cx) (E : Value → Shared → Prop) : Cx := { X with xe := E }
/-- no exception leaves -/
abbrev Cx.nox (X : Cx) : Cx := X.wish fun _ _ => False
theorem Cx.Ok.wish {X : Cx} (ok : X.Ok) (E : Value → Shared → Prop) : (X.wish E).Ok :=
  ⟨ok.mod, ok.kind, ok.glob, ok.blt, ok.above, ok.inj, ok.has, ok.cab, ok.hd, ok.frames, ok.stk, ok.exf, ok.bs, ok.bsz, ok.noex, ok.exfs, ok.funs, ok.frf⟩
theorem Cx.Ok.unwish {X : Cx} {E : Value → Shared → Prop} (ok : (X.wish E).Ok) : X.Ok :=
  ⟨ok.mod, ok.kind, ok.glob, ok.blt, ok.above, ok.inj, ok.has, ok.cab, ok.hd, ok.frames, ok.stk, ok.exf, ok.bs, ok.bsz, ok.noex, ok.exfs, ok.funs, ok.frf⟩
section
variable {X : Cx} {pins : List (Addr × Obj)} {σ : St} {H : Hp} {s : Shared} {E : Value → Shared → Prop}
theorem Inv.wish (I : Inv X pins σ H s) (E : Value → Shared → Prop) : Inv (X.wish E) pins σ H s := ⟨I.ok.wish E, I.os, I.bare, I.base, I.loc, I.cell, I.free, I.freeC, I.pin, I.hok, I.len⟩
theorem Inv.unwish (I : Inv (X.wish E) pins σ H s) : Inv X pins σ H s := ⟨I.ok.unwish, I.os, I.bare, I.base, I.loc, I.cell, I.free, I.freeC, I.pin, I.hok, I.len⟩
theorem SP.unwish {D : Ends} {f : Flow} {s' : Shared} (h : SP (X.wish E) pins D f s') : SP X pins D f s' := by
  cases f with
  | next => obtain ⟨σ', H', I, q⟩ := h; exact ⟨σ', H', I.unwish, q⟩
  | brk => obtain ⟨σ', H', I, q⟩ := h; exact ⟨σ', H', I.unwish, q⟩
  | cont => obtain ⟨σ', H', I, q⟩ := h; exact ⟨σ', H', I.unwish, q⟩
  | ret u => obtain ⟨v, σ', H', I, r, q⟩ := h; exact ⟨v, σ', H', I.unwish, r, q⟩
theorem PE.nox {e : Expr} {t : TE} (h : PE X.nox e t) : PE X e t := fun pins s σ H Q I hw =>
  wpAny_mono (h pins s σ H Q (I.wish _) hw) (fun _ _ ⟨v, H', I', r, q⟩ => ⟨v, H', I'.unwish, r, q⟩) fun _ _ z => False.elim z
theorem PT.nox {e : Expr} {t : TT} (h : PT X.nox e t) : PT X e t := fun pins s σ H Q I hw =>
  wpAny_mono (h pins s σ H Q (I.wish _) hw) (fun _ _ ⟨H', I', q⟩ => ⟨H', I'.unwish, q⟩) fun _ _ z => False.elim z
theorem PSs.nox {st : List Stmt} {t : TS} (h : PSs X.nox st t) : PSs X st t := fun pins s σ H D I hw =>
  wpAny_mono (h pins s σ H D (I.wish _) hw) (fun _ _ q => q.unwish) fun _ _ z => False.elim z
end

/-! ### blocks and small statements -/
section
variable {X : Cx} {st : Stmt} {rest : List Stmt} {t u : TS} {e : Expr} {te : TE} {pos : Pos}
def tNext : TS := fun D σ H => D.nx σ H
def tSeq (t u : TS) : TS := fun D σ H => t { D with nx := u D } σ H
theorem pss_nil : PSs X [] tNext := fun _ _ σ H _ I h => wpAny_execs_nil ⟨σ, H, I, h⟩
theorem pss_cons (h1 : PS X st t) (h2 : PSs X rest u) : PSs X (st :: rest) (tSeq t u) := by
  intro pins s σ H D I h
  refine wpAny_execs_cons (thn (h1 pins s σ H { D with nx := u D } I h) fun f s1 q => ?_)
  cases f with
  | next =>
    obtain ⟨σ', H', I', q⟩ := q
    exact h2 pins s1 σ' H' D I' q
  | ret v => exact q
  | brk => exact q
  | cont => exact q
theorem pss_one (h1 : PS X st t) : PSs X [st] t := by
  intro pins s σ H D I h
  refine wpAny_execs_cons (thn (h1 pins s σ H D I h) fun f s1 q => ?_)
  cases f with
  | next => exact wpAny_execs_nil q
  | ret v => exact q
  | brk => exact q
  | cont => exact q
def tBreak : TS := fun D σ H => D.bk σ H
def tCont : TS := fun D σ H => D.ct σ H
theorem ps_pass : PS X (.Pass pos) tNext := fun _ _ σ H _ I h => wpAny_Pass ⟨σ, H, I, h⟩
theorem ps_break : PS X (.Break pos) tBreak := fun _ _ σ H _ I h => wpAny_Break ⟨σ, H, I, h⟩
theorem ps_continue : PS X (.Continue pos) tCont := fun _ _ σ H _ I h => wpAny_Continue ⟨σ, H, I, h⟩
/-- in a def's body nothing is shown -/
theorem Inv.quiet {pins : List (Addr × Obj)} {σ : St} {H : Hp} {s : Shared} (I : Inv X pins σ H s) : interactive X.env = false := by simp [interactive, I.ok.kind]
/-- a docstring -/
theorem ps_doc {x j pos pos'} : PS X (.Expr (.Constant (.str x) j pos) pos') tNext := fun _ s σ H _ I h => wpAny_Expr (Calls.Constant_str (show SP X _ _ .next { s with toks := s.toks + 1 } from ⟨σ, H, I.tok _, h⟩)) I.quiet
/-- an expression whose value is dropped -/
def tDrop (te : TE) : TS := fun D σ H => te σ H fun _ H1 => D.nx σ H1
theorem ps_expr (he : PE X e te) (hs : swapsWith e none pos.line X.env = pure false := by rfl) : PS X (.Expr e pos) (tDrop te) := by
  intro pins s σ H D I h
  exact wpAny_Expr_any (thn (he pins s σ H _ I h) fun v s1 ⟨x, H1, I1, r1, q1⟩ => ⟨σ, H1, I1, q1⟩) I.quiet hs
def tRet (te : TE) : TS := fun D σ H => te σ H D.rt
theorem ps_ret (he : PE X e te) : PS X (.Return (some e) pos) (tRet te) := by
  intro pins s σ H D I h
  exact wpAny_Return_some (thn (he pins s σ H _ I h) fun v s1 ⟨x, H1, I1, r1, q1⟩ => ⟨x, σ, H1, I1, r1, q1⟩)
def tRetN : TS := fun D _ H => D.rt .non H
theorem ps_retN : PS X (.Return none pos) tRetN := fun _ _ σ H _ I h => wpAny_Return_none ⟨.non, σ, H, I, rfl, h⟩
def tIfS (c : TT) (t u : TS) : TS := fun D σ H => c σ H fun b H1 => if b = true then t D σ H1 else u D σ H1
theorem ps_if {c : Expr} {a b : List Stmt} {tc : TT} (hc : PT X c tc) (ha : PSs X a t) (hb : PSs X b u) : PS X (.If c a b pos) (tIfS tc t u) := by
  intro pins s σ H D I h
  refine wpAny_If (thn (hc pins s σ H _ I h) fun d s1 ⟨H1, I1, q1⟩ => ?_)
  cases d with
  | true => exact ha pins s1 σ H1 D I1 q1
  | false => exact hb pins s1 σ H1 D I1 q1
/-- code that the proof never comes to -/
def tNever : TS := fun _ _ _ => False
theorem ps_never : PS X st tNever := fun _ _ _ _ _ _ h => h.elim
theorem pss_never {sts : List Stmt} : PSs X sts tNever := fun _ _ _ _ _ _ h => h.elim
end

/-! ### targets -/
abbrev TG := V → St → Hp → (St → Hp → Prop) → Prop
abbrev TGs := List V → St → Hp → (St → Hp → Prop) → Prop
def PG (X : Cx) (target : Expr) (t : TG) : Prop :=
  ∀ (pins : List (Addr × Obj)) (s : Shared) (σ : St) (H : Hp) (v : V) (u : Value) (Q : St → Hp → Prop), Inv X pins σ H s → RelV v u → t v σ H Q →
    wpAny (model X.prog X.w) X.A (assign target X.env u) (fun _ s' => ∃ σ' H', Inv X pins σ' H' s' ∧ Q σ' H') X.xe s
/-- several targets, one after another -/
def PGs (X : Cx) (ts : List Expr) (t : TGs) : Prop :=
  ∀ (pins : List (Addr × Obj)) (s : Shared) (σ : St) (H : Hp) (vs : List V) (us : List Value) (Q : St → Hp → Prop), Inv X pins σ H s → Vals vs us → t vs σ H Q →
    wpAny (model X.prog X.w) X.A (assignInOrder ((assignEach ts X.env).map (·.2)) us) (fun _ s' => ∃ σ' H', Inv X pins σ' H' s' ∧ Q σ' H') X.xe s
/-- o[i] = v, by values -/
abbrev TSet := V → V → V → Hp → (Hp → Prop) → Prop
def PSet (X : Cx) (t : TSet) : Prop :=
  ∀ (pins : List (Addr × Obj)) (s : Shared) (σ : St) (H : Hp) (o i v : V) (ov iv u : Value) (Q : Hp → Prop), Inv X pins σ H s → RelV o ov → RelV i iv → RelV v u → t o i v H Q →
    wpAny (model X.prog X.w) X.A (setItem ov iv u) (fun _ s' => ∃ H', Inv X pins σ H' s' ∧ Q H') X.xe s
/-- a op= b, by values -/
abbrev TIp := V → V → Hp → VK → Prop
def PIp (X : Cx) (op : Operator) (t : TIp) : Prop :=
  ∀ (pins : List (Addr × Obj)) (s : Shared) (σ : St) (H : Hp) (x y : V) (v u : Value) (Q : VK), Inv X pins σ H s → RelV x v → RelV y u → t x y H Q →
    wpAny (model X.prog X.w) X.A (inplaceOp op v u) (EP X pins σ Q) X.xe s
section
variable {X : Cx} {pos : Pos}
def gName (i : Nat) : TG := fun v σ H Q => Q (σ.set i (some v)) H
theorem pg_name {i : Nat} {x : Str} (hN : X.N.Nodup) (hi : X.N[i]? = some x) (hx : Loc X.env.scope x) (hf : X.fn x = true ∨ X.env.scope.names.lookup x = some .local := by first | exact .inl rfl | exact .inr rfl | assumption) : PG X (.Name x pos) (gName i) := by
  intro pins s σ H v u Q I r h
  exact wpAny_assign_Name (store_ok I hN hi hx r (fun s' I' => ⟨_, H, I', h⟩) hf)
def gNil : TGs := fun vs σ H Q => vs = [] ∧ Q σ H
def gCons (t : TG) (u : TGs) : TGs := fun vs σ H Q => ∃ v r, vs = v :: r ∧ t v σ H fun σ' H' => u r σ' H' Q
theorem pgs_nil : PGs X [] gNil := by
  intro pins s σ H vs us Q I r h
  obtain ⟨e, h⟩ := h
  subst e
  cases r
  exact assignInOrder_nil ⟨σ, H, I, h⟩
theorem pgs_cons {e : Expr} {es : List Expr} {t : TG} {u : TGs} (h1 : PG X e t) (h2 : PGs X es u)
    (hs : (assignEach (e :: es) X.env).map (·.2) = assign e X.env :: (assignEach es X.env).map (·.2) := by rfl) : PGs X (e :: es) (gCons t u) := by
  intro pins s σ H vs us Q I r h
  obtain ⟨v, vr, e1, h⟩ := h
  subst e1
  cases r with
  | cons r rr =>
    rw [hs]
    refine assignInOrder_cons (thn (h1 pins s σ H _ _ _ I r h) fun _ s1 ⟨σ1, H1, I1, q1⟩ => ?_)
    exact h2 pins s1 σ1 H1 _ _ Q I1 rr q1
/-- (a, b, ..) = a tuple of that length -/
def gTup (K : PySem.W.Frag) (n : Nat) (t : TGs) : TG := fun v σ H Q => ∃ a xs, v = .ref a ∧ SqT K H a xs ∧ xs.length = n ∧ t xs σ H Q
theorem pg_tup {es : List Expr} {k : Nat} {t : TGs} {n : Nat} (hc : X.calm = true) (h : PGs X es t)
    (hn : (assignEach es X.env).length = n := by rfl) (hst : (assignEach es X.env).findIdx? (·.1) = none := by rfl) : PG X (.Tuple es k pos) (gTup X.K n t) := by
  intro pins s σ H v u Q I r hw
  obtain ⟨a, xs, e1, hq, hl, hw⟩ := hw
  subst e1
  cases r
  obtain ⟨its, rv, ht, hz⟩ := I.tuple hq
  refine assign_Tuple_tuple (I.ok.hd hc) ht (by simp [hn, ← hl, rv.length]) hst fun h' hx => ?_
  have I1 : Inv X pins σ H { s with heap := h' } := I.kept (t' := s.toks) fun b o e => hx b o (Nat.ne_of_lt (Heap.lt_size e)) e
  exact h pins _ σ H xs _ Q I1 (by simpa using rv) hw
/-- o[i] = .. -/
def gSub (to ti : TE) (t : TSet) : TG := fun v σ H Q => to σ H fun o H1 => ti σ H1 fun i H2 => t o i v H2 fun H3 => Q σ H3
theorem pg_sub {o i : Expr} {to ti : TE} {t : TSet} (ho : PE X o to) (hi : PE X i ti) (hs : PSet X t)
    (ha : ∀ v, assign (.Subscript o i pos) X.env v = (do
      let ov ← holding [v] (eval o X.env)
      let iv ← holding [v, ov] (eval i X.env)
      standAt pos
      holding [v, ov, iv] (setItem ov iv v)
      release [v, ov, iv] []) := by intro _; rfl) : PG X (.Subscript o i pos) (gSub to ti t) := by
  intro pins s σ H v u Q I r h
  rw [ha]
  refine wpAny_bind (wpAny_holding (thn (ho pins s σ H _ I h) fun ov s1 ⟨x, H1, I1, r1, q1⟩ => ?_))
  refine wpAny_bind (wpAny_holding (thn (hi pins s1 σ H1 _ I1 q1) fun iv s2 ⟨y, H2, I2, r2, q2⟩ => ?_))
  refine wpAny_bind (wpAny_standAt (wpAny_bind (wpAny_holding (thn (hs pins s2 σ H2 x y v ov iv u _ I2 r1 r2 r q2) fun _ s3 ⟨H3, I3, q3⟩ => ?_))))
  exact wpAny_release ⟨σ, H3, I3, q3⟩
/-- target = value -/
def tAsg (te : TE) (g : TG) : TS := fun D σ H => te σ H fun x H1 => g x σ H1 D.nx
theorem ps_asg {tg e : Expr} {te : TE} {g : TG} (he : PE X e te) (hg : PG X tg g) (hs : swapsWithSole [tg] e pos.line X.env = pure false := by rfl) (hw : swappedStores [tg] e X.env = pure none := by rfl)
    (h1 : (assignEach [tg] X.env).map (·.2) = [assign tg X.env] := by rfl) : PS X (.Assign [tg] e pos) (tAsg te g) := by
  intro pins s σ H D I h
  refine wpAny_Assign_stores (thn (he pins s σ H _ I h) fun v s1 ⟨x, H1, I1, r1, q1⟩ => ?_) hs hw
  rw [h1]
  exact thn (hg pins s1 σ H1 x v _ I1 r1 q1) fun _ s2 q => q
/-- name = value -/
theorem ps_set {i : Nat} {x : Str} {e : Expr} {te : TE} {pos' : Pos} (hN : X.N.Nodup) (hi : X.N[i]? = some x) (hx : Loc X.env.scope x) (he : PE X e te) (hs : swapsWith e (some (.Name x pos')) pos.line X.env = pure false := by rfl) (hf : X.fn x = true ∨ X.env.scope.names.lookup x = some .local := by first | exact .inl rfl | exact .inr rfl | assumption) :
    PS X (.Assign [.Name x pos'] e pos) (tAsg te (gName i)) := by
  intro pins s σ H D I h
  refine wpAny_Assign_Name (thn (he pins s σ H _ I h) fun v s1 ⟨y, H1, I1, r1, q1⟩ => ?_) hs
  exact store_ok I1 hN hi hx r1 (fun s2 I2 => ⟨_, H1, I2, q1⟩) hf
/-- a, b = x, y with plain local names: stored from the right; the pair itself is not tracked (the opening rows as in PyProof/Rows/TupAssign.lean:23) -/
def tPar (i j : Nat) (ta : TA) : TS := fun D σ H => ta σ H fun vs H1 => ∃ v w, vs = [v, w] ∧ D.nx ((σ.set i (some v)).set j (some w)) H1
theorem ps_par {i j : Nat} {x y : Str} {a b : Expr} {ta : TA} {px py pt : Pos} {kt k2 pt2} (hc : X.calm = true) (hN : X.N.Nodup) (hi : X.N[i]? = some x) (hj : X.N[j]? = some y) (hij : i ≠ j)
    (hx : X.env.scope.names.lookup x = some .local) (hy : X.env.scope.names.lookup y = some .local) (ha : PA X [a, b] ta)
    (hw : swappedStores [.Tuple [.Name x px, .Name y py] kt pt] (.Tuple [a, b] k2 pt2) X.env = pure (some [x, y]))
    (hs : swapsWithSole [.Tuple [.Name x px, .Name y py] kt pt] (.Tuple [a, b] k2 pt2) pos.line X.env = pure false := by rfl) :
    PS X (.Assign [.Tuple [.Name x px, .Name y py] kt pt] (.Tuple [a, b] k2 pt2) pos) (tPar i j ta) := by
  intro pins s σ H D I h
  rw [exec_Assign_arm]
  refine wpAny_bind (wpAny_standAt ?_)
  rw [hs]
  refine wpAny_bind (wpAny_pure ?_)
  rw [if_neg (by decide)]
  refine wpAny_bind (Tuple_ (thn (ha _ pins s σ H _ I h) fun us s1 ⟨vs, H1, I1, r1, q1⟩ => ?_))
  obtain ⟨v, w, e1, q1⟩ := q1
  subst e1
  obtain ⟨u1, u2, rfl, rv, rw'⟩ : ∃ u1 u2, us = [u1, u2] ∧ RelV v u1 ∧ RelV w u2 := by
    cases r1 with
    | cons p q =>
      cases q with
      | cons p' q' =>
        cases q'
        exact ⟨_, _, rfl, p, p'⟩
  refine wpAny_newObj_type ?_ (by show 2 ≤ sizeLine; decide)
  have I2 : Inv X pins σ H1 { s1 with heap := s1.heap.push { cls := .type "tuple", data := .seq [u1, u2].toArray } } := I1.kept (t' := s1.toks) fun b o e => Heap.get?_push_of_some _ e
  rw [hw]
  refine wpAny_bind (wpAny_pure ?_)
  show wpAny (model X.prog X.w) X.A (do rule "assign.swapped-stores"; let items ← unpackItems (.ref s1.heap.objs.size) 2 none; assignInOrder [fun v => bindName X.env y v, fun v => bindName X.env x v] items.reverse; pure Flow.next) _ _ _
  refine wpAny_bind (wpAny_rule (wpAny_bind (unpackItems_tuple (items := #[u1, u2]) (I.ok.hd hc) (IsTup.new s1.heap _) fun h' hx' => ?_)))
  have I3 := I2.kept (h' := h') (t' := s1.toks) fun b o e => hx' b o (Nat.ne_of_lt (Heap.lt_size e)) e
  show wpAny _ _ (assignInOrder [fun v => bindName X.env y v, fun v => bindName X.env x v] [u2, u1] >>= fun _ => pure Flow.next) _ _ _
  refine wpAny_bind (assignInOrder_cons (wpAny_bindName (store_ok I3 hN hj (.inl hy) rw' (fun s2 I4 => ?_) (.inr hy))))
  refine assignInOrder_cons (wpAny_bindName (store_ok I4 hN hi (.inl hx) rv (fun s3 I5 => assignInOrder_nil (wpAny_pure ?_)) (.inr hx)))
  rw [List.set_comm _ _ (Ne.symm hij)] at I5
  exact ⟨_, H1, I5, q1⟩
/-- name op= e -/
def tAug (i : Nat) (te : TE) (ti : TIp) : TS := fun D σ H => ∃ x, σ[i]? = some (some x) ∧ te σ H fun y H1 => ti x y H1 fun z H2 => D.nx (σ.set i (some z)) H2
theorem ps_aug {i : Nat} {x : Str} {e : Expr} {te : TE} {op : Operator} {ti : TIp} {pos' : Pos} (hN : X.N.Nodup) (hi : X.N[i]? = some x) (hx : Loc X.env.scope x) (he : PE X e te) (ho : PIp X op ti) (hf : X.fn x = true ∨ X.env.scope.names.lookup x = some .local := by first | exact .inl rfl | exact .inr rfl | assumption) :
    PS X (.AugAssign (.Name x pos') op e pos) (tAug i te ti) := by
  intro pins s σ H D I h
  obtain ⟨v, e1, h⟩ := h
  obtain ⟨m, hn, hl⟩ := I.loc
  have vis : Vis X.env.scope x := by rcases hx with k | k; exact .inl k; exact .inr (.inl k)
  obtain ⟨u, r, l⟩ := hl i x v hi e1 vis
  refine wpAny_AugAssign_Name ?_
  have go : wpAny (model X.prog X.w) X.A (eval e X.env) (fun w s₂ => wpAny (model X.prog X.w) X.A (inplaceOp op u w) (fun r s₃ => wpAny (model X.prog X.w) X.A (storeName X.env x r) (fun _ => SP X pins D .next) X.xe s₃) X.xe s₂) X.xe s := by
    refine thn (he pins s σ H _ I h) fun w s1 ⟨y, H1, I1, r1, q1⟩ => ?_
    refine thn (ho pins s1 σ H1 v y u w _ I1 r r1 q1) fun z s2 ⟨zv, H2, I2, r2, q2⟩ => ?_
    exact store_ok I2 hN hi hx r2 (fun s3 I3 => ⟨_, H2, I3, q2⟩) hf
  rcases l with ⟨hk, hm⟩ | ⟨hk, c, hc, hcell⟩
  · exact wpAny_loadName_local I.ok.kind hk hn hm go
  · rcases hk with hk | hk
    · exact wpAny_loadName_cell I.ok.kind hk hc hcell go
    · rcases hx with k | k
      · have : X.env.scope.names.lookup x = some .free := hk
        rw [k] at this; cases this
      · have : X.env.scope.names.lookup x = some .free := hk
        rw [k] at this; cases this
/-- o[i] op= e -/
def tAugS (to ti te : TE) (tget : V → V → Hp → VK → Prop) (tip : TIp) (tset : TSet) : TS := fun D σ H => to σ H fun o H1 => ti σ H1 fun i H2 => tget o i H2 fun x H3 => te σ H3 fun y H4 => tip x y H4 fun z H5 => tset o i z H5 fun H6 => D.nx σ H6
/-- o[i], by values -/
def PGet (X : Cx) (t : V → V → Hp → VK → Prop) : Prop :=
  ∀ (pins : List (Addr × Obj)) (s : Shared) (σ : St) (H : Hp) (o i : V) (ov iv : Value) (Q : VK), Inv X pins σ H s → RelV o ov → RelV i iv → t o i H Q →
    wpAny (model X.prog X.w) X.A (getItem ov iv) (EP X pins σ Q) X.xe s
theorem ps_augS {o i e : Expr} {to ti te : TE} {tget : V → V → Hp → VK → Prop} {tip : TIp} {tset : TSet} {op : Operator} {tpos : Pos} (ho : PE X o to) (hi : PE X i ti) (hg : PGet X tget) (he : PE X e te) (hp : PIp X op tip) (hs : PSet X tset)
    (ha : ∀ ov iv new, augStore i ov iv new = (do holding [new, ov, iv] (setItem ov iv new); release [new, ov, iv] []; pure .next) := by intros; rfl) : PS X (.AugAssign (.Subscript o i tpos) op e pos) (tAugS to ti te tget tip tset) := by
  intro pins s σ H D I h
  refine wpAny_AugAssign_SubscriptAny (thn (ho pins s σ H _ I h) fun ov s1 ⟨x1, H1, I1, r1, q1⟩ => ?_) ha
  refine thn (hi pins s1 σ H1 _ I1 q1) fun iv s2 ⟨x2, H2, I2, r2, q2⟩ => ?_
  refine thn (hg pins s2 σ H2 x1 x2 ov iv _ I2 r1 r2 q2) fun old s3 ⟨x3, H3, I3, r3, q3⟩ => ?_
  refine thn (he pins s3 σ H3 _ I3 q3) fun v s4 ⟨x4, H4, I4, r4, q4⟩ => ?_
  refine thn (hp pins s4 σ H4 x3 x4 old v _ I4 r3 r4 q4) fun new s5 ⟨x5, H5, I5, r5, q5⟩ => ?_
  exact thn (hs pins s5 σ H5 x1 x2 x5 ov iv new _ I5 r1 r2 r5 q5) fun _ s6 ⟨H6, I6, q6⟩ => ⟨σ, H6, I6, q6⟩
/-- ints -/
def ipI (f : Int → Int → Int) : TIp := fun x y H Q => ∃ i j, x = .int i ∧ y = .int j ∧ Q (.int (f i j)) H
theorem ip_add : PIp X .Add (ipI fun i j => i + j) := by
  intro pins s σ H x y v u Q I r1 r2 h
  obtain ⟨i, j, e1, e2, q⟩ := h
  subst e1; subst e2
  obtain ⟨t, rfl⟩ := r1
  obtain ⟨t', rfl⟩ := r2
  exact iadd_int ⟨.int _, H, I.tok _, ⟨_, rfl⟩, q⟩
theorem ip_sub : PIp X .Sub (ipI fun i j => i - j) := by
  intro pins s σ H x y v u Q I r1 r2 h
  obtain ⟨i, j, e1, e2, q⟩ := h
  subst e1; subst e2
  obtain ⟨t, rfl⟩ := r1
  obtain ⟨t', rfl⟩ := r2
  exact isub_int ⟨.int _, H, I.tok _, ⟨_, rfl⟩, q⟩
end

/-! ### while -/
section
variable {X : Cx} {pos : Pos}
/-- the invariant W with its measure -/
def tWhile (c : TT) (tb : TS) : TS := fun D σ H => ∃ W : Nat → St → Hp → Prop, (∃ m, W m σ H) ∧ ∀ m σ H, W m σ H →
  c σ H fun b H1 => if b = true then ∃ N : St → Hp → Prop, (∀ σ' H', N σ' H' → ∃ m', m' < m ∧ W m' σ' H') ∧ tb { D with nx := N, ct := N, bk := D.nx } σ H1 else D.nx σ H1
theorem ps_while {c : Expr} {body : List Stmt} {tc : TT} {tb : TS} (hp : PassesOwn (model X.prog X.w) X.A X.env X.xe) (hc : PT X c tc) (hb : PSs X body tb) : PS X (.While c body [] pos) (tWhile tc tb) := by
  intro pins s σ H D I h
  obtain ⟨W, ⟨m0, w0⟩, turn⟩ := h
  refine wpAny_While (codeAny_whileLoop (fun n s' => ∃ σ' H', Inv X pins σ' H' s' ∧ W n σ' H') ?_ m0 ⟨σ, H, I, w0⟩)
  rintro n s1 ⟨σ1, H1, I1, w1⟩
  refine wpAny_passesOwn hp (thn (hc pins s1 σ1 H1 _ I1 (turn n σ1 H1 w1)) fun b s2 ⟨H2, I2, q2⟩ => ?_)
  cases b with
  | true =>
    obtain ⟨N, hN, q2⟩ := q2
    rw [if_pos rfl]
    refine wpAny_passesOwn hp (thn (hb pins s2 σ1 H2 _ I2 q2) fun f s3 q3 => ?_)
    cases f with
    | next =>
      obtain ⟨σ3, H3, I3, n3⟩ := q3
      obtain ⟨m', hm, w3⟩ := hN σ3 H3 n3
      exact ⟨m', hm, σ3, H3, I3, w3⟩
    | cont =>
      obtain ⟨σ3, H3, I3, n3⟩ := q3
      obtain ⟨m', hm, w3⟩ := hN σ3 H3 n3
      exact ⟨m', hm, σ3, H3, I3, w3⟩
    | brk => exact q3
    | ret v => exact q3
  | false =>
    rw [if_neg Bool.false_ne_true]
    exact wpAny_execs_nil ⟨σ1, H2, I2, q2⟩
end

/-! ### what a loop or a comprehension walks -/
/-- at turn i: it yields x (the heap may grow), or it stops -/
structure It where
  go : Nat → Hp → Prop
  yld : Nat → Hp → V → Hp → Prop
  stop : Nat → Hp → Prop
/-- the iterator's own objects may turn: they are not the frame's, not pinned, younger than the entry (or a comprehension's own) -/
def FpOk (X : Cx) (pins : List (Addr × Obj)) (H : Hp) (b : Addr) : Prop :=
  H b = none ∧ b ≠ X.env.locals ∧ b ∉ X.fs ∧ (b ∈ X.ex ∨ X.s₀.heap.objs.size ≤ b) ∧ (∀ x c, X.env.cells.lookup x = some c → c ≠ b) ∧ ∀ p ∈ X.pn ++ pins, p.1 ≠ b
theorem Inv.fpOk {X : Cx} {pins : List (Addr × Obj)} {σ : St} {H H' : Hp} {s : Shared} {b : Addr} (I : Inv X pins σ H s) (hb : s.heap.objs.size ≤ b) (hn : H' b = none) : FpOk X pins H' b := by
  refine ⟨hn, Nat.ne_of_gt (Nat.lt_of_lt_of_le I.lt hb), I.nofs hb, .inr (Nat.le_trans I.sz hb), fun x c e z => ?_, fun p hp z => ?_⟩
  · obtain ⟨v, q⟩ := I.cell x c e
    exact absurd (Nat.lt_of_lt_of_le q.lt (by rw [z]; exact hb)) (Nat.lt_irrefl _)
  · exact absurd (Nat.lt_of_lt_of_le (Heap.lt_size (I.pin p hp).1) (by rw [z]; exact hb)) (Nat.lt_irrefl _)
structure Turn (P : Program) (w : World) (K : PySem.W.Frag) (tg : Expr) (J : It) (fp : List Addr) (it : Addr) (tn : Nat → Heap → Prop) : Prop where
  mem : it ∈ fp
  obj : ∀ i h, tn i h → ∀ b ∈ fp, ∃ o, h.get? b = some o ∧ ∀ v, o.data ≠ .cell v
  keep : ∀ i h h', tn i h → (∀ b ∈ fp, ∀ o, h.get? b = some o → h'.get? b = some o) → tn i h'
  item : ∀ (X : Cx), X.prog = P → X.w = w → X.K = K → X.calm = true → ∀ (i : Nat) (pins : List (Addr × Obj)) (s : Shared) (σ : St) (H : Hp) (E : Value → Shared → Prop), Inv X pins σ H s → (∀ b ∈ fp, FpOk X pins H b) → tn i s.heap → J.go i H →
    wpAny (model P w) X.A (pyNext (.ref it)) (fun r s1 => ∃ u, r = some u ∧
      wpAny (model P w) X.A (letOwnedTupleGo tg (.ref it) u) (fun _ s2 => ∃ x H', Inv X pins σ H' s2 ∧ RelV x u ∧ J.yld i H x H' ∧ tn (i + 1) s2.heap ∧ ∀ b ∈ fp, H' b = none) E s1) E s
  done : ∀ (X : Cx), X.prog = P → X.w = w → X.K = K → X.calm = true → ∀ (i : Nat) (pins : List (Addr × Obj)) (s : Shared) (σ : St) (H : Hp) (E : Value → Shared → Prop), Inv X pins σ H s → (∀ b ∈ fp, FpOk X pins H b) → tn i s.heap → J.stop i H →
    wpAny (model P w) X.A (pyNext (.ref it)) (fun r s1 => r = none ∧ Inv X pins σ H s1) E s
  self : ∀ (A : Around) (i : Nat) (s : Shared) (Q : Value → Shared → Prop) (E : Value → Shared → Prop), tn i s.heap → Q (.ref it) s → wpAny (model P w) A (pyIter (.ref it)) Q E s
abbrev TI := St → Hp → (It → Hp → Prop) → Prop
/-- an iterator has come -/
def PIE (X : Cx) (pins : List (Addr × Obj)) (σ : St) (tg : Expr) (R : It → Hp → Prop) (itv : Value) (s2 : Shared) : Prop :=
  ∃ (it : Addr) (fp : List Addr) (tn : Nat → Heap → Prop) (J : It) (H' : Hp), itv = .ref it ∧ Inv X pins σ H' s2 ∧ Turn X.prog X.w X.K tg J fp it tn ∧ tn 0 s2.heap ∧ (∀ b ∈ fp, FpOk X pins H' b) ∧ R J H'
def PI (X : Cx) (tg iter : Expr) (wi : TI) : Prop :=
  ∀ (pins : List (Addr × Obj)) (s : Shared) (σ : St) (H : Hp) (R : It → Hp → Prop), Inv X pins σ H s → wi σ H R →
    wpAny (model X.prog X.w) X.A (eval iter X.env) (fun v s1 => wpAny (model X.prog X.w) X.A (pyIter v) (PIE X pins σ tg R) X.xe s1) X.xe s

/-- the step ahead of the store is nothing for an iterator that keeps no tuple -/
theorem go_of {M : Model} {A : Around} {E : Value → Shared → Prop} {s : Shared} {tg : Expr} {it : Addr} {u : Value} {o : Obj} {n : String} {vs : Array Value} {Q : Unit → Shared → Prop} (ho : s.heap.get? it = some o) (hc : o.cls = .type n) (hd : o.data = .fields vs)
    (hn : ["enumerate", "zip", "dict_itemiterator", "dict_reverseitemiterator", "odict_iterator", "itertools.zip_longest", "itertools.pairwise"].contains n = false) (hQ : Q () s) : wpAny M A (letOwnedTupleGo tg (.ref it) u) Q E s := by
  unfold letOwnedTupleGo
  cases tg <;> first
    | exact wpAny_pure hQ
    | (cases u <;> first
        | exact wpAny_pure hQ
        | (refine wpAny_bind (wpAny_load ho ?_)
           rw [hc, hd]
           show wpAny M A (if (["enumerate", "zip", "dict_itemiterator", "dict_reverseitemiterator", "odict_iterator", "itertools.zip_longest", "itertools.pairwise"].contains n && vs[0]? == some (rawInt _)) = true then _ else _) Q E s
           rw [if_neg (by intro h; rw [hn, Bool.false_and] at h; cases h)]
           exact wpAny_pure hQ))

/-- the list at a, as it stands at each turn (a loop may append to it) -/
def Itl (K : PySem.W.Frag) (a : Addr) : It :=
  ⟨fun i H => ∃ xs x, SqL K H a xs ∧ xs[i]? = some x, fun i H x H' => H' = H ∧ ∀ xs, SqL K H a xs → xs[i]? = some x, fun i H => ∃ xs, SqL K H a xs ∧ xs.length ≤ i⟩
def Itt (K : PySem.W.Frag) (a : Addr) : It :=
  ⟨fun i H => ∃ xs x, SqT K H a xs ∧ xs[i]? = some x, fun i H x H' => H' = H ∧ ∀ xs, SqT K H a xs → xs[i]? = some x, fun i H => ∃ xs, SqT K H a xs ∧ xs.length ≤ i⟩
/-- lo, lo + 1, .. (n of them) -/
def Itr (lo : Int) (n : Nat) : It := ⟨fun i _ => i < n, fun i H x H' => H' = H ∧ x = .int (lo + i), fun i _ => n ≤ i⟩
theorem turn_list {P : Program} {w : World} {K : PySem.W.Frag} {tg : Expr} (a it : Addr) : Turn P w K tg (Itl K a) [it] it (fun i h => h.IsListIter it a i) where
  mem := by simp
  obj := fun i h st b hb => by
    have e : b = it := by simpa using hb
    subst e
    obtain ⟨o, e, c, d⟩ := st
    exact ⟨o, e, fun v z => by rw [d] at z; cases z⟩
  keep := fun i h h' st k => st.at fun o e => k it (by simp) o e
  item := by
    intro X hP hw hK hc i pins s σ H E I hf st hg
    subst hP hw hK
    obtain ⟨xs, x, hq, hx⟩ := hg
    obtain ⟨its, rv, p, hz⟩ := I.list hq
    obtain ⟨u, hu, ru⟩ := rv.get hx
    obtain ⟨f0, f1, f2, f3, f4, f5⟩ := hf it (by simp)
    refine wpAny_pyNext_list_item st p.isList (x := u) (by simpa using hu) fun h' st' sb => ?_
    have I1 : Inv X pins σ H { s with heap := h' } := I.turned (t' := s.toks) (fun b o hb e => (sb.2 b hb).trans e) f0 f1 f3 f4 f5
    obtain ⟨o, e, c, d⟩ := id st'
    exact ⟨u, rfl, go_of (s := { s with heap := h' }) e c d (by decide) ⟨x, H, I1, ru, ⟨rfl, fun ys hy => by rw [I.list_inj hy hq]; exact hx⟩, st', fun b hb => (hf b hb).1⟩⟩
  done := by
    intro X hP hw hK hc i pins s σ H E I hf st hg
    subst hP hw hK
    obtain ⟨xs, hq, hx⟩ := hg
    obtain ⟨its, rv, p, hz⟩ := I.list hq
    obtain ⟨f0, f1, f2, f3, f4, f5⟩ := hf it (by simp)
    have hl := rv.length
    exact wpAny_pyNext_list_end (I.ok.hd hc) st p.isList (by simp; omega) fun h' eb => ⟨rfl, I.turned (t' := s.toks) (fun b o hb e => eb b o hb e) f0 f1 f3 f4 f5⟩
  self := fun _ _ _ _ _ st h => wpAny_pyIter_listiter st h
theorem turn_tuple {P : Program} {w : World} {K : PySem.W.Frag} {tg : Expr} (a it : Addr) : Turn P w K tg (Itt K a) [it] it (fun i h => h.IsTupleIter it a i) where
  mem := by simp
  obj := fun i h st b hb => by
    have e : b = it := by simpa using hb
    subst e
    obtain ⟨o, e, c, d⟩ := st
    exact ⟨o, e, fun v z => by rw [d] at z; cases z⟩
  keep := fun i h h' st k => st.at fun o e => k it (by simp) o e
  item := by
    intro X hP hw hK hc i pins s σ H E I hf st hg
    subst hP hw hK
    obtain ⟨xs, x, hq, hx⟩ := hg
    obtain ⟨its, rv, p, hz⟩ := I.tuple hq
    obtain ⟨u, hu, ru⟩ := rv.get hx
    obtain ⟨f0, f1, f2, f3, f4, f5⟩ := hf it (by simp)
    refine wpAny_pyNext_tuple_item st (show s.heap.IsTuple a its.toArray from p) (x := u) (by simpa using hu) fun h' st' sb => ?_
    have I1 : Inv X pins σ H { s with heap := h' } := I.turned (t' := s.toks) (fun b o hb e => (sb.2 b hb).trans e) f0 f1 f3 f4 f5
    obtain ⟨o, e, c, d⟩ := id st'
    exact ⟨u, rfl, go_of (s := { s with heap := h' }) e c d (by decide) ⟨x, H, I1, ru, ⟨rfl, fun ys hy => by rw [I.tuple_inj hy hq]; exact hx⟩, st', fun b hb => (hf b hb).1⟩⟩
  done := by
    intro X hP hw hK hc i pins s σ H E I hf st hg
    subst hP hw hK
    obtain ⟨xs, hq, hx⟩ := hg
    obtain ⟨its, rv, p, hz⟩ := I.tuple hq
    obtain ⟨f0, f1, f2, f3, f4, f5⟩ := hf it (by simp)
    have hl := rv.length
    exact wpAny_pyNext_tuple_end (I.ok.hd hc) st (show s.heap.IsTuple a its.toArray from p) (by simp; omega) fun h' eb => ⟨rfl, I.turned (t' := s.toks) (fun b o hb e => eb b o hb e) f0 f1 f3 f4 f5⟩
  self := fun _ _ _ _ _ st h => wpAny_pyIter_tupleiter st h
theorem turn_range {P : Program} {w : World} {K : PySem.W.Frag} {tg : Expr} (it : Addr) (lo : Int) (n : Nat) : Turn P w K tg (Itr lo n) [it] it (fun i h => IsRangeIter h it (lo + (i : Nat) * 1) ((n : Int) - (i : Nat)) 1) where
  mem := by simp
  obj := fun i h st b hb => by
    have e : b = it := by simpa using hb
    subst e
    exact ⟨_, st, fun v z => by
      have z' : Data.fields _ = Data.cell v := z
      cases z'⟩
  keep := fun i h h' st k => k it (by simp) _ st
  item := by
    intro X hP hw hK hc i pins s σ H E I hf st hg
    subst hP hw hK
    obtain ⟨f0, f1, f2, f3, f4, f5⟩ := hf it (by simp)
    have W := Walks.range (prog := X.prog) (w := X.w) (I.ok.hd hc) it lo 1 n
    refine W.item i s _ _ hg st fun v h' tk hv st' kk => ?_
    obtain ⟨t, rfl⟩ := hv
    have I1 : Inv X pins σ H { s with heap := h', toks := tk } := I.turned (fun b o hb e => kk b o (by simpa using hb) e) f0 f1 f3 f4 f5
    refine ⟨_, rfl, go_of (s := { s with heap := h', toks := tk }) (n := "range_iterator") st' rfl rfl (by decide) ⟨.int (lo + i), H, I1, ⟨t, ?_⟩, ⟨rfl, rfl⟩, st', fun b hb => (hf b hb).1⟩⟩
    rw [Int.mul_one]
  done := by
    intro X hP hw hK hc i pins s σ H E I hf st hg
    subst hP hw hK
    obtain ⟨f0, f1, f2, f3, f4, f5⟩ := hf it (by simp)
    exact wpAny_pyNext_range_end (I.ok.hd hc) st (by have : n ≤ i := hg; omega) fun h' eb => ⟨rfl, I.turned (t' := s.toks) (fun b o hb e => eb b o hb e) f0 f1 f3 f4 f5⟩
  self := fun _ _ _ _ _ st h => wpAny_pyIter_rangeiter st h
end L2

namespace L2
open PySem PySem.Spec PyProof.Rows
section
variable {X : Cx} {tg : Expr}
def iList (K : PySem.W.Frag) (tl : TE) : TI := fun σ H R => tl σ H fun x H1 => ∃ a, x = .ref a ∧ (∃ xs, SqL K H1 a xs) ∧ R (Itl K a) H1
def iTup (K : PySem.W.Frag) (tl : TE) : TI := fun σ H R => tl σ H fun x H1 => ∃ a, x = .ref a ∧ (∃ xs, SqT K H1 a xs) ∧ R (Itt K a) H1
theorem pi_list {l : Expr} {tl : TE} (hl : PE X l tl) : PI X tg l (iList X.K tl) := by
  intro pins s σ H R I h
  refine thn (hl pins s σ H _ I h) fun v s1 ⟨x, H1, I1, r1, q1⟩ => ?_
  obtain ⟨a, e, ⟨xs, hq⟩, q⟩ := q1
  subst e
  cases r1
  obtain ⟨its, rv, p, hz⟩ := I1.list hq
  refine wpAny_pyIter_list p.isList ?_
  refine ⟨s1.heap.objs.size, [s1.heap.objs.size], _, _, H1, rfl, I1.kept (t' := s1.toks) fun b o e => Heap.get?_push_of_some _ e, turn_list a _, ⟨_, Heap.get?_push_size _ rfl, rfl, rfl⟩, fun b hb => ?_, q⟩
  have e : b = s1.heap.objs.size := by simpa using hb
  subst e
  exact I1.fpOk (Nat.le_refl _) (I1.hok.fresh (Nat.le_refl _))
theorem pi_tup {l : Expr} {tl : TE} (hl : PE X l tl) : PI X tg l (iTup X.K tl) := by
  intro pins s σ H R I h
  refine thn (hl pins s σ H _ I h) fun v s1 ⟨x, H1, I1, r1, q1⟩ => ?_
  obtain ⟨a, e, ⟨xs, hq⟩, q⟩ := q1
  subst e
  cases r1
  obtain ⟨its, rv, p, hz⟩ := I1.tuple hq
  refine wpAny_pyIter_tuple (show s1.heap.IsTuple a its.toArray from p) ?_
  refine ⟨s1.heap.objs.size, [s1.heap.objs.size], _, _, H1, rfl, I1.kept (t' := s1.toks) fun b o e => Heap.get?_push_of_some _ e, turn_tuple a _, ⟨_, Heap.get?_push_size _ rfl, rfl, rfl⟩, fun b hb => ?_, q⟩
  have e : b = s1.heap.objs.size := by simpa using hb
  subst e
  exact I1.fpOk (Nat.le_refl _) (I1.hok.fresh (Nat.le_refl _))
/-- a range object just made, walked -/
theorem range_it {pins : List (Addr × Obj)} {σ : St} {H : Hp} {s : Shared} {R : It → Hp → Prop} {E : Value → Shared → Prop} {lo hi : Int} {t u v : Tok} {tk : Nat} (I : Inv X pins σ H s) (h1 : -(2 ^ 62) ≤ lo) (h2 : lo < 2 ^ 62) (h3 : -(2 ^ 62) ≤ hi) (h4 : hi < 2 ^ 62)
    (q : R (Itr lo (hi - lo).toNat) H) : wpAny (model X.prog X.w) X.A (pyIter (.ref s.heap.objs.size)) (PIE X pins σ tg R) E { s with heap := s.heap.push { cls := .type "range", data := .fields #[.int lo t, .int hi u, .int 1 v] }, toks := tk } := by
  refine wpAny_pyIter_range (IsRange.new ..) (small_one h1 h2 h3 h4) ?_
  have I1 : Inv X pins σ H { s with heap := s.heap.push { cls := .type "range", data := .fields #[.int lo t, .int hi u, .int 1 v] }, toks := tk } := I.kept fun b o e => Heap.get?_push_of_some _ e
  refine ⟨(s.heap.push { cls := .type "range", data := .fields #[.int lo t, .int hi u, .int 1 v] }).objs.size, [(s.heap.push { cls := .type "range", data := .fields #[.int lo t, .int hi u, .int 1 v] }).objs.size], _, _, H, rfl,
    I1.kept (t' := tk) fun b o e => Heap.get?_push_of_some _ e, turn_range _ lo (hi - lo).toNat, ?_, fun b hb => ?_, q⟩
  · have e1 : lo + ((0 : Nat) : Int) * 1 = lo := by simp
    have e2 : (((hi - lo).toNat : Nat) : Int) - ((0 : Nat) : Int) = Builtin.Range.rangeSize lo hi 1 := by rw [rangeSize_one]; split <;> omega
    show IsRangeIter _ _ (lo + ((0 : Nat) : Int) * 1) ((((hi - lo).toNat : Nat) : Int) - ((0 : Nat) : Int)) 1
    rw [e1, e2]
    exact Heap.get?_push_size _ rfl
  · have e : b = (s.heap.push { cls := .type "range", data := .fields #[.int lo t, .int hi u, .int 1 v] }).objs.size := by simpa using hb
    subst e
    exact I1.fpOk (Nat.le_refl _) (I1.hok.fresh (Nat.le_refl _))
def iRng1 (ta : TA) : TI := fun σ H R => ta σ H fun vs H1 => ∃ j : Int, vs = [.int j] ∧ -(2 ^ 62) ≤ j ∧ j < 2 ^ 62 ∧ R (Itr 0 j.toNat) H1
def iRng2 (ta : TA) : TI := fun σ H R => ta σ H fun vs H1 => ∃ i j : Int, vs = [.int i, .int j] ∧ (-(2 ^ 62) ≤ i ∧ i < 2 ^ 62 ∧ -(2 ^ 62) ≤ j ∧ j < 2 ^ 62) ∧ R (Itr i (j - i).toNat) H1
theorem pi_range1 {a : Expr} {ta : TA} {p pos : Pos} (hg : Gl X "range") (hm : X.mg "range" = none) (ha : PA X [a] ta) (hs : starEach [a] X.env = [(false, eval a X.env)] := by rfl) : PI X tg (.Call (.Name "range" p) [a] [] pos) (iRng1 ta) := by
  intro pins s σ H R I h
  refine Call_ (ld_blt I hg hm boot_range (PyProof.Rows.callWith_type1 (thn (ha pos pins s σ H _ I h) fun us s1 ⟨vs, H1, I1, r1, q1⟩ => ?_) hs rfl))
  obtain ⟨j, e, q1, q2, q⟩ := q1
  subst e
  cases r1 with
  | cons r rr =>
    cases rr
    obtain ⟨t, rfl⟩ := r
    exact call_range_1 (range_it I1 (by omega) (by omega) q1 q2 (by simpa using q))
theorem pi_range2 {a b : Expr} {ta : TA} {p pos : Pos} (hg : Gl X "range") (hm : X.mg "range" = none) (ha : PA X [a, b] ta) (hs : starEach [a, b] X.env = [(false, eval a X.env), (false, eval b X.env)] := by rfl) (hs2 : starEach [b] X.env = [(false, eval b X.env)] := by rfl) :
    PI X tg (.Call (.Name "range" p) [a, b] [] pos) (iRng2 ta) := by
  intro pins s σ H R I h
  refine Call_ (ld_blt I hg hm boot_range (PyProof.Rows.callWith_type1 (thn (ha pos pins s σ H _ I h) fun us s1 ⟨vs, H1, I1, r1, q1⟩ => ?_) (by rw [hs, hs2]) (by rw [hs2]; rfl)))
  obtain ⟨i, j, e, ⟨q1, q2, q3, q4⟩, q⟩ := q1
  subst e
  cases r1 with
  | cons r rr =>
    cases rr with
    | cons r' rr =>
      cases rr
      obtain ⟨t, rfl⟩ := r
      obtain ⟨t', rfl⟩ := r'
      exact call_range_2 (range_it I1 q1 q2 q3 q4 q)

/-! ### for -/
/-- W: the invariant by the turn and a measure; N: what the body is to reach -/
def tFor (wi : TI) (g : TG) (tb : TS) : TS := fun D σ H => wi σ H fun J H1 => ∃ W : Nat → Nat → St → Hp → Prop, (∃ m, W 0 m σ H1) ∧ ∀ i m σ H, W i m σ H →
  (J.stop i H ∧ D.nx σ H) ∨ (J.go i H ∧ ∃ N : St → Hp → Prop, (∀ σ' H', N σ' H' → ∃ m', m' < m ∧ W (i + 1) m' σ' H') ∧ ∀ x H', J.yld i H x H' → g x σ H' fun σ2 H2 => tb { D with nx := N, ct := N, bk := D.nx } σ2 H2)
/-- the records at fp as they stand -/
def pinsAt (fp : List Addr) (h : Heap) : List (Addr × Obj) := fp.filterMap fun b => (h.get? b).map fun o => (b, o)
theorem mem_pinsAt {fp : List Addr} {h : Heap} {b : Addr} {o : Obj} (hb : b ∈ fp) (e : h.get? b = some o) : (b, o) ∈ pinsAt fp h := List.mem_filterMap.mpr ⟨b, hb, by rw [e]; rfl⟩
theorem of_pinsAt {fp : List Addr} {h : Heap} {p : Addr × Obj} (hp : p ∈ pinsAt fp h) : p.1 ∈ fp ∧ h.get? p.1 = some p.2 := by
  obtain ⟨b, hb, e⟩ := List.mem_filterMap.mp hp
  cases q : h.get? b with
  | none => rw [q] at e; cases e
  | some o =>
    rw [q] at e
    have e' : (b, o) = p := Option.some.inj e
    subst e'
    exact ⟨hb, q⟩
theorem Inv.pinned {pins : List (Addr × Obj)} {σ : St} {H : Hp} {s : Shared} {fp : List Addr} (I : Inv X pins σ H s) (hf : ∀ b ∈ fp, FpOk X pins H b) (ho : ∀ b ∈ fp, ∃ o, s.heap.get? b = some o ∧ ∀ v, o.data ≠ .cell v) : Inv X (pins ++ pinsAt fp s.heap) σ H s :=
  I.pins_of fun p hp => (List.mem_append.mp hp).elim (fun z => I.pin p (List.mem_append_right _ z)) fun z => by
    obtain ⟨hb, e⟩ := of_pinsAt z
    obtain ⟨f0, f1, f2, _⟩ := hf p.1 hb
    obtain ⟨o, e', d⟩ := ho p.1 hb
    rw [e] at e'; cases e'
    exact ⟨e, f0, f1, f2, d⟩
theorem Inv.unpinned {pins pl : List (Addr × Obj)} {σ : St} {H : Hp} {s : Shared} (I : Inv X (pins ++ pl) σ H s) : Inv X pins σ H s := I.pins_of fun p hp => I.pin p (List.mem_append_right _ (List.mem_append_left _ hp))
theorem ps_for {iter : Expr} {body : List Stmt} {wi : TI} {g : TG} {tb : TS} {pos : Pos} (hp : PassesOwn (model X.prog X.w) X.A X.env X.xe) (hc : X.calm = true) (hi : PI X tg iter wi) (hg : PG X tg g) (hb : PSs X body tb)
    (hs : ∀ x, foldedSetIterable iter X.env x = pure x := by intro _; rfl) : PS X (.For tg iter body [] pos) (tFor wi g tb) := by
  intro pins s σ H D I h
  refine wpAny_For (thn (hi pins s σ H _ I h) fun v s1 h1 => thn h1 fun itv s2 h2 => ?_) hs
  obtain ⟨it, fp, tn, J, H2, e, I2, T, st2, f2, W, ⟨m0, w0⟩, turn⟩ := h2
  subst e
  -- what stays true of the iterator's objects through the loop
  have stat : ∀ {H' : Hp}, (∀ b ∈ fp, H' b = none) → ∀ b ∈ fp, FpOk X pins H' b := fun hn b hb => ⟨hn b hb, (f2 b hb).2⟩
  refine codeAny_forLoop_any (fun n s' => ∃ i σ' H', Inv X pins σ' H' s' ∧ tn i s'.heap ∧ (∀ b ∈ fp, H' b = none) ∧ W i n σ' H') ?_ m0 ⟨0, σ, H2, I2, st2, fun b hb => (f2 b hb).1, w0⟩
  rintro n s3 ⟨i, σ3, H3, I3, st3, fr3, w3⟩
  rcases turn i n σ3 H3 w3 with ⟨stop, qn⟩ | ⟨go, N, hN, step⟩
  · refine wpAny_passesOwn hp (thn (T.done X rfl rfl rfl hc i pins s3 σ3 H3 X.xe I3 (stat fr3) st3 stop) fun r s4 ⟨hr, I4⟩ => ?_)
    subst hr
    exact wpAny_execs_nil ⟨σ3, H3, I4, qn⟩
  · refine wpAny_passesOwn hp (thn (T.item X rfl rfl rfl hc i pins s3 σ3 H3 X.xe I3 (stat fr3) st3 go) fun r s4 ⟨u, hr, h4⟩ => ?_)
    subst hr
    refine wpAny_passesOwn hp (thn h4 fun _ s5 ⟨x, H5, I5, r5, y5, st5, fr5⟩ => ?_)
    have I5' := I5.pinned (stat fr5) (T.obj _ _ st5)
    refine wpAny_passesOwn hp (thn (hg _ s5 σ3 H5 x u _ I5' r5 (step x H5 y5)) fun _ s6 ⟨σ6, H6, I6, q6⟩ => ?_)
    refine wpAny_passesOwn hp (thn (hb _ s6 σ6 H6 _ I6 q6) fun f s7 q7 => ?_)
    have again : ∀ {σ7 : St} {H7 : Hp}, Inv X (pins ++ pinsAt fp s5.heap) σ7 H7 s7 → N σ7 H7 → ∃ m, m < n ∧ ∃ i σ' H', Inv X pins σ' H' s7 ∧ tn i s7.heap ∧ (∀ b ∈ fp, H' b = none) ∧ W i m σ' H' := fun {σ7 H7} I7 n7 => by
      obtain ⟨m', hm, w7⟩ := hN σ7 H7 n7
      refine ⟨m', hm, i + 1, σ7, H7, I7.unpinned, T.keep _ _ _ st5 fun b hb o e => (I7.pin (b, o) (List.mem_append_right _ (List.mem_append_right _ (mem_pinsAt hb e)))).1, fun b hb => ?_, w7⟩
      obtain ⟨o, e, d⟩ := T.obj _ _ st5 b hb
      exact (I7.pin (b, o) (List.mem_append_right _ (List.mem_append_right _ (mem_pinsAt hb e)))).2.1
    cases f with
    | next => obtain ⟨σ7, H7, I7, n7⟩ := q7; exact again I7 n7
    | cont => obtain ⟨σ7, H7, I7, n7⟩ := q7; exact again I7 n7
    | brk => obtain ⟨σ7, H7, I7, q7⟩ := q7; exact ⟨σ7, H7, I7.unpinned, q7⟩
    | ret v => obtain ⟨x7, σ7, H7, I7, r7, q7⟩ := q7; exact ⟨x7, σ7, H7, I7.unpinned, r7, q7⟩
end

/-! ### the forms one uses -/
/-- over a list that the body leaves as it is -/
theorem for_list {K : PySem.W.Frag} {a : Addr} {xs : List V} {g : TG} {tb : TS} {D : Ends} {σ : St} {H : Hp} (Pv : Nat → St → Hp → Prop) (h0 : Pv 0 σ H) (hl : ∀ i σ H, i ≤ xs.length → Pv i σ H → SqL K H a xs)
    (hs : ∀ i x σ H, xs[i]? = some x → Pv i σ H → g x σ H fun σ2 H2 => tb { D with nx := Pv (i + 1), ct := Pv (i + 1), bk := D.nx } σ2 H2) (hd : ∀ σ H, Pv xs.length σ H → D.nx σ H) :
    ∃ W : Nat → Nat → St → Hp → Prop, (∃ m, W 0 m σ H) ∧ ∀ i m σ H, W i m σ H →
      ((Itl K a).stop i H ∧ D.nx σ H) ∨ ((Itl K a).go i H ∧ ∃ N : St → Hp → Prop, (∀ σ' H', N σ' H' → ∃ m', m' < m ∧ W (i + 1) m' σ' H') ∧ ∀ x H', (Itl K a).yld i H x H' → g x σ H' fun σ2 H2 => tb { D with nx := N, ct := N, bk := D.nx } σ2 H2) := by
  refine ⟨fun i m σ H => m = xs.length - i ∧ i ≤ xs.length ∧ Pv i σ H, ⟨xs.length, by simp, Nat.zero_le _, h0⟩, ?_⟩
  rintro i m σ H ⟨rfl, hi, p⟩
  have q := hl i σ H hi p
  by_cases hlt : i < xs.length
  · refine .inr ⟨⟨xs, xs[i], q, by simp [hlt]⟩, Pv (i + 1), fun σ' H' p' => ⟨xs.length - (i + 1), by omega, rfl, hlt, p'⟩, fun x H' y => ?_⟩
    obtain ⟨e, y⟩ := y
    subst e
    exact hs i x σ _ (y xs q) p
  · have e : i = xs.length := by omega
    subst e
    exact .inl ⟨⟨xs, q, Nat.le_refl _⟩, hd σ H p⟩
theorem for_tup {K : PySem.W.Frag} {a : Addr} {xs : List V} {g : TG} {tb : TS} {D : Ends} {σ : St} {H : Hp} (Pv : Nat → St → Hp → Prop) (h0 : Pv 0 σ H) (hl : ∀ i σ H, i ≤ xs.length → Pv i σ H → SqT K H a xs)
    (hs : ∀ i x σ H, xs[i]? = some x → Pv i σ H → g x σ H fun σ2 H2 => tb { D with nx := Pv (i + 1), ct := Pv (i + 1), bk := D.nx } σ2 H2) (hd : ∀ σ H, Pv xs.length σ H → D.nx σ H) :
    ∃ W : Nat → Nat → St → Hp → Prop, (∃ m, W 0 m σ H) ∧ ∀ i m σ H, W i m σ H →
      ((Itt K a).stop i H ∧ D.nx σ H) ∨ ((Itt K a).go i H ∧ ∃ N : St → Hp → Prop, (∀ σ' H', N σ' H' → ∃ m', m' < m ∧ W (i + 1) m' σ' H') ∧ ∀ x H', (Itt K a).yld i H x H' → g x σ H' fun σ2 H2 => tb { D with nx := N, ct := N, bk := D.nx } σ2 H2) := by
  refine ⟨fun i m σ H => m = xs.length - i ∧ i ≤ xs.length ∧ Pv i σ H, ⟨xs.length, by simp, Nat.zero_le _, h0⟩, ?_⟩
  rintro i m σ H ⟨rfl, hi, p⟩
  have q := hl i σ H hi p
  by_cases hlt : i < xs.length
  · refine .inr ⟨⟨xs, xs[i], q, by simp [hlt]⟩, Pv (i + 1), fun σ' H' p' => ⟨xs.length - (i + 1), by omega, rfl, hlt, p'⟩, fun x H' y => ?_⟩
    obtain ⟨e, y⟩ := y
    subst e
    exact hs i x σ _ (y xs q) p
  · have e : i = xs.length := by omega
    subst e
    exact .inl ⟨⟨xs, q, Nat.le_refl _⟩, hd σ H p⟩
theorem for_range {lo : Int} {n : Nat} {g : TG} {tb : TS} {D : Ends} {σ : St} {H : Hp} (Pv : Nat → St → Hp → Prop) (h0 : Pv 0 σ H)
    (hs : ∀ i σ H, i < n → Pv i σ H → g (.int (lo + i)) σ H fun σ2 H2 => tb { D with nx := Pv (i + 1), ct := Pv (i + 1), bk := D.nx } σ2 H2) (hd : ∀ σ H, Pv n σ H → D.nx σ H) :
    ∃ W : Nat → Nat → St → Hp → Prop, (∃ m, W 0 m σ H) ∧ ∀ i m σ H, W i m σ H →
      ((Itr lo n).stop i H ∧ D.nx σ H) ∨ ((Itr lo n).go i H ∧ ∃ N : St → Hp → Prop, (∀ σ' H', N σ' H' → ∃ m', m' < m ∧ W (i + 1) m' σ' H') ∧ ∀ x H', (Itr lo n).yld i H x H' → g x σ H' fun σ2 H2 => tb { D with nx := N, ct := N, bk := D.nx } σ2 H2) := by
  refine ⟨fun i m σ H => m = n - i ∧ i ≤ n ∧ Pv i σ H, ⟨n, by simp, Nat.zero_le _, h0⟩, ?_⟩
  rintro i m σ H ⟨rfl, hi, p⟩
  by_cases hlt : i < n
  · refine .inr ⟨hlt, Pv (i + 1), fun σ' H' p' => ⟨n - (i + 1), by omega, rfl, hlt, p'⟩, fun x H' y => ?_⟩
    obtain ⟨e, y⟩ := y
    subst e y
    exact hs i σ _ hlt p
  · have e : i = n := by omega
    subst e
    exact .inl ⟨Nat.le_refl _, hd σ H p⟩
/-- while, by a word and a measure of the state -/
theorem while_by {c : TT} {tb : TS} {D : Ends} {σ : St} {H : Hp} (Pv : St → Hp → Prop) (μ : St → Hp → Nat) (h0 : Pv σ H)
    (hs : ∀ σ H, Pv σ H → c σ H fun b H1 => if b = true then tb { D with nx := fun σ' H' => Pv σ' H' ∧ μ σ' H' < μ σ H, ct := fun σ' H' => Pv σ' H' ∧ μ σ' H' < μ σ H, bk := D.nx } σ H1 else D.nx σ H1)
    (mono : ∀ σ H Q Q', (∀ b H1, Q b H1 → Q' b H1) → c σ H Q → c σ H Q') : tWhile c tb D σ H := by
  refine ⟨fun m σ H => m = μ σ H ∧ Pv σ H, ⟨_, rfl, h0⟩, ?_⟩
  rintro m σ H ⟨rfl, p⟩
  refine mono σ H _ _ (fun b H1 q => ?_) (hs σ H p)
  cases b with
  | true => exact ⟨_, fun σ' H' ⟨p', l⟩ => ⟨_, l, rfl, p'⟩, q⟩
  | false => exact q
end L2

namespace L2
open PySem PySem.Spec PyProof.Rows

abbrev R2 := V → V → Hp → VK → Prop
/-- a two-place operation on values: f is binaryOp op, inplaceOp op or compareOp op -/
def OpR (X : Cx) (f : Value → Value → Sem Value) (r : R2) : Prop :=
  ∀ (pins : List (Addr × Obj)) (s : Shared) (σ : St) (H : Hp) (x y : V) (v u : Value) (Q : VK), Inv X pins σ H s → RelV x v → RelV y u → r x y H Q →
    wpAny (model X.prog X.w) X.A (f v u) (EP X pins σ Q) X.xe s
/-- a one-place operation -/
def UnR (X : Cx) (f : Value → Sem Value) (r : V → Hp → VK → Prop) : Prop :=
  ∀ (pins : List (Addr × Obj)) (s : Shared) (σ : St) (H : Hp) (x : V) (v : Value) (Q : VK), Inv X pins σ H s → RelV x v → r x H Q →
    wpAny (model X.prog X.w) X.A (f v) (EP X pins σ Q) X.xe s
/-- a call of a value that is known (a builtin, a type) with values -/
def CallR (X : Cx) (f : Value) (r : List V → Hp → VK → Prop) : Prop :=
  ∀ (pins : List (Addr × Obj)) (s : Shared) (σ : St) (H : Hp) (xs : List V) (us : List Value) (Q : VK), Inv X pins σ H s → Vals xs us → r xs H Q →
    wpAny (model X.prog X.w) X.A (call f us) (EP X pins σ Q) X.xe s
/-- a value's truth -/
def TruR (X : Cx) (r : V → Hp → (Bool → Hp → Prop) → Prop) : Prop :=
  ∀ (pins : List (Addr × Obj)) (s : Shared) (σ : St) (H : Hp) (x : V) (v : Value) (Q : Bool → Hp → Prop), Inv X pins σ H s → RelV x v → r x H Q →
    wpAny (model X.prog X.w) X.A (truthy v) (TP X pins σ Q) X.xe s

def tOp (r : R2) (ta tb : TE) : TE := fun σ H Q => ta σ H fun x H1 => tb σ H1 fun y H2 => r x y H2 Q
def tUn (r : V → Hp → VK → Prop) (ta : TE) : TE := fun σ H Q => ta σ H fun x H1 => r x H1 Q
/-- ints in, under C, and a value out -/
def rI (C : Int → Int → Prop) (g : Int → Int → V) : R2 := fun x y H Q => ∃ i j, x = .int i ∧ y = .int j ∧ C i j ∧ Q (g i j) H
def rI0 (g : Int → Int → V) : R2 := fun x y H Q => ∃ i j, x = .int i ∧ y = .int j ∧ Q (g i j) H
def rU (g : Int → V) : V → Hp → VK → Prop := fun x H Q => ∃ i, x = .int i ∧ Q (g i) H

section
variable {X : Cx} {a b c : Expr} {ta tb tc : TE} {pos : Pos}

theorem binT (ha : PE X a ta) (hb : PE X b tb) {pins : List (Addr × Obj)} {s : Shared} {σ : St} {H : Hp} {R : V → V → Hp → Prop} (I : Inv X pins σ H s)
    (h : ta σ H fun x H1 => tb σ H1 fun y H2 => R x y H2) {Q : Value → Shared → Prop} {f : Value → Value → Sem Value}
    (hf : ∀ v u s2 x y H2, Inv X pins σ H2 s2 → RelV x v → RelV y u → R x y H2 → wpAny (model X.prog X.w) X.A (f v u) Q X.xe s2) :
    wpAny (model X.prog X.w) X.A (eval a X.env) (fun v s₁ => wpAny (model X.prog X.w) X.A (eval b X.env) (fun u s₂ => wpAny (model X.prog X.w) X.A (f v u) Q X.xe s₂) X.xe s₁) X.xe s := by
  refine thn (ha pins s σ H _ I h) fun v s1 ⟨x, H1, I1, r1, q1⟩ => ?_
  refine thn (hb pins s1 σ H1 _ I1 q1) fun u s2 ⟨y, H2, I2, r2, q2⟩ => ?_
  exact hf v u s2 x y H2 I2 r1 r2 q2

theorem pe_op {op : Operator} {r : R2} (ho : OpR X (binaryOp op) r) (ha : PE X a ta) (hb : PE X b tb) : PE X (.BinOp a op b pos) (tOp r ta tb) := by
  intro pins s σ H Q I h
  exact wpAny_BinOp (binT ha hb I h fun v u s2 x y H2 I2 rx ry q => ho pins s2 σ H2 x y v u Q I2 rx ry q)
theorem pe_un {op : UnaryOp} {r : V → Hp → VK → Prop} (ho : UnR X (unaryOp op) r) (ha : PE X a ta) : PE X (.UnaryOp op a pos) (tUn r ta) := by
  intro pins s σ H Q I h
  exact UnaryOp_ (thn (ha pins s σ H _ I h) fun v s1 ⟨x, H1, I1, r1, q1⟩ => ho pins s1 σ H1 x v Q I1 r1 q1)
/-- a op= e at a name: the name's slot i -/
theorem augR {op : Operator} {r : R2} (ho : OpR X (inplaceOp op) r) {pins : List (Addr × Obj)} {s : Shared} {σ : St} {H : Hp} {x y : V} {v u : Value} {Q : VK} (I : Inv X pins σ H s)
    (rx : RelV x v) (ry : RelV y u) (q : r x y H Q) : wpAny (model X.prog X.w) X.A (inplaceOp op v u) (EP X pins σ Q) X.xe s := ho pins s σ H x y v u Q I rx ry q

/-! ### ints -/
theorem opI {f : Value → Value → Sem Value} {C : Int → Int → Prop} {g : Int → Int → Int}
    (rule : ∀ (i j : Int) (t u : Tok) (s : Shared) (Q : Value → Shared → Prop) (E : Value → Shared → Prop), C i j → Q (.int (g i j) s.toks) { s with toks := s.toks + 1 } → wpAny (model X.prog X.w) X.A (f (.int i t) (.int j u)) Q E s) :
    OpR X f (rI C fun i j => .int (g i j)) := by
  intro pins s σ H x y v u Q I rx ry h
  obtain ⟨i, j, rfl, rfl, hc, q⟩ := h
  obtain ⟨t, rfl⟩ := rx
  obtain ⟨t', rfl⟩ := ry
  exact rule i j t t' s _ _ hc ⟨.int (g i j), H, I.tok _, ⟨_, rfl⟩, q⟩
theorem opI0 {f : Value → Value → Sem Value} {g : Int → Int → Int}
    (rule : ∀ (i j : Int) (t u : Tok) (s : Shared) (Q : Value → Shared → Prop) (E : Value → Shared → Prop), Q (.int (g i j) s.toks) { s with toks := s.toks + 1 } → wpAny (model X.prog X.w) X.A (f (.int i t) (.int j u)) Q E s) :
    OpR X f (rI0 fun i j => .int (g i j)) := by
  intro pins s σ H x y v u Q I rx ry h
  obtain ⟨i, j, rfl, rfl, q⟩ := h
  obtain ⟨t, rfl⟩ := rx
  obtain ⟨t', rfl⟩ := ry
  exact rule i j t t' s _ _ ⟨.int (g i j), H, I.tok _, ⟨_, rfl⟩, q⟩
theorem opB0 {f : Value → Value → Sem Value} {g : Int → Int → Bool}
    (rule : ∀ (i j : Int) (t u : Tok) (s : Shared) (Q : Value → Shared → Prop) (E : Value → Shared → Prop), Q (.bool (g i j)) s → wpAny (model X.prog X.w) X.A (f (.int i t) (.int j u)) Q E s) :
    OpR X f (rI0 fun i j => .bl (g i j)) := by
  intro pins s σ H x y v u Q I rx ry h
  obtain ⟨i, j, rfl, rfl, q⟩ := h
  obtain ⟨t, rfl⟩ := rx
  obtain ⟨t', rfl⟩ := ry
  exact rule i j t t' s _ _ ⟨.bl (g i j), H, I, rfl, q⟩

def CDiv (i j : Int) : Prop := 0 < j ∧ j < 1073741824
def CDivN (i j : Int) : Prop := j ≠ 0 ∧ j.natAbs < 1073741824
def CPow (i j : Int) : Prop := 0 ≤ j ∧ j ≤ 1000000 ∧ i.natAbs < 2 ^ 64
def CMul (i j : Int) : Prop := (-(2 ^ 64) < i ∧ i < 2 ^ 64) ∨ (-(2 ^ 64) < j ∧ j < 2 ^ 64)
theorem CMul.ok {i j : Int} (h : CMul i j) : IntMulOk i j := by
  rcases h with ⟨h1, h2⟩ | ⟨h1, h2⟩
  · exact .of_left (intBits_le_64 h1 h2)
  · exact .of_right (intBits_le_64 h1 h2)
theorem two_pow_nn (k : Nat) : (0 : Int) ≤ 2 ^ k := by
  rw [two_pow_cast]
  exact Int.natCast_nonneg _

theorem op_add : OpR X (binaryOp .Add) (rI0 fun i j => .int (i + j)) := opI0 fun _ _ _ _ _ _ _ q => add_int q
theorem op_sub : OpR X (binaryOp .Sub) (rI0 fun i j => .int (i - j)) := opI0 fun _ _ _ _ _ _ _ q => sub_int q
theorem op_mul : OpR X (binaryOp .Mult) (rI CMul fun i j => .int (i * j)) := opI fun _ _ _ _ _ _ _ hc q => mul_int q hc.ok
/-- // by a positive divisor -/
theorem op_fdiv : OpR X (binaryOp .FloorDiv) (rI CDiv fun i j => .int (i / j)) := opI fun i j _ _ _ _ _ hc q => by
  have h1 : (0 : Int) < j := hc.1
  have h2 : j < 1073741824 := hc.2
  exact floordiv_int (by omega) (by rw [Int.fdiv_eq_ediv_of_nonneg i (by omega)]; exact q) (.inl (PyProof.noPylong_small (by omega)))
theorem op_fdivN : OpR X (binaryOp .FloorDiv) (rI CDivN fun i j => .int (i.fdiv j)) := opI fun _ _ _ _ _ _ _ hc q => floordiv_int hc.1 q (.inl (PyProof.noPylong_small hc.2))
/-- % by a positive divisor of any size -/
theorem op_mod : OpR X (binaryOp .Mod) (rI (fun _ j => 0 < j) fun i j => .int (i % j)) := opI fun i j _ _ _ _ _ hc q => by
  have h1 : (0 : Int) < j := hc
  exact mod_int' (by omega) (by rw [Int.fmod_eq_emod_of_nonneg i (by omega)]; exact q)
theorem op_modN : OpR X (binaryOp .Mod) (rI (fun _ j => j ≠ 0) fun i j => .int (i.fmod j)) := opI fun _ _ _ _ _ _ _ hc q => mod_int' hc q
theorem op_pow : OpR X (binaryOp .Pow) (rI CPow fun i j => .int (i ^ j.toNat)) := opI fun _ _ _ _ _ _ _ hc q => pow_int_small hc.1 hc.2.1 hc.2.2 q
theorem op_shl : OpR X (binaryOp .LShift) (rI CPow fun i j => .int (i * 2 ^ j.toNat)) := opI fun _ _ _ _ _ _ _ hc q => lshift_int_small hc.1 hc.2.1 hc.2.2 q
theorem op_shr : OpR X (binaryOp .RShift) (rI (fun _ j => 0 ≤ j) fun i j => .int (i / 2 ^ j.toNat)) := opI fun i j _ _ _ _ _ hc q =>
  rshift_int hc (by rw [Int.fdiv_eq_ediv_of_nonneg i (two_pow_nn _)]; exact q)
theorem op_and : OpR X (binaryOp .BitAnd) (rI0 fun i j => .int (Builtin.bitAnd i j)) := opI0 fun _ _ _ _ _ _ _ q => and_int q
theorem op_or : OpR X (binaryOp .BitOr) (rI0 fun i j => .int (Builtin.bitOr i j)) := opI0 fun _ _ _ _ _ _ _ q => or_int q
theorem op_xor : OpR X (binaryOp .BitXor) (rI0 fun i j => .int (Builtin.bitXor i j)) := opI0 fun _ _ _ _ _ _ _ q => xor_int q

theorem iop_add : OpR X (inplaceOp .Add) (rI0 fun i j => .int (i + j)) := opI0 fun _ _ _ _ _ _ _ q => iadd_int q
theorem iop_sub : OpR X (inplaceOp .Sub) (rI0 fun i j => .int (i - j)) := opI0 fun _ _ _ _ _ _ _ q => isub_int q
theorem iop_mul : OpR X (inplaceOp .Mult) (rI CMul fun i j => .int (i * j)) := opI fun _ _ _ _ _ _ _ hc q => imul_int q hc.ok
theorem iop_fdiv : OpR X (inplaceOp .FloorDiv) (rI CDiv fun i j => .int (i / j)) := opI fun i j _ _ _ _ _ hc q => by
  have h1 : (0 : Int) < j := hc.1
  have h2 : j < 1073741824 := hc.2
  exact ifloordiv_int (by omega) (by rw [Int.fdiv_eq_ediv_of_nonneg i (by omega)]; exact q) (.inl (PyProof.noPylong_small (by omega)))
theorem iop_mod : OpR X (inplaceOp .Mod) (rI (fun _ j => 0 < j) fun i j => .int (i % j)) := opI fun i j _ _ _ _ _ hc q => by
  have h1 : (0 : Int) < j := hc
  exact imod_int (by omega) (by rw [Int.fmod_eq_emod_of_nonneg i (by omega)]; exact q)
theorem iop_shl : OpR X (inplaceOp .LShift) (rI CPow fun i j => .int (i * 2 ^ j.toNat)) := opI fun _ _ _ _ _ _ _ hc q => ilshift_int_small hc.1 hc.2.1 hc.2.2 q
theorem iop_shr : OpR X (inplaceOp .RShift) (rI (fun _ j => 0 ≤ j) fun i j => .int (i / 2 ^ j.toNat)) := opI fun i j _ _ _ _ _ hc q =>
  irshift_int hc (by rw [Int.fdiv_eq_ediv_of_nonneg i (two_pow_nn _)]; exact q)
theorem iop_and : OpR X (inplaceOp .BitAnd) (rI0 fun i j => .int (Builtin.bitAnd i j)) := opI0 fun _ _ _ _ _ _ _ q => iand_int q
theorem iop_or : OpR X (inplaceOp .BitOr) (rI0 fun i j => .int (Builtin.bitOr i j)) := opI0 fun _ _ _ _ _ _ _ q => ior_int q
theorem iop_xor : OpR X (inplaceOp .BitXor) (rI0 fun i j => .int (Builtin.bitXor i j)) := opI0 fun _ _ _ _ _ _ _ q => ixor_int q

theorem unI {f : Value → Sem Value} {g : Int → Int}
    (rule : ∀ (i : Int) (t : Tok) (s : Shared) (Q : Value → Shared → Prop) (E : Value → Shared → Prop), Q (.int (g i) s.toks) { s with toks := s.toks + 1 } → wpAny (model X.prog X.w) X.A (f (.int i t)) Q E s) :
    UnR X f (rU fun i => .int (g i)) := by
  intro pins s σ H x v Q I rx h
  obtain ⟨i, rfl, q⟩ := h
  obtain ⟨t, rfl⟩ := rx
  exact rule i t s _ _ ⟨.int (g i), H, I.tok _, ⟨_, rfl⟩, q⟩
theorem un_neg : UnR X (unaryOp .USub) (rU fun i => .int (-i)) := unI fun _ _ _ _ _ q => neg_int q
theorem un_inv : UnR X (unaryOp .Invert) (rU fun i => .int (Builtin.bitNot i)) := unI fun _ _ _ _ _ q => invert_int q

/-! ### bools among ints: n += (a < b) -/
theorem op_add_ib : OpR X (binaryOp .Add) (fun x y H Q => ∃ i k, x = .int i ∧ y = .bl k ∧ Q (.int (i + b2i k)) H) := by
  intro pins s σ H x y v u Q I rx ry h
  obtain ⟨i, k, rfl, rfl, q⟩ := h
  obtain ⟨t, rfl⟩ := rx
  cases ry
  exact add_int_bool ⟨.int (i + b2i k), H, I.tok _, ⟨_, rfl⟩, q⟩
end

/-! ### comparisons -/
/-- the scalars that == tells apart as data does -/
def scal : V → V → Bool
  | .non, .non => true | .non, .int _ => true | .int _, .non => true | .non, .bl _ => true | .bl _, .non => true | .non, .str _ => true | .str _, .non => true
  | .int _, .int _ => true | .bl _, .bl _ => true | .str _, .str _ => true | .byt _, .byt _ => true
  | .int _, .str _ => true | .str _, .int _ => true | .bl _, .str _ => true | .str _, .bl _ => true
  | _, _ => false
def rEq : R2 := fun x y H Q => scal x y = true ∧ Q (.bl (decide (x = y))) H
def rNe : R2 := fun x y H Q => scal x y = true ∧ Q (.bl (!decide (x = y))) H

theorem dec_int {i j : Int} : decide (V.int i = V.int j) = (i == j) := by
  rw [Bool.eq_iff_iff]
  simp
theorem dec_bl {i j : Bool} : decide (V.bl i = V.bl j) = (i == j) := by
  rw [Bool.eq_iff_iff]
  simp
theorem dec_str {i j : Str} : decide (V.str i = V.str j) = (i == j) := by
  rw [Bool.eq_iff_iff]
  simp
theorem dec_byt {i j : Array UInt8} : decide (V.byt i = V.byt j) = (i.toList == j.toList) := by
  rw [Bool.eq_iff_iff]
  cases i
  cases j
  simp

section
variable {X : Cx} {a b c : Expr} {ta tb tc : TE} {pos : Pos}
theorem fin_bl {pins : List (Addr × Obj)} {σ : St} {H : Hp} {s : Shared} {Q : VK} {k k' : Bool} (I : Inv X pins σ H s) (q : Q (.bl k) H) (e : k = k') : EP X pins σ Q (.bool k') s := by
  subst e
  exact ⟨.bl k, H, I, rfl, q⟩
theorem op_eq : OpR X (compareOp .Eq) rEq := by
  intro pins s σ H x y v u Q I rx ry h
  obtain ⟨hs, q⟩ := h
  cases x with
  | non =>
    cases rx
    cases y with
    | non => cases ry; exact PySem.EqNone.eq_none_none (fin_bl I q (by simp))
    | bl j => cases ry; exact PySem.EqNone.eq_none_bool (fin_bl I q (by simp))
    | int j => obtain ⟨t', rfl⟩ := ry; exact PySem.EqNone.eq_none_int (fin_bl I q (by simp))
    | str j => obtain ⟨t', rfl⟩ := ry; exact PySem.EqNone.eq_none_str (fin_bl I q (by simp))
    | _ => exact absurd (show false = true from hs) Bool.false_ne_true
  | bl i =>
    cases rx
    cases y with
    | non => cases ry; exact PySem.EqNone.eq_bool_none (fin_bl I q (by simp))
    | bl j => cases ry; exact eq_bool (fin_bl I q dec_bl)
    | str j => obtain ⟨t', rfl⟩ := ry; exact PySem.EqMixed.eq_bool_str (fin_bl I q (by simp))
    | _ => exact absurd (show false = true from hs) Bool.false_ne_true
  | int i =>
    obtain ⟨t, rfl⟩ := rx
    cases y with
    | non => cases ry; exact PySem.EqNone.eq_int_none (fin_bl I q (by simp))
    | int j => obtain ⟨t', rfl⟩ := ry; exact eq_int (fin_bl I q dec_int)
    | str j => obtain ⟨t', rfl⟩ := ry; exact PySem.EqMixed.eq_int_str (fin_bl I q (by simp))
    | _ => exact absurd (show false = true from hs) Bool.false_ne_true
  | str i =>
    obtain ⟨t, rfl⟩ := rx
    cases y with
    | non => cases ry; exact PySem.EqNone.eq_str_none (fin_bl I q (by simp))
    | bl j => cases ry; exact PySem.EqMixed.eq_str_bool (fin_bl I q (by simp))
    | int j => obtain ⟨t', rfl⟩ := ry; exact PySem.EqMixed.eq_str_int (fin_bl I q (by simp))
    | str j => obtain ⟨t', rfl⟩ := ry; exact eq_str (fin_bl I q dec_str)
    | _ => exact absurd (show false = true from hs) Bool.false_ne_true
  | byt i =>
    obtain ⟨t, rfl⟩ := rx
    cases y with
    | byt j => obtain ⟨t', rfl⟩ := ry; exact PySem.W.eq_bytes (fin_bl I q dec_byt)
    | _ => exact absurd (show false = true from hs) Bool.false_ne_true
  | _ => cases y <;> exact absurd (show false = true from hs) Bool.false_ne_true
theorem op_ne : OpR X (compareOp .NotEq) rNe := by
  intro pins s σ H x y v u Q I rx ry h
  obtain ⟨hs, q⟩ := h
  cases x with
  | non =>
    cases rx
    cases y with
    | non => cases ry; exact PySem.EqNone.ne_none_none (fin_bl I q (by simp))
    | bl j => cases ry; exact PySem.EqNone.ne_none_bool (fin_bl I q (by simp))
    | int j => obtain ⟨t', rfl⟩ := ry; exact PySem.EqNone.ne_none_int (fin_bl I q (by simp))
    | str j => obtain ⟨t', rfl⟩ := ry; exact PySem.EqNone.ne_none_str (fin_bl I q (by simp))
    | _ => exact absurd (show false = true from hs) Bool.false_ne_true
  | bl i =>
    cases rx
    cases y with
    | non => cases ry; exact PySem.EqNone.ne_bool_none (fin_bl I q (by simp))
    | bl j => cases ry; exact ne_bool (fin_bl I q (congrArg not dec_bl))
    | str j => obtain ⟨t', rfl⟩ := ry; exact PySem.EqMixed.ne_bool_str (fin_bl I q (by simp))
    | _ => exact absurd (show false = true from hs) Bool.false_ne_true
  | int i =>
    obtain ⟨t, rfl⟩ := rx
    cases y with
    | non => cases ry; exact PySem.EqNone.ne_int_none (fin_bl I q (by simp))
    | int j => obtain ⟨t', rfl⟩ := ry; exact ne_int (fin_bl I q (congrArg not dec_int))
    | str j => obtain ⟨t', rfl⟩ := ry; exact PySem.EqMixed.ne_int_str (fin_bl I q (by simp))
    | _ => exact absurd (show false = true from hs) Bool.false_ne_true
  | str i =>
    obtain ⟨t, rfl⟩ := rx
    cases y with
    | non => cases ry; exact PySem.EqNone.ne_str_none (fin_bl I q (by simp))
    | bl j => cases ry; exact PySem.EqMixed.ne_str_bool (fin_bl I q (by simp))
    | int j => obtain ⟨t', rfl⟩ := ry; exact PySem.EqMixed.ne_str_int (fin_bl I q (by simp))
    | str j => obtain ⟨t', rfl⟩ := ry; exact ne_str (fin_bl I q (congrArg not dec_str))
    | _ => exact absurd (show false = true from hs) Bool.false_ne_true
  | byt i =>
    obtain ⟨t, rfl⟩ := rx
    cases y with
    | byt j => obtain ⟨t', rfl⟩ := ry; exact PySem.W.ne_bytes (fin_bl I q (congrArg not dec_byt))
    | _ => exact absurd (show false = true from hs) Bool.false_ne_true
  | _ => cases y <;> exact absurd (show false = true from hs) Bool.false_ne_true

theorem op_lt : OpR X (compareOp .Lt) (rI0 fun i j => .bl (decide (i < j))) := opB0 fun _ _ _ _ _ _ _ q => lt_int q
theorem op_le : OpR X (compareOp .LtE) (rI0 fun i j => .bl (decide (i ≤ j))) := opB0 fun _ _ _ _ _ _ _ q => le_int q
theorem op_gt : OpR X (compareOp .Gt) (rI0 fun i j => .bl (decide (j < i))) := opB0 fun _ _ _ _ _ _ _ q => gt_int q
theorem op_ge : OpR X (compareOp .GtE) (rI0 fun i j => .bl (decide (j ≤ i))) := opB0 fun _ _ _ _ _ _ _ q => ge_int q
theorem op_lt_str : OpR X (compareOp .Lt) (fun x y H Q => ∃ i j, x = .str i ∧ y = .str j ∧ Q (.bl (decide (i.cps.toList < j.cps.toList))) H) := by
  intro pins s σ H x y v u Q I rx ry h
  obtain ⟨i, j, rfl, rfl, q⟩ := h
  obtain ⟨t, rfl⟩ := rx
  obtain ⟨t', rfl⟩ := ry
  exact lt_str (fin_bl I q rfl)
/-- the one string within the other -/
theorem op_in_str : OpR X (compareOp .In) (fun x y H Q => ∃ i j, x = .str i ∧ y = .str j ∧ Q (.bl (!(Builtin.Str.occurrences j i 0 j.length 1).isEmpty)) H) := by
  intro pins s σ H x y v u Q I rx ry h
  obtain ⟨i, j, rfl, rfl, q⟩ := h
  obtain ⟨t, rfl⟩ := rx
  obtain ⟨t', rfl⟩ := ry
  exact in_str (fin_bl I q rfl)

/-- is None, is not None: the right side a value none -/
theorem op_isN : OpR X (compareOp .Is) (fun x y H Q => y = .non ∧ Q (.bl (decide (x = .non))) H) := by
  intro pins s σ H x y v u Q I rx ry h
  obtain ⟨rfl, q⟩ := h
  cases ry
  refine is_none_gen (fin_bl I q ?_)
  cases x <;> first
    | (cases rx; rfl)
    | (obtain ⟨t, rfl⟩ := rx; rfl)
theorem op_notN : OpR X (compareOp .IsNot) (fun x y H Q => y = .non ∧ Q (.bl (!decide (x = .non))) H) := by
  intro pins s σ H x y v u Q I rx ry h
  obtain ⟨rfl, q⟩ := h
  cases ry
  refine isnot_none_gen (fin_bl I q ?_)
  cases x <;> first
    | (cases rx; rfl)
    | (obtain ⟨t, rfl⟩ := rx; rfl)

theorem op_notin_str : OpR X (compareOp .NotIn) (fun x y H Q => ∃ i j, x = .str i ∧ y = .str j ∧ Q (.bl (!(!(Builtin.Str.occurrences j i 0 j.length 1).isEmpty))) H) := by
  intro pins s σ H x y v u Q I rx ry h
  obtain ⟨i, j, rfl, rfl, q⟩ := h
  obtain ⟨t, rfl⟩ := rx
  obtain ⟨t', rfl⟩ := ry
  exact notIn_str (fin_bl I q rfl)
/-- is, is not of two objects that are tracked lists or instances -/
def isObj : HO → Bool
  | .lst _ => true
  | .ins _ _ _ => true
  | _ => false
theorem obj_there {pins : List (Addr × Obj)} {s : Shared} {σ : St} {H : Hp} {a : Addr} {o : HO} (I : Inv X pins σ H s) (h : H a = some o) (p : isObj o = true) : ∃ ob, s.heap.get? a = some ob ∧ ob.cls ≠ .type "tuple" := by
  cases o with
  | lst xs =>
    obtain ⟨_, its, n, _, e⟩ : xs.length ≤ sizeLine ∧ ∃ (its : List Value) (n : Nat), Vals xs its ∧ s.heap.get? a = some { cls := .type "list", data := .seq its.toArray n } := I.hok a _ h
    exact ⟨_, e, (by show Value.type "list" ≠ .type "tuple"; decide +kernel)⟩
  | ins C dx fs =>
    have x := I.hok a _ h
    obtain ⟨_, _, _, e, _⟩ := x
    exact ⟨_, e, (by show Value.ref C ≠ .type "tuple"; exact fun z => by cases z)⟩
  | _ => exact absurd (show false = true from p) Bool.false_ne_true
theorem op_is_ref : OpR X (compareOp .Is) (fun x y H Q => ∃ a b oa ob, x = .ref a ∧ y = .ref b ∧ H a = some oa ∧ isObj oa = true ∧ H b = some ob ∧ isObj ob = true ∧ Q (.bl (decide (a = b))) H) := by
  intro pins s σ H x y v u Q I rx ry h
  obtain ⟨a, b, oa, ob, rfl, rfl, ha, pa, hb, pb, q⟩ := h
  cases rx
  cases ry
  obtain ⟨o1, e1, n1⟩ := obj_there I ha pa
  obtain ⟨o2, e2, _⟩ := obj_there I hb pb
  by_cases z : a = b
  · subst z
    exact wpAny_is_ref_self (fin_bl I q (by simp))
  · exact wpAny_is_ref_other z e1 e2 n1 (fin_bl I q (by simp [z]))
theorem op_isnot_ref : OpR X (compareOp .IsNot) (fun x y H Q => ∃ a b oa ob, x = .ref a ∧ y = .ref b ∧ H a = some oa ∧ isObj oa = true ∧ H b = some ob ∧ isObj ob = true ∧ Q (.bl (!decide (a = b))) H) := by
  intro pins s σ H x y v u Q I rx ry h
  obtain ⟨a, b, oa, ob, rfl, rfl, ha, pa, hb, pb, q⟩ := h
  cases rx
  cases ry
  obtain ⟨o1, e1, n1⟩ := obj_there I ha pa
  obtain ⟨o2, e2, _⟩ := obj_there I hb pb
  by_cases z : a = b
  · subst z
    exact wpAny_isNot_ref_self (fin_bl I q (by simp))
  · exact wpAny_isNot_ref_other z e1 e2 n1 (fin_bl I q (by simp [z]))

/-- two rules for one operation: by cases -/
theorem OpR.or {f : Value → Value → Sem Value} {r r' : R2} (h : OpR X f r) (h' : OpR X f r') : OpR X f (fun x y H Q => r x y H Q ∨ r' x y H Q) := by
  intro pins s σ H x y v u Q I rx ry q
  rcases q with q | q
  · exact h pins s σ H x y v u Q I rx ry q
  · exact h' pins s σ H x y v u Q I rx ry q

theorem nomark (b : Expr) {op : CmpOp} (h : op ≠ .In := by decide) (h2 : op ≠ .NotIn := by decide) : behindInMarks op b = false := by
  have e1 : (op == CmpOp.In) = false := by cases op <;> first | rfl | exact absurd rfl h
  have e2 : (op == CmpOp.NotIn) = false := by cases op <;> first | rfl | exact absurd rfl h2
  cases b <;> simp [behindInMarks, e1, e2]
/-- a comparison as a value; hm: nomark b, or (for in, not in) by with_unfolding_all rfl -/
theorem pe_cmpR {op : CmpOp} {r : R2} (ho : OpR X (compareOp op) r) (ha : PE X a ta) (hb : PE X b tb) (hm : behindInMarks op b = false) : PE X (.Compare a [op] [b] pos) (tOp r ta tb) := by
  intro pins s σ H Q I h
  exact wpAny_Compare1 (binT ha hb I h fun v u s2 x y H2 I2 rx ry q => ho pins s2 σ H2 x y v u Q I2 rx ry q) hm
/-- a reading of a value as a test -/
def tTest (t : TE) : TT := fun σ H Q => t σ H fun x H' => ∃ k, x = .bl k ∧ Q k H'
theorem pt_cmpR {op : CmpOp} {r : R2} (ho : OpR X (compareOp op) r) (ha : PE X a ta) (hb : PE X b tb) (hm : behindInMarks op b = false) : PT X (.Compare a [op] [b] pos) (tTest (tOp r ta tb)) := by
  intro pins s σ H Q I h
  refine wpAny_isTrue_Compare1 (thn (ha pins s σ H _ I h) fun v s1 ⟨x, H1, I1, r1, q1⟩ => thn (hb pins s1 σ H1 _ I1 q1) fun u s2 ⟨y, H2, I2, r2, q2⟩ =>
    thn (ho pins s2 σ H2 x y v u _ I2 r1 r2 q2) fun c s3 ⟨z, H3, I3, r3, k, e, q3⟩ => ?_) hm
  subst e
  cases r3
  exact wpAny_truthy_bool ⟨H3, I3, q3⟩
/-- a op1 b op2 c -/
def tChain (r r' : R2) (ta tb tc : TE) : TE := fun σ H Q => ta σ H fun x H1 => tb σ H1 fun y H2 => r x y H2 fun z H3 => ∃ k, z = .bl k ∧
  (if k = true then tc σ H3 fun w' H4 => r' y w' H4 Q else Q (.bl false) H3)
theorem pe_chain {op op' : CmpOp} {r r' : R2} (ho : OpR X (compareOp op) r) (ho' : OpR X (compareOp op') r') (ha : PE X a ta) (hb : PE X b tb) (hc : PE X c tc)
    (hm : lastMarks [op, op'] [b, c] = false := by with_unfolding_all rfl) : PE X (.Compare a [op, op'] [b, c] pos) (tChain r r' ta tb tc) := by
  intro pins s σ H Q I h
  refine Compare_chain (thn (ha pins s σ H _ I h) fun v s1 ⟨x, H1, I1, r1, q1⟩ => chain_link (thn (hb pins s1 σ H1 _ I1 q1) fun u s2 ⟨y, H2, I2, r2, q2⟩ =>
    thn (ho pins s2 σ H2 x y v u _ I2 r1 r2 q2) fun d s3 ⟨z, H3, I3, r3, k, e, q3⟩ => ?_)) hm
  subst e
  cases r3
  refine wpAny_truthy_bool ?_
  cases k with
  | false => exact ite_ff ⟨.bl false, H3, I3, rfl, q3⟩
  | true => exact ite_tt (chain_last (thn (hc pins s3 σ H3 _ I3 q3) fun w' s4 ⟨z', H4, I4, r4, q4⟩ => ho' pins s4 σ H4 y z' u w' Q I4 r2 r4 q4))
theorem pt_chain {op op' : CmpOp} {r r' : R2} (ho : OpR X (compareOp op) r) (ho' : OpR X (compareOp op') r') (ha : PE X a ta) (hb : PE X b tb) (hc : PE X c tc)
    (hm : lastMarks [op, op'] [b, c] = false := by with_unfolding_all rfl) : PT X (.Compare a [op, op'] [b, c] pos) (tTest (tChain r r' ta tb tc)) := by
  intro pins s σ H Q I h
  refine isTrue_chain (thn (ha pins s σ H _ I h) fun v s1 ⟨x, H1, I1, r1, q1⟩ => test_link (thn (hb pins s1 σ H1 _ I1 q1) fun u s2 ⟨y, H2, I2, r2, q2⟩ =>
    thn (ho pins s2 σ H2 x y v u _ I2 r1 r2 q2) fun d s3 ⟨z, H3, I3, r3, k, e, q3⟩ => ?_)) hm
  subst e
  cases r3
  refine wpAny_truthy_bool ?_
  cases k with
  | false =>
    obtain ⟨k', e', q'⟩ := q3
    cases e'
    exact ite_ff ⟨H3, I3, q'⟩
  | true =>
    refine ite_tt (test_last (thn (hc pins s3 σ H3 _ I3 q3) fun w' s4 ⟨z', H4, I4, r4, q4⟩ => thn (ho' pins s4 σ H4 y z' u w' _ I4 r2 r4 q4) fun d' s5 ⟨z2, H5, I5, r5, k2, e2, q5⟩ => ?_))
    subst e2
    cases r5
    exact wpAny_truthy_bool ⟨H5, I5, q5⟩

/-! ### truth -/
/-- a value's truth by the abstract heap -/
def TruV (K : PySem.W.Frag) (x : V) (H : Hp) (k : Bool) : Prop :=
  match x with
  | .non => k = false
  | .bl b => k = b
  | .int i => k = (i != 0)
  | .str y => y.length ≤ sizeLine ∧ k = ((y.length : Int) != 0)
  | .byt y => y.size ≤ sizeLine ∧ k = ((y.size : Int) != 0)
  | .ref p => (∃ xs, SqL K H p xs ∧ k = !xs.isEmpty) ∨ (∃ xs, SqT K H p xs ∧ k = !xs.isEmpty) ∨ ∃ kvs, H p = some (.dK kvs) ∧ k = !kvs.isEmpty
  | _ => False
theorem isEmpty_kv {κ : Type} {kvs : List (κ × V)} {vs : List (κ × Value)} (r : KV kvs vs) : (!vs.isEmpty) = !kvs.isEmpty := by
  cases r <;> rfl
theorem isEmpty_of {xs : List V} {its : List Value} (r : Vals xs its) : (!its.toArray.isEmpty) = !xs.isEmpty := by
  cases r <;> simp
theorem line63 : (sizeLine : Nat) < 2 ^ 63 := by rw [sizeLine_eq]; decide
theorem tru_ok : TruR X (fun x H Q => ∃ k, TruV X.K x H k ∧ Q k H) := by
  intro pins s σ H x v Q I rx h
  obtain ⟨k, e, q⟩ := h
  have hl := line63
  have hs : sizeLine = 16777216 := sizeLine_eq
  cases x with
  | non =>
    cases rx
    have e' : k = false := e
    subst e'
    exact truthy_none ⟨H, I, q⟩
  | bl b =>
    cases rx
    have e' : k = b := e
    subst e'
    exact wpAny_truthy_bool ⟨H, I, q⟩
  | int i =>
    obtain ⟨t, rfl⟩ := rx
    have e' : k = (i != 0) := e
    subst e'
    exact PySem.P.truthy_int ⟨H, I, q⟩
  | str y =>
    obtain ⟨t, rfl⟩ := rx
    obtain ⟨hy, e'⟩ : y.length ≤ sizeLine ∧ k = ((y.length : Int) != 0) := e
    subst e'
    exact PySem.P.truthy_str (by omega) ⟨H, I.tok _, q⟩
  | byt y =>
    obtain ⟨t, rfl⟩ := rx
    obtain ⟨hy, e'⟩ : y.size ≤ sizeLine ∧ k = ((y.size : Int) != 0) := e
    subst e'
    exact PySem.W.truthy_bytes (by omega) ⟨H, I.tok _, q⟩
  | ref p =>
    cases rx
    have e' : (∃ xs, SqL X.K H p xs ∧ k = !xs.isEmpty) ∨ (∃ xs, SqT X.K H p xs ∧ k = !xs.isEmpty) ∨ ∃ kvs, H p = some (.dK kvs) ∧ k = !kvs.isEmpty := e
    rcases e' with ⟨xs, hx, e'⟩ | ⟨xs, hx, e'⟩ | ⟨kvs, hx, e'⟩
    · subst e'
      obtain ⟨its, r, pl, hz⟩ := I.list hx
      have hlen := r.length
      exact wpAny_truthy_list pl.isList (by simp only [List.size_toArray]; omega) ⟨H, I.tok _, by rw [isEmpty_of r]; exact q⟩
    · subst e'
      obtain ⟨its, r, pl, hz⟩ := I.tuple hx
      have hlen := r.length
      exact truthy_tuple pl (by simp only [List.size_toArray]; omega) ⟨H, I.tok _, by rw [isEmpty_of r]; exact q⟩
    · subst e'
      obtain ⟨hz, hS, vs, r, m⟩ : kvs.length ≤ sizeLine ∧ (p == sysModules) = false ∧ ∃ vs, KV kvs vs ∧ s.heap.DictOf (mixKind X.prog X.w) p vs := I.hok p _ hx
      have hlen : kvs.length = vs.length := Paired.length r
      exact wpAny_truthy_dict hS m (by omega) ⟨H, I.tok _, by rw [isEmpty_kv r]; exact q⟩
  | _ => exact (show False from e).elim
/-- any expression whose test is its value's truth (a name, a call, a subscript, a field ..: he by fun _ => rfl) -/
theorem pt_truth (ha : PE X a ta) (he : ∀ whole, isTrue a X.env whole = (do let v ← whole; standAt a.pos; holding [v] (truthy v))) :
    PT X a (fun σ H Q => ta σ H fun x H' => ∃ k, TruV X.K x H' k ∧ Q k H') := by
  intro pins s σ H Q I h
  exact isTrue_plain (thn (ha pins s σ H _ I h) fun v s1 ⟨x, H1, I1, r1, q1⟩ => tru_ok pins s1 σ H1 x v Q I1 r1 q1) (he _)

/-! ### strs and bytes -/
theorem pe_byt {x : List UInt8} {k : Nat} : PE X (.Constant (.bytes x) k pos) (fun _ H Q => Q (.byt x.toArray) H) := fun _ _ _ H _ I h => PySem.W.Constant_bytes ⟨.byt x.toArray, H, I.tok _, ⟨_, rfl⟩, h⟩
theorem op_add_str : OpR X (binaryOp .Add) (fun x y H Q => ∃ i j, x = .str i ∧ y = .str j ∧ i.length + j.length ≤ sizeLine ∧ Q (.str (i ++ j)) H) := by
  intro pins s σ H x y v u Q I rx ry h
  obtain ⟨i, j, rfl, rfl, hz, q⟩ := h
  obtain ⟨t, rfl⟩ := rx
  obtain ⟨t', rfl⟩ := ry
  exact add_str (fun t' tk => ⟨.str (i ++ j), H, I.tok _, ⟨_, rfl⟩, q⟩) hz
theorem iop_add_str : OpR X (inplaceOp .Add) (fun x y H Q => ∃ i j, x = .str i ∧ y = .str j ∧ i.length + j.length ≤ sizeLine ∧ Q (.str (i ++ j)) H) := by
  intro pins s σ H x y v u Q I rx ry h
  obtain ⟨i, j, rfl, rfl, hz, q⟩ := h
  obtain ⟨t, rfl⟩ := rx
  obtain ⟨t', rfl⟩ := ry
  exact iadd_str (fun t' tk => ⟨.str (i ++ j), H, I.tok _, ⟨_, rfl⟩, q⟩) hz
theorem op_add_byt : OpR X (binaryOp .Add) (fun x y H Q => ∃ i j, x = .byt i ∧ y = .byt j ∧ i.size + j.size ≤ 16777216 ∧ Q (.byt (i ++ j)) H) := by
  intro pins s σ H x y v u Q I rx ry h
  obtain ⟨i, j, rfl, rfl, hz, q⟩ := h
  obtain ⟨t, rfl⟩ := rx
  obtain ⟨t', rfl⟩ := ry
  exact PySem.W.KBy.add_bytes hz (fun t' tk => ⟨.byt (i ++ j), H, I.tok _, ⟨_, rfl⟩, q⟩)

def PlainIxT (b : Expr) : Prop := ∀ o i, subscripted b false o i = operate [o, i] (getItem o i)
/-- s[i], 0 ≤ i < len -/
theorem pe_item_str (ha : PE X a ta) (hb : PE X b tb) (hs : PlainIxT b) :
    PE X (.Subscript a b pos) (tOp (fun x y H Q => ∃ z i c, x = .str z ∧ y = .int i ∧ 0 ≤ i ∧ i < 2 ^ 63 ∧ i < z.length ∧ z.cps[i.toNat]? = some c ∧ Q (.str ⟨#[c]⟩) H) ta tb) := by
  intro pins s σ H Q I h
  refine Subscript_ (binT ha hb I h fun v u s2 x y H2 I2 rx ry q => ?_)
  obtain ⟨z, i, c, rfl, rfl, h0, h63, h1, hc, q⟩ := q
  obtain ⟨t, rfl⟩ := rx
  obtain ⟨t', rfl⟩ := ry
  have e : seqIndex? i z.length = some i.toNat := PySem.StrLaws.seqIndex_nonneg h0 h1
  exact tail_any (typeIs_str s2 z t) slot_str_getitem.lookup (getItem_str (c := c) (by
    have e1 : decide (i < -(2 ^ 63 : Int)) = false := decide_eq_false (by omega)
    have e2 : decide (i ≥ 2 ^ 63) = false := decide_eq_false (by omega)
    rw [e1, e2] <;> rfl) (by rw [e]; exact hc) ⟨.str ⟨#[c]⟩, H2, I2.tok _, ⟨_, rfl⟩, q⟩) (hs _ _)
/-- b[i], 0 ≤ i < len -/
theorem pe_item_byt (ha : PE X a ta) (hb : PE X b tb) (hs : PlainIxT b) :
    PE X (.Subscript a b pos) (tOp (fun x y H Q => ∃ (z : List UInt8) (i : Int), x = .byt z.toArray ∧ y = .int i ∧ z.length ≤ sizeLine ∧ 0 ≤ i ∧ i < z.length ∧ Q (.int ((z.getD i.toNat 0).toNat : Nat)) H) ta tb) := by
  intro pins s σ H Q I h
  refine Subscript_ (binT ha hb I h fun v u s2 x y H2 I2 rx ry q => ?_)
  obtain ⟨z, i, rfl, rfl, hz, h0, h1, q⟩ := q
  obtain ⟨t, rfl⟩ := rx
  obtain ⟨t', rfl⟩ := ry
  have hl : sizeLine = 16777216 := sizeLine_eq
  exact tail_any (PySem.W.typeIs_bytes s2 z.toArray t) PySem.W.FB.slot_bytes_getitem.lookup (PySem.W.getItem_bytes (by omega) h0 h1 ⟨.int ((z.getD i.toNat 0).toNat : Nat), H2, I2.tok _, ⟨_, rfl⟩, q⟩) (hs _ _)

/-! ### scalar builtins, by CallR -/
theorem vals1 {x : V} {us : List Value} (r : Vals [x] us) : ∃ u, us = [u] ∧ RelV x u := by
  cases r with
  | cons r1 r2 => cases r2; exact ⟨_, rfl, r1⟩
theorem vals2 {x y : V} {us : List Value} (r : Vals [x, y] us) : ∃ u w', us = [u, w'] ∧ RelV x u ∧ RelV y w' := by
  cases r with
  | cons r1 r2 =>
    cases r2 with
    | cons r3 r4 => cases r4; exact ⟨_, _, rfl, r1, r3⟩
theorem call_abs : CallR X (.builtin "abs") (fun xs H Q => ∃ i, xs = [.int i] ∧ Q (.int (if i < 0 then -i else i)) H) := by
  intro pins s σ H xs us Q I r h
  obtain ⟨i, rfl, q⟩ := h
  obtain ⟨u, rfl, t, rfl⟩ := vals1 r
  exact call_abs_int fun u tk => ⟨.int (if i < 0 then -i else i), H, I.tok _, ⟨_, rfl⟩, q⟩
theorem call_max2 (hc : X.calm = true) : CallR X (.builtin "max") (fun xs H Q => ∃ i j, xs = [.int i, .int j] ∧ Q (.int (if j > i then j else i)) H) := by
  intro pins s σ H xs us Q I r h
  obtain ⟨i, j, rfl, q⟩ := h
  obtain ⟨u, w', rfl, ⟨t, rfl⟩, ⟨t', rfl⟩⟩ := vals2 r
  refine max_two_ints (I.ok.hd hc) fun h' tk k => ⟨_, H, I.kept k, ?_, q⟩
  by_cases hj : j > i
  · rw [if_pos hj, if_pos hj]; exact ⟨_, rfl⟩
  · rw [if_neg hj, if_neg hj]; exact ⟨_, rfl⟩
theorem call_min2 (hc : X.calm = true) : CallR X (.builtin "min") (fun xs H Q => ∃ i j, xs = [.int i, .int j] ∧ Q (.int (if j < i then j else i)) H) := by
  intro pins s σ H xs us Q I r h
  obtain ⟨i, j, rfl, q⟩ := h
  obtain ⟨u, w', rfl, ⟨t, rfl⟩, ⟨t', rfl⟩⟩ := vals2 r
  refine min_two_ints (I.ok.hd hc) fun h' tk k => ⟨_, H, I.kept k, ?_, q⟩
  by_cases hj : j < i
  · rw [if_pos hj, if_pos hj]; exact ⟨_, rfl⟩
  · rw [if_neg hj, if_neg hj]; exact ⟨_, rfl⟩
theorem call_int1 : CallR X (.type "int") (fun xs H Q => (∃ i, xs = [.int i] ∧ Q (.int i) H) ∨ ∃ k, xs = [.bl k] ∧ Q (.int (if k then 1 else 0)) H) := by
  intro pins s σ H xs us Q I r h
  rcases h with ⟨i, rfl, q⟩ | ⟨k, rfl, q⟩
  · obtain ⟨u, rfl, t, rfl⟩ := vals1 r
    exact call_int_int ⟨.int i, H, I, ⟨_, rfl⟩, q⟩
  · obtain ⟨u, rfl, r1⟩ := vals1 r
    cases r1
    exact call_int_bool ⟨.int (if k then 1 else 0), H, I.tok _, ⟨_, rfl⟩, q⟩
theorem call_bool1 : CallR X (.type "bool") (fun xs H Q => (∃ i, xs = [.int i] ∧ Q (.bl (i != 0)) H) ∨ ∃ k, xs = [.bl k] ∧ Q (.bl k) H) := by
  intro pins s σ H xs us Q I r h
  rcases h with ⟨i, rfl, q⟩ | ⟨k, rfl, q⟩
  · obtain ⟨u, rfl, t, rfl⟩ := vals1 r
    exact call_bool_int ⟨.bl (i != 0), H, I, rfl, q⟩
  · obtain ⟨u, rfl, r1⟩ := vals1 r
    cases r1
    exact call_bool_bool ⟨.bl k, H, I, rfl, q⟩
theorem call_str_int : CallR X (.type "str") (fun xs H Q => ∃ i, xs = [.int i] ∧ i.natAbs.log2 < 1920 ∧ Q (.str (toString i)) H) := by
  intro pins s σ H xs us Q I r h
  obtain ⟨i, rfl, hz, q⟩ := h
  obtain ⟨u, rfl, t, rfl⟩ := vals1 r
  exact PySem.P.str_of_int hz ⟨.str _, H, I.tok _, ⟨_, rfl⟩, q⟩
theorem call_ord : CallR X (.builtin "ord") (fun xs H Q => ∃ x, xs = [.str x] ∧ x.length = 1 ∧ Q (.int (x.cps.getD 0 0 : Nat)) H) := by
  intro pins s σ H xs us Q I r h
  obtain ⟨x, rfl, hz, q⟩ := h
  obtain ⟨u, rfl, t, rfl⟩ := vals1 r
  exact ord_of_one hz ⟨.int _, H, I.tok _, ⟨_, rfl⟩, q⟩
theorem call_chr : CallR X (.builtin "chr") (fun xs H Q => ∃ i, xs = [.int i] ∧ 0 ≤ i ∧ i ≤ 1114111 ∧ Q (.str ⟨#[i.toNat]⟩) H) := by
  intro pins s σ H xs us Q I r h
  obtain ⟨i, rfl, h0, h1, q⟩ := h
  obtain ⟨u, rfl, t, rfl⟩ := vals1 r
  exact chr_of_range h0 h1 ⟨.str _, H, I.tok _, ⟨_, rfl⟩, q⟩
/-- len of a str, a bytes, a list, a tuple -/
def LenV (K : PySem.W.Frag) (x : V) (H : Hp) (n : Nat) : Prop :=
  match x with
  | .str y => y.length ≤ sizeLine ∧ n = y.length
  | .byt y => y.size ≤ sizeLine ∧ n = y.size
  | .ref p => (∃ xs, SqL K H p xs ∧ n = xs.length) ∨ ∃ xs, SqT K H p xs ∧ n = xs.length
  | _ => False
theorem call_len : CallR X (.builtin "len") (fun xs H Q => ∃ x n, xs = [x] ∧ LenV X.K x H n ∧ Q (.int n) H) := by
  intro pins s σ H xs us Q I r h
  obtain ⟨x, n, rfl, e, q⟩ := h
  obtain ⟨u, rfl, rx⟩ := vals1 r
  have hl := line63
  have hs : sizeLine = 16777216 := sizeLine_eq
  cases x with
  | str y =>
    obtain ⟨t, rfl⟩ := rx
    obtain ⟨hy, e'⟩ : y.length ≤ sizeLine ∧ n = y.length := e
    subst e'
    exact len_str (by omega) ⟨.int _, H, I.tok _, ⟨_, rfl⟩, q⟩
  | byt y =>
    obtain ⟨t, rfl⟩ := rx
    obtain ⟨hy, e'⟩ : y.size ≤ sizeLine ∧ n = y.size := e
    subst e'
    exact PySem.W.len_bytes (by omega) ⟨.int _, H, I.tok _, ⟨_, rfl⟩, q⟩
  | ref p =>
    cases rx
    have e' : (∃ xs, SqL X.K H p xs ∧ n = xs.length) ∨ ∃ xs, SqT X.K H p xs ∧ n = xs.length := e
    rcases e' with ⟨xs, hx, e'⟩ | ⟨xs, hx, e'⟩
    · subst e'
      obtain ⟨its, r', pl, hz⟩ := I.list hx
      have hlen := r'.length
      exact Calls.call_len_list pl.isList (by simp only [List.size_toArray]; omega) ⟨.int xs.length, H, I.tok _, ⟨_, by simp only [List.size_toArray]; rw [hlen]⟩, q⟩
    · subst e'
      obtain ⟨its, r', pl, hz⟩ := I.tuple hx
      have hlen := r'.length
      exact len_tuple pl (by simp only [List.size_toArray]; omega) ⟨.int xs.length, H, I.tok _, ⟨_, by simp only [List.size_toArray]; rw [hlen]⟩, q⟩
  | _ => exact (show False from e).elim
/-- divmod: a new tuple -/
theorem call_divmod : CallR X (.builtin "divmod") (fun xs H Q => ∃ i j, xs = [.int i, .int j] ∧ CDiv i j ∧ ∀ p, H p = none → Q (.ref p) (upd H p (.tup [.int (i / j), .int (i % j)]))) := by
  intro pins s σ H xs us Q I r h
  obtain ⟨i, j, rfl, ⟨h1, h2⟩, q⟩ := h
  obtain ⟨u, w', rfl, ⟨t, rfl⟩, ⟨t', rfl⟩⟩ := vals2 r
  refine divmod_int (by omega) ?_ (.inl (PyProof.noPylong_small (by omega)))
  rw [Int.fdiv_eq_ediv_of_nonneg i (by omega), Int.fmod_eq_emod_of_nonneg i (by omega)]
  have hn : H s.heap.objs.size = none := I.hok.fresh (Nat.le_refl _)
  refine ⟨.ref s.heap.objs.size, _, ?_, rfl, q _ hn⟩
  refine I.laid (fun b o e => Heap.get?_push_of_some _ e) (Nat.le_refl _) ⟨by simp only [List.length_cons, List.length_nil]; rw [sizeLine_eq]; decide, [.int (i / j) s.toks, .int (i % j) (s.toks + 1)], .cons ⟨_, rfl⟩ (.cons ⟨_, rfl⟩ .nil), ?_⟩
  exact ⟨_, Heap.get?_push_size s.heap rfl, rfl, 0, rfl⟩
end
end L2

namespace L2
open PySem PySem.Spec PyProof.Rows

/-! ### an instance, its attributes a map -/
structure ObjM (h : Heap) (x dx C : Addr) (mA : Str → Option Value) : Prop where
  obj : h.get? x = some (PySem.W.instObj C dx)
  ns : h.Ns1 dx mA
  ne : dx ≠ x

theorem lookIn_ns {h : Heap} {dx : Addr} {mA : Str → Option Value} (n : h.Ns1 dx mA) : ∃ od, h.get? dx = some od ∧ ∀ name, PySem.W.lookIn name od = some (mA name) := by
  obtain ⟨o, es, ep, ho, hd, hk, _, hm⟩ := n
  refine ⟨o, ho, fun name => ?_⟩
  have e := hm name
  unfold nsFind findBy at e
  rw [← Array.find?_toList] at e
  unfold PySem.W.lookIn
  rw [hd]
  dsimp only
  split
  · rename_i y q
    rw [q] at e
    exact congrArg some e
  · rename_i q
    rw [q] at e
    have a : es.toList.any (·.refKey) = false := by
      rw [List.any_eq_false]
      intro y hy
      obtain ⟨z, t, hkey⟩ := hk y (Array.mem_toList_iff.mp hy)
      simp [DictEntry.refKey, hkey]
    have a' : ¬ es.toList.any (·.refKey) = true := by rw [a]; exact Bool.false_ne_true
    rw [if_neg a']
    exact congrArg some e

theorem ObjM.look {h : Heap} {x dx C : Addr} {mA : Str → Option Value} (I : ObjM h x dx C mA) : ∃ od, PySem.W.InstAt h x (PySem.W.instObj C dx) C (some od) ∧ ∀ name, PySem.W.lookIn name od = some (mA name) :=
  let ⟨od, ho, hl⟩ := lookIn_ns I.ns
  ⟨od, ⟨I.obj, rfl, rfl, ho⟩, hl⟩

section
variable {prog : Program} {w : World} {A : Around} {E : Value → Shared → Prop} {s : Shared} {K : PySem.W.Frag} {x dx C f : Addr} {mA : Str → Option Value} {name : Str} {v : Value}

theorem get_map {expr : Bool} {Q : Value → Shared → Prop} (X : K.In s.heap) (I : ObjM s.heap x dx C mA) (hg : PySem.W.plainGet K C name = true) (hh : PySem.W.hasDictIn K C = true)
    (ha : PySem.W.findIn K (.ref C) name = some none) (hv : mA name = some v) (hv' : PySem.W.handedIn v = true) (h : Q v { s with toks := s.toks + 1 }) :
    wpAny (model prog w) A (getAttr (.ref x) name expr) Q E s := by
  obtain ⟨od, J, hl⟩ := I.look
  exact PySem.W.get_value X J (PySem.W.plainGet_of hg).1 (PySem.W.findObj_own hh ha rfl (by rw [hl, hv])) hv' h

theorem get_const {expr : Bool} {a : Value} {Q : Value → Shared → Prop} (X : K.In s.heap) (I : ObjM s.heap x dx C mA) (hg : PySem.W.plainGet K C name = true) (hh : PySem.W.hasDictIn K C = true)
    (ha : PySem.W.findIn K (.ref C) name = some (some a)) (hn : PySem.W.specialIn K a "__get__" = some none) (hc : PySem.W.copiedNames.contains name = false) (hv : mA name = none) (hv' : PySem.W.handedIn a = true)
    (h : Q a { s with toks := s.toks + 1 }) : wpAny (model prog w) A (getAttr (.ref x) name expr) Q E s := by
  obtain ⟨od, J, hl⟩ := I.look
  exact PySem.W.get_value X J (PySem.W.plainGet_of hg).1 (PySem.W.findObj_cls hh ha hn hv' hc (by rw [hl, hv])) hv' h

theorem get_meth {pl : Sem Bool} {Q : Value × List Value → Shared → Prop} (X : K.In s.heap) (I : ObjM s.heap x dx C mA) (hg : PySem.W.plainGet K C name = true)
    (hf : PySem.W.findIn K (.ref C) name = some (some (.ref f))) (ht : PySem.W.isFn K (.ref f) = true) (hv : mA name = none) (h : Q (.ref f, [.ref x]) s) :
    wpAny (model prog w) A (getMethod (.ref x) name pl) Q E s := by
  obtain ⟨od, J, hl⟩ := I.look
  exact PySem.W.method_fn X J (PySem.W.plainGet_of hg).1 (PySem.W.plainGet_of hg).2 hf (beq_iff_eq.mp ht) (by show (PySem.W.lookIn name od).map (·.isSome) = some false; rw [hl, hv]; rfl) h

theorem set_map {ns : List Str} {Q : Unit → Shared → Prop} (X : K.In s.heap) (I : ObjM s.heap x dx C mA)
    (hs : PySem.W.findIn K (.ref C) "__setattr__" = some (some (.builtin "object.__setattr__"))) (hp : PySem.W.plainOver K C = true) (ht : PySem.W.takerIn K C name = some none) (hh : PySem.W.hasDictIn K C = true)
    (hw : PySem.Within mA ns) (hsz : ns.length ≤ sizeLine)
    (h : ∀ h', ObjM h' x dx C (fun y => if y = name then some v else mA y) → Heap.SameBut dx s.heap h' → Q () { s with heap := h', toks := s.toks + 2 }) :
    wpAny (model prog w) A (setAttr (.ref x) name v) Q E s := by
  obtain ⟨od, J, hl⟩ := I.look
  refine PySem.W.set_plain X J hs (PySem.W.osa_open (s := { s with toks := s.toks + 1 }) (r := none) X J hp ht fun b => ?_)
  obtain ⟨cd, hc, hd'⟩ := PySem.W.any_some hh
  have hx : s.heap.get? x = some ⟨.ref C, some dx, .plain, #[]⟩ := I.obj
  refine wpAny_bind (wpAny_pure (wpAny_bind (wpAny_bind (wpAny_loadPart hx (wpAny_bind (PySem.W.Looks.here (s := { s with toks := s.toks + 1 }) (PySem.W.looks_clsIn X hc) ?_))))))
  rw [hd']
  refine wpAny_pure (a := some dx) (wpAny_bind (wpAny_pure (wpAny_bind ?_)))
  refine wpAny_nsSet1 (s := { s with toks := s.toks + 1 }) I.ns fun h' hn2 hs2 => ?_
  obtain ⟨oD, esD, epD, hoD, hdD, hcD⟩ := hn2.count (PySem.Within.cons name v hw)
  refine wpAny_bind (wpAny_lookBehind hoD (by rw [hdD]; exact pastItsLine_dict (Nat.le_trans hcD (by rw [List.length_cons]; omega))) ?_)
  exact wpAny_pure (h _ ⟨(hs2.2 _ (Ne.symm I.ne)).trans I.obj, hn2, I.ne⟩ hs2)

/-- C(..): the dict at the heap's end, the instance behind it; then its __init__ -/
theorem make_map {R : Result → Shared → Prop} {vs : List Value} {kw : List (Str × Value)} (X : K.In s.heap) (hm : PySem.W.makesIn K C = true)
    (hi : PySem.W.findIn K (.ref C) "__init__" = some (some (.ref f))) (hf : PySem.W.typeIn K (.ref f) = some (.type "function"))
    (h : codeAny (model prog w) (A.under (.builtin "type.__call__" ⟨.ref C :: vs, kw⟩)) (.call (.ref f) ⟨.ref (s.heap.objs.size + 1) :: vs, kw⟩) (PySem.W.InitBack (s.heap.objs.size + 1) R)
      { s with heap := (s.heap.push PySem.W.emptyDict).push (PySem.W.instObj C s.heap.objs.size) }) :
    codeAny (model prog w) A (.call (.ref C) ⟨vs, kw⟩) R s := by
  obtain ⟨hh, g, d, t, os⟩ := s
  exact PySem.W.make_core (PySem.W.makes_of X hm) (PySem.W.looks_findIn X hi) (fun self => PySem.W.bind_fn X self hf) (.inl rfl) h
/-- C() where there is no __init__ but object's -/
theorem make_map0 {R : Result → Shared → Prop} (X : K.In s.heap) (hm : PySem.W.makesIn K C = true)
    (hi : PySem.W.findIn K (.ref C) "__init__" = some (some (.builtin "object.__init__")))
    (hb : ∀ self, PySem.W.Looks (model prog w) s.heap (bindSpecial (.builtin "object.__init__") self) (.builtin "object.__init__", [self]))
    (h : codeAny (model prog w) (A.under (.builtin "type.__call__" ⟨[.ref C], []⟩)) (.call (.builtin "object.__init__") ⟨[.ref (s.heap.objs.size + 1)], []⟩) (PySem.W.InitBack (s.heap.objs.size + 1) R)
      { s with heap := (s.heap.push PySem.W.emptyDict).push (PySem.W.instObj C s.heap.objs.size) }) :
    codeAny (model prog w) A (.call (.ref C) ⟨[], []⟩) R s := by
  obtain ⟨hh, g, d, t, os⟩ := s
  exact PySem.W.make_core (PySem.W.makes_of X hm) (PySem.W.looks_findIn X hi) hb (.inr ⟨rfl, rfl⟩) h
end

/-! ### the attributes as a list of pairs -/
def putF (f : Str) (v : V) : List (Str × V) → List (Str × V)
  | [] => [(f, v)]
  | (g, x) :: r => if g = f then (g, v) :: r else (g, x) :: putF f v r
theorem lookup_putF (f g : Str) (v : V) : ∀ fs : List (Str × V), (putF f v fs).lookup g = if g = f then some v else fs.lookup g
  | [] => by
    show List.lookup g [(f, v)] = _
    by_cases h : g = f
    · have hb : (g == f) = true := beq_iff_eq.mpr h
      simp only [List.lookup, hb, if_pos h]
    · have hb : (g == f) = false := beq_eq_false_iff_ne.mpr h
      simp only [List.lookup, hb, if_neg h]
  | (k, x) :: r => by
    have ih := lookup_putF f g v r
    rw [show putF f v ((k, x) :: r) = (if k = f then (k, v) :: r else (k, x) :: putF f v r) from rfl]
    by_cases hk : k = f
    · rw [if_pos hk]
      by_cases h : g = k
      · have hb : (g == k) = true := beq_iff_eq.mpr h
        simp only [List.lookup, hb, if_pos (h.trans hk)]
      · have hb : (g == k) = false := beq_eq_false_iff_ne.mpr h
        simp only [List.lookup, hb, if_neg (fun e : g = f => h (e.trans hk.symm))]
    · rw [if_neg hk]
      by_cases h : g = k
      · have hb : (g == k) = true := beq_iff_eq.mpr h
        simp only [List.lookup, hb, if_neg (fun e : g = f => hk (h.symm.trans e))]
      · have hb : (g == k) = false := beq_eq_false_iff_ne.mpr h
        simp only [List.lookup, hb]
        exact ih
theorem keys_putF (f : Str) (v : V) : ∀ fs : List (Str × V), f ∈ (putF f v fs).map (·.1) ∧ ∀ g, g ∈ fs.map (·.1) → g ∈ (putF f v fs).map (·.1)
  | [] => ⟨by simp [putF], fun g h => by simp at h⟩
  | (k, x) :: r => by
    obtain ⟨i1, i2⟩ := keys_putF f v r
    rw [show putF f v ((k, x) :: r) = (if k = f then (k, v) :: r else (k, x) :: putF f v r) from rfl]
    by_cases hk : k = f
    · rw [if_pos hk]
      subst hk
      exact ⟨by simp, fun g h => by simpa using h⟩
    · rw [if_neg hk]
      refine ⟨?_, fun g h => ?_⟩
      · rw [List.map_cons]
        exact List.mem_cons_of_mem _ i1
      · rw [List.map_cons] at h ⊢
        rcases List.mem_cons.mp h with e | e
        · exact List.mem_cons.mpr (.inl e)
        · exact List.mem_cons_of_mem _ (i2 g e)
theorem length_putF (f : Str) (v : V) : ∀ fs : List (Str × V), (putF f v fs).length ≤ fs.length + 1
  | [] => by simp [putF]
  | (k, x) :: r => by
    have ih := length_putF f v r
    rw [show putF f v ((k, x) :: r) = (if k = f then (k, v) :: r else (k, x) :: putF f v r) from rfl]
    by_cases hk : k = f
    · rw [if_pos hk, List.length_cons, List.length_cons]; omega
    · rw [if_neg hk, List.length_cons, List.length_cons]; omega

theorem RelO.some_of {v : V} {o : Option Value} (r : RelO (some v) o) : ∃ u, o = some u ∧ RelV v u := by
  cases o with
  | none => exact (show False from r).elim
  | some u => exact ⟨u, rfl, r⟩
theorem RelO.none_of {o : Option Value} (r : RelO none o) : o = none := by
  cases o with
  | none => rfl
  | some u => exact (show False from r).elim
theorem handed_of {v : V} {u : Value} (r : RelV v u) : PySem.W.handedIn u = true := by
  cases v with
  | non => cases (show u = Value.none from r); rfl
  | bl b => cases (show u = Value.bool b from r); rfl
  | int i => obtain ⟨t, e⟩ := (show ∃ t, u = Value.int i t from r); cases e; rfl
  | str x => obtain ⟨t, e⟩ := (show ∃ t, u = Value.str x t from r); cases e; rfl
  | byt b => obtain ⟨t, e⟩ := (show ∃ t, u = Value.bytes b t from r); cases e; rfl
  | flt b => obtain ⟨t, e⟩ := (show ∃ t, u = Value.float b t from r); cases e; rfl
  | ref a => cases (show u = Value.ref a from r); rfl
  | ty n => cases (show u = Value.type n from r); rfl

section
variable {P : Program} {w : World} {H H' : Hp} {h h' : Heap} {a C dx : Addr} {fs fs' : List (Str × V)}
theorem ins_get (hok : HOk P w H h) (e : H a = some (.ins C dx fs)) : ∃ mA, ObjM h a dx C mA ∧ (∀ f, RelO (fs.lookup f) (mA f)) ∧ PySem.Within mA (fs.map (·.1)) ∧ fs.length ≤ 1000 ∧ H dx = some (.own a) := by
  obtain ⟨d, z, ne, ob, mA, n, r, q⟩ := (show ObjOk P w H h a (.ins C dx fs) from hok a _ e)
  exact ⟨mA, ⟨ob, n, ne⟩, r, q, z, d⟩
end

/-! ### what of the text a class must have -/
structure Cls (K : PySem.W.Frag) (C : Addr) : Prop where
  pg : PySem.W.plainGet K C Str.empty = true
  hd : PySem.W.hasDictIn K C = true
  po : PySem.W.plainOver K C = true
  sa : PySem.W.findIn K (.ref C) "__setattr__" = some (some (.builtin "object.__setattr__"))
theorem Cls.get {K : PySem.W.Frag} {C : Addr} (c : Cls K C) (f : Str) : PySem.W.plainGet K C f = true := c.pg
/-- no class of it has the name -/
def NoAttr (K : PySem.W.Frag) (C : Addr) (f : Str) : Prop := PySem.W.findIn K (.ref C) f = some none
theorem NoAttr.taker {K : PySem.W.Frag} {C : Addr} {f : Str} (n : NoAttr K C f) : PySem.W.takerIn K C f = some none := by
  unfold PySem.W.takerIn
  rw [show PySem.W.findIn K (.ref C) f = some none from n]
  rfl
/-- a constant of the class -/
structure Con (K : PySem.W.Frag) (C : Addr) (f : Str) (v : V) (u : Value) : Prop where
  at_ : PySem.W.findIn K (.ref C) f = some (some u)
  rel : RelV v u
  get : PySem.W.specialIn K u "__get__" = some none
  cp : PySem.W.copiedNames.contains f = false
/-- a method: a plain def of the class or of one above it -/
structure Meth (K : PySem.W.Frag) (C : Addr) (m : Str) (f : Addr) : Prop where
  at_ : PySem.W.findIn K (.ref C) m = some (some (.ref f))
  fn : PySem.W.isFn K (.ref f) = true
  kp : PySem.W.keepIn K (.ref f) = true

section
variable {X : Cx} {pins : List (Addr × Obj)} {σ : St} {H : Hp} {s : Shared} {a C dx : Addr} {fs : List (Str × V)} {f : Str} {v : V} {A : Around} {E : Value → Shared → Prop}

theorem getattr_ok {b : Bool} {Q : Value → Shared → Prop} (I : Inv X pins σ H s) (e : H a = some (.ins C dx fs)) (c : Cls X.K C) (n : NoAttr X.K C f) (l : fs.lookup f = some v)
    (h : ∀ u s', Inv X pins σ H s' → RelV v u → Q u s') : wpAny (model X.prog X.w) A (getAttr (.ref a) f b) Q E s := by
  obtain ⟨mA, O, r, _, _, _⟩ := ins_get I.hok e
  obtain ⟨u, hu, ru⟩ := RelO.some_of (v := v) (o := mA f) (by rw [← l]; exact r f)
  exact get_map I.kIn O (c.get f) c.hd n hu (handed_of ru) (h u _ (I.tok _) ru)

theorem getcon_ok {b : Bool} {u : Value} {Q : Value → Shared → Prop} (I : Inv X pins σ H s) (e : H a = some (.ins C dx fs)) (c : Cls X.K C) (k : Con X.K C f v u) (l : fs.lookup f = none)
    (h : ∀ s', Inv X pins σ H s' → Q u s') : wpAny (model X.prog X.w) A (getAttr (.ref a) f b) Q E s := by
  obtain ⟨mA, O, r, _, _, _⟩ := ins_get I.hok e
  have hn : mA f = none := RelO.none_of (by rw [← l]; exact r f)
  exact get_const I.kIn O (c.get f) c.hd k.at_ k.get k.cp hn (handed_of k.rel) (h _ (I.tok _))

theorem getmeth_ok {m : Str} {g : Addr} {pl : Sem Bool} {Q : Value × List Value → Shared → Prop} (I : Inv X pins σ H s) (e : H a = some (.ins C dx fs)) (c : Cls X.K C) (k : Meth X.K C m g) (l : fs.lookup m = none)
    (h : Q (.ref g, [.ref a]) s) : wpAny (model X.prog X.w) A (getMethod (.ref a) m pl) Q E s := by
  obtain ⟨mA, O, r, _, _, _⟩ := ins_get I.hok e
  have hn : mA m = none := RelO.none_of (by rw [← l]; exact r m)
  exact get_meth I.kIn O (c.get m) k.at_ k.fn hn h

theorem setattr_ok {y : V} {u : Value} {Q : Unit → Shared → Prop} (I : Inv X pins σ H s) (e : H a = some (.ins C dx fs)) (c : Cls X.K C) (n : NoAttr X.K C f) (hl : fs.length < 1000) (ry : RelV y u)
    (h : ∀ s', Inv X pins σ (upd H a (.ins C dx (putF f y fs))) s' → Q () s') : wpAny (model X.prog X.w) A (setAttr (.ref a) f u) Q E s := by
  obtain ⟨mA, O, r, wi, _, ho⟩ := ins_get I.hok e
  have hz : (fs.map (·.1)).length ≤ sizeLine := by rw [List.length_map, sizeLine_eq]; omega
  refine set_map I.kIn O c.sa c.po n.taker c.hd wi hz fun h' O' sb => h _ ?_
  have hd : ∃ o, h'.get? dx = some o := let ⟨o, _, _, e', _⟩ := O'.ns; ⟨o, e'⟩
  refine I.write (x := a) (e := dx) (by rw [e]; exact True.intro) (.inr ho) (fun b q hb z => (sb.2 b hb).trans z) hd ?_
  refine ⟨by rw [upd_ne O.ne]; exact ho, ?_, O.ne, O'.obj, _, O'.ns, fun g => ?_, fun g hg => ?_⟩
  · have := length_putF f y fs; omega
  · show RelO ((putF f y fs).lookup g) (if g = f then some u else mA g)
    rw [lookup_putF]
    by_cases q : g = f
    · rw [if_pos q, if_pos q]; exact ry
    · rw [if_neg q, if_neg q]; exact r g
  · by_cases q : g = f
    · rw [q]; exact (keys_putF f y fs).1
    · refine (keys_putF f y fs).2 g (wi g fun z => hg ?_)
      show (if g = f then some u else mA g) = none
      rw [if_neg q]; exact z

/-- a new instance, tracked, without attributes -/
theorem Inv.made (I : Inv X pins σ H s) : Inv X pins σ (upd (upd H s.heap.objs.size (.own (s.heap.objs.size + 1))) (s.heap.objs.size + 1) (.ins C s.heap.objs.size []))
    { s with heap := (s.heap.push PySem.W.emptyDict).push (PySem.W.instObj C s.heap.objs.size) } := by
  have e1 : (s.heap.push PySem.W.emptyDict).get? s.heap.objs.size = some PySem.W.emptyDict := Heap.get?_push_size s.heap rfl
  have e2 : ((s.heap.push PySem.W.emptyDict).push (PySem.W.instObj C s.heap.objs.size)).get? (s.heap.objs.size + 1) = some (PySem.W.instObj C s.heap.objs.size) := by
    have := Heap.get?_push_size (s.heap.push PySem.W.emptyDict) (o := PySem.W.instObj C s.heap.objs.size) rfl
    rwa [Heap.size_push] at this
  have e3 : (s.heap.push PySem.W.emptyDict).Ns s.heap.objs.size (fun _ => none) := ⟨PySem.W.emptyDict, #[], _, e1, rfl, (fun e he => absurd he (by simp)), fun _ => rfl⟩
  have I1 := I.laid (a := s.heap.objs.size) (o := .own (s.heap.objs.size + 1)) (h' := s.heap.push PySem.W.emptyDict) (t' := s.toks) (fun b u q => Heap.get?_push_of_some _ q) (Nat.le_refl _) ⟨_, e1⟩
  refine I1.laid (a := s.heap.objs.size + 1) (o := .ins C s.heap.objs.size []) (t' := s.toks) (fun b u q => Heap.get?_push_of_some _ q) (Nat.le_of_eq (Heap.size_push _ _)) ?_
  have ne : s.heap.objs.size ≠ s.heap.objs.size + 1 := Nat.ne_of_lt (Nat.lt_succ_self _)
  refine ⟨by rw [upd_ne ne, upd_same], Nat.zero_le _, ne, e2, fun _ => none, (Heap.Ns1.of_empty e3).at fun o q => Heap.get?_push_of_some _ q, fun _ => True.intro, fun y hy => absurd rfl hy⟩

/-- e.f where nothing but the object is asked: through attributeBase (super) and the last hold -/
theorem attr_of {prog : Program} {w : World} {env : Env} {e : Expr} {f : Str} {pos : Pos} {s : Shared} {Q : Value → Shared → Prop} (hb : attributeBase e f env (eval e env) = eval e env)
    (h : wpAny (model prog w) A (eval e env) (fun o s₁ => wpAny (model prog w) A (getAttr o f true) Q E s₁) E s) : wpAny (model prog w) A (eval (.Attribute e f pos) env) Q E s :=
  Attribute_any_ h (by rw [arm_eval_Attribute, hb])
end

/-! ### readings and rules -/
/-- e.f, an attribute of the instance -/
def tFld (K : PySem.W.Frag) (ta : TE) (f : Str) : TE := fun σ H Q => ta σ H fun x H1 => ∃ a C dx fs v, x = .ref a ∧ H1 a = some (.ins C dx fs) ∧ Cls K C ∧ NoAttr K C f ∧ fs.lookup f = some v ∧ Q v H1
/-- e.f, a constant of the class -/
def tCon (K : PySem.W.Frag) (ta : TE) (f : Str) : TE := fun σ H Q => ta σ H fun x H1 => ∃ a C dx fs v u, x = .ref a ∧ H1 a = some (.ins C dx fs) ∧ Cls K C ∧ Con K C f v u ∧ fs.lookup f = none ∧ Q v H1
/-- e.f = value -/
def sFld (K : PySem.W.Frag) (ta tv : TE) (f : Str) : TS := fun D σ H => tv σ H fun y H1 => ta σ H1 fun x H2 => ∃ a C dx fs, x = .ref a ∧ H2 a = some (.ins C dx fs) ∧ Cls K C ∧ NoAttr K C f ∧ fs.length < 1000 ∧
  D.nx σ (upd H2 a (.ins C dx (putF f y fs)))
/-- an augmented operator on two values -/
def InOp (X : Cx) (op : Operator) (rd : V → V → Hp → VK → Prop) : Prop :=
  ∀ (pins : List (Addr × Obj)) (s : Shared) (σ : St) (H : Hp) (x y : V) (u v : Value) (Q : VK), Inv X pins σ H s → RelV x u → RelV y v → rd x y H Q → wpAny (model X.prog X.w) X.A (inplaceOp op u v) (EP X pins σ Q) X.xe s
/-- e.f op= value -/
def sFldAug (K : PySem.W.Frag) (ta tv : TE) (rd : V → V → Hp → VK → Prop) (f : Str) : TS := fun D σ H => ta σ H fun x H1 => ∃ a C dx fs v, x = .ref a ∧ H1 a = some (.ins C dx fs) ∧ Cls K C ∧ NoAttr K C f ∧ fs.lookup f = some v ∧
  tv σ H1 fun y H2 => rd v y H2 fun z H3 => ∃ dx' fs', H3 a = some (.ins C dx' fs') ∧ fs'.length < 1000 ∧ D.nx σ (upd H3 a (.ins C dx' (putF f z fs')))

section
variable {X : Cx} {o e value : Expr} {f : Str} {pos pos' tpos : Pos} {ta tv : TE}
theorem pe_fld (he : PE X e ta) (hb : attributeBase e f X.env (eval e X.env) = eval e X.env) : PE X (.Attribute e f pos) (tFld X.K ta f) := by
  intro pins s σ H Q I h
  refine attr_of hb (thn (he pins s σ H _ I h) fun u s1 ⟨x, H1, I1, rx, a, C, dx, fs, v, ex, ea, c, n, l, q⟩ => ?_)
  subst ex
  obtain rfl : u = Value.ref a := rx
  exact getattr_ok I1 ea c n l fun u' s2 I2 ru => ⟨v, H1, I2, ru, q⟩
theorem pe_con (he : PE X e ta) (hb : attributeBase e f X.env (eval e X.env) = eval e X.env) : PE X (.Attribute e f pos) (tCon X.K ta f) := by
  intro pins s σ H Q I h
  refine attr_of hb (thn (he pins s σ H _ I h) fun u s1 ⟨x, H1, I1, rx, a, C, dx, fs, v, u0, ex, ea, c, k, l, q⟩ => ?_)
  subst ex
  obtain rfl : u = Value.ref a := rx
  exact getcon_ok I1 ea c k l fun s2 I2 => ⟨v, H1, I2, k.rel, q⟩
theorem ps_fld (ha : PE X o ta) (hv : PE X value tv) (hs : swapsWith value (some (.Attribute o f pos')) pos.line X.env = pure false) : PS X (.Assign [.Attribute o f pos'] value pos) (sFld X.K ta tv f) := by
  intro pins s σ H D I h
  refine plainObj_wpAny_Assign_Attribute (thn (hv pins s σ H _ I h) fun u s1 ⟨y, H1, I1, ry, q⟩ => thn (ha pins s1 σ H1 _ I1 q) fun ov s2 ⟨x, H2, I2, rx, a, C, dx, fs, ex, ea, c, n, l, q2⟩ => ?_) hs
  subst ex
  obtain rfl : ov = Value.ref a := rx
  exact setattr_ok I2 ea c n l ry fun s3 I3 => ⟨σ, _, I3, q2⟩
theorem ps_fldaug {op : Operator} {rd : V → V → Hp → VK → Prop} (ha : PE X o ta) (hv : PE X value tv) (hop : InOp X op rd) : PS X (.AugAssign (.Attribute o f tpos) op value pos) (sFldAug X.K ta tv rd f) := by
  intro pins s σ H D I h
  refine wpAny_AugAssign_AttributeAny (thn (ha pins s σ H _ I h) fun ov s1 ⟨x, H1, I1, rx, a, C, dx, fs, v, ex, ea, c, n, l, q⟩ => ?_)
  subst ex
  obtain rfl : ov = Value.ref a := rx
  refine getattr_ok I1 ea c n l fun u s2 I2 ru => thn (hv pins s2 σ H1 _ I2 q) fun w3 s3 ⟨y, H2, I3, ry, q3⟩ => thn (hop pins s3 σ H2 v y u w3 _ I3 ru ry q3) fun w4 s4 ⟨z, H3, I4, rz, dx', fs', ea', l', q4⟩ => ?_
  exact setattr_ok I4 ea' c n l' rz fun s5 I5 => ⟨σ, _, I5, q4⟩
def rAdd : V → V → Hp → VK → Prop := fun x y H Q => ∃ i j, x = .int i ∧ y = .int j ∧ Q (.int (i + j)) H
def rSub : V → V → Hp → VK → Prop := fun x y H Q => ∃ i j, x = .int i ∧ y = .int j ∧ Q (.int (i - j)) H
theorem in_add : InOp X .Add rAdd := by
  rintro pins s σ H x y u v Q I rx ry ⟨i, j, rfl, rfl, q⟩
  obtain ⟨t, rfl⟩ := (show ∃ t, u = Value.int i t from rx)
  obtain ⟨t', rfl⟩ := (show ∃ t', v = Value.int j t' from ry)
  exact PyProof.Rows.iadd_int ⟨.int (i + j), H, I.tok _, ⟨_, rfl⟩, q⟩
theorem in_sub : InOp X .Sub rSub := by
  rintro pins s σ H x y u v Q I rx ry ⟨i, j, rfl, rfl, q⟩
  obtain ⟨t, rfl⟩ := (show ∃ t, u = Value.int i t from rx)
  obtain ⟨t', rfl⟩ := (show ∃ t', v = Value.int j t' from ry)
  exact PyProof.Rows.isub_int ⟨.int (i - j), H, I.tok _, ⟨_, rfl⟩, q⟩

/-- what is between an instance and its method: the tree of a method call -/
theorem methcall_of {pl : Sem Bool} {m : Str} {apos : Pos} {args : List Expr} {pins : List (Addr × Obj)} {s : Shared} {σ : St} {H : Hp} {Q : Value → Shared → Prop} {te : TE} (he : PE X e te) (I : Inv X pins σ H s)
    (h : te σ H fun x H1 => ∃ a C dx fs g, x = .ref a ∧ H1 a = some (.ins C dx fs) ∧ Cls X.K C ∧ Meth X.K C m g ∧ fs.lookup m = none ∧
      ∀ s1, Inv X pins σ H1 s1 → wpAny (model X.prog X.w) X.A (callWith pos (.ref g) [.ref a] (backTo pos (starEach args X.env)) (backToKw pos (keywordEach [] X.env))) Q X.xe s1)
    (ht : eval (.Call (.Attribute e m apos) args [] pos) X.env = (do
      let ov ← eval e X.env
      standAt apos.atName
      let (f, first) ← holding [ov] (getMethod ov m pl)
      callWith pos f first (backTo pos (starEach args X.env)) (backToKw pos (keywordEach [] X.env)))) :
    wpAny (model X.prog X.w) X.A (eval (.Call (.Attribute e m apos) args [] pos) X.env) Q X.xe s := by
  refine PySem.W.methodCall_KW (pl := pl) (thn (he pins s σ H _ I h) fun u s1 ⟨x, H1, I1, rx, a, C, dx, fs, g, ex, ea, c, k, l, q⟩ => ?_) ht
  subst ex
  obtain rfl : u = Value.ref a := rx
  exact getmeth_ok I1 ea c k l (q s1 I1)
end

/-! ### isinstance -/
section
variable {X : Cx} {pins : List (Addr × Obj)} {σ : St} {H : Hp} {s : Shared} {A : Around} {E : Value → Shared → Prop} {Q : Value → Shared → Prop} {c : Value} {b : Bool}
/-- the type of a value, as the fragment's deciders take it; for an instance its class -/
inductive TyOf (K : PySem.W.Frag) (H : Hp) : V → Value → Prop where
  | non : TyOf K H .non (.type "NoneType")
  | bl (x : Bool) : TyOf K H (.bl x) (.type "bool")
  | int (i : Int) : TyOf K H (.int i) (.type "int")
  | str (x : Str) : TyOf K H (.str x) (.type "str")
  | flt (x : UInt64) : TyOf K H (.flt x) (.type "float")
  | lst {a : Addr} {xs : List V} (e : H a = some (.lst xs)) : TyOf K H (.ref a) (.type "list")
  | frz {a : Addr} {o : Obj} {xs : List V} (e : H a = some (.frz o (.lst xs))) : TyOf K H (.ref a) (.type "list")
  | tup {a : Addr} {xs : List V} (e : H a = some (.tup xs)) : TyOf K H (.ref a) (.type "tuple")
  | dK {a : Addr} {kvs : List (Key × V)} (e : H a = some (.dK kvs)) : TyOf K H (.ref a) (.type "dict")
  | dT {a : Addr} {kvs : List (List Key × V)} (e : H a = some (.dT kvs)) : TyOf K H (.ref a) (.type "dict")
  | ins {a C dx : Addr} {fs : List (Str × V)} (e : H a = some (.ins C dx fs)) (cl : Cls K C) (ha : PySem.W.findIn K (.ref C) "__class__" = some (some (.builtin "object.__class__")))
      (hn : PySem.W.specialIn K (.builtin "object.__class__") "__get__" = some (some (.builtin "getset_descriptor.__get__"))) (htk : PySem.W.takesIn K (.builtin "object.__class__") = some true)
      (hm : PySem.W.mroIn K C (.type "object") = some true) : TyOf K H (.ref a) (.ref C)
/-- isinstance(x, c) for one class c, a built-in or an own one: kitOne's answer -/
theorem isinst_ok {x : V} {u t : Value} (I : Inv X pins σ H s) (rx : RelV x u) (ty : TyOf X.K H x t) (e : PySem.W.kitOne X.K t c = some b) (h : ∀ tk, Q (.bool b) { s with toks := tk }) :
    wpAny (model X.prog X.w) A (call (.builtin "isinstance") [u, c]) Q E s := by
  cases ty with
  | non => cases (show u = Value.none from rx); exact PySem.W.kia_one PySem.W.kitx_none I.kIn True.intro e (fun z => nomatch z) h
  | bl y => cases (show u = Value.bool y from rx); exact PySem.W.kia_one PySem.W.kitx_bool I.kIn True.intro e (fun z => nomatch z) h
  | int i => obtain ⟨t, q⟩ := (show ∃ t, u = Value.int i t from rx); cases q; exact PySem.W.kia_one PySem.W.kitx_int I.kIn True.intro e (fun z => nomatch z) h
  | str y => obtain ⟨t, q⟩ := (show ∃ t, u = Value.str y t from rx); cases q; exact PySem.W.kia_one PySem.W.kitx_str I.kIn True.intro e (fun z => nomatch z) h
  | flt y => obtain ⟨t, q⟩ := (show ∃ t, u = Value.float y t from rx); cases q; exact PySem.W.kia_one PySem.W.kitx_float I.kIn True.intro e (fun z => nomatch z) h
  | @lst a xs ea =>
    cases (show u = Value.ref a from rx)
    obtain ⟨_, _, n, _, h1⟩ := (show ObjOk X.prog X.w H s.heap a (.lst xs) from I.hok a _ ea)
    exact PySem.W.kia_one PySem.W.kitx_list I.kIn ⟨_, h1, rfl⟩ e (fun z => nomatch z) h
  | @frz a ob xs ea =>
    cases (show u = Value.ref a from rx)
    obtain ⟨_, _, _, n, _, h1⟩ := (show ObjOk X.prog X.w H s.heap a (.frz ob (.lst xs)) from I.hok a _ ea)
    exact PySem.W.kia_one PySem.W.kitx_list I.kIn ⟨_, h1, rfl⟩ e (fun z => nomatch z) h
  | @tup a xs ea =>
    cases (show u = Value.ref a from rx)
    obtain ⟨_, _, _, p⟩ := (show ObjOk X.prog X.w H s.heap a (.tup xs) from I.hok a _ ea)
    obtain ⟨o, h1, h2, _⟩ := p
    exact PySem.W.kia_one PySem.W.kitx_tuple I.kIn ⟨o, h1, h2⟩ e (fun z => nomatch z) h
  | @dK a kvs ea =>
    cases (show u = Value.ref a from rx)
    obtain ⟨_, _, vs, _, p⟩ := (show ObjOk X.prog X.w H s.heap a (.dK kvs) from I.hok a _ ea)
    obtain ⟨o, es, ep, h1, h2, _⟩ := p
    exact PySem.W.kia_one PySem.W.kitx_dict I.kIn ⟨o, h1, h2.1⟩ e (fun z => nomatch z) h
  | @dT a kvs ea =>
    cases (show u = Value.ref a from rx)
    obtain ⟨_, _, xs, _, o, es, ep, h1, h2, _⟩ := (show ObjOk X.prog X.w H s.heap a (.dT kvs) from I.hok a _ ea)
    exact PySem.W.kia_one PySem.W.kitx_dict I.kIn ⟨o, h1, h2.1⟩ e (fun z => nomatch z) h
  | @ins a C dx fs ea cl ha hn htk hm =>
    cases (show u = Value.ref a from rx)
    obtain ⟨mA, O, _⟩ := ins_get I.hok ea
    obtain ⟨od, J, _⟩ := O.look
    exact PySem.W.kia_one (PySem.W.kitx_own (cl.get _) cl.hd ha hn htk hm) I.kIn J e (fun z => nomatch z) h
end
end L2

namespace L2
open PySem PySem.Spec PyProof.Rows

/-! ### room -/
structure Room (k : Nat) (A : Around) : Prop where
  hd : A.handled = none
  dp : A.depth + 3 * k + 5 < recursionLimit
  un : A.units + 16 * k + 200 < cLine
theorem Room.mono {j k : Nat} {A : Around} (r : Room k A) (h : j ≤ k) : Room j A := ⟨r.hd, by have := r.dp; omega, by have := r.un; omega⟩
theorem Room.deeper {k : Nat} {A : Around} (r : Room (k + 1) A) (env : Env) : Room k (A.deeper env) :=
  ⟨r.hd, by have := r.dp; show A.depth + 1 + 3 * k + 5 < _; omega, by have := r.un; show A.units + 3 + 16 * k + 200 < _; omega⟩
theorem Room.in1 {k : Nat} {A : Around} (r : Room (k + 1) A) : Room k A.in1 :=
  ⟨r.hd, by have := r.dp; show A.depth + 3 * k + 5 < _; omega, by have := r.un; show A.units + 1 + 16 * k + 200 < _; omega⟩
theorem make_depth {A : Around} {C : Addr} {us : List Value} {kw : List (Str × Value)} : (A.under (.builtin "type.__call__" ⟨.ref C :: us, kw⟩)).depth = A.depth + 1 := by
  first | rfl | simp [Around.under, Code.weight, Code.isCreation, Code.isGuard, Code.isCaller, Code.frames, Code.isFrame, guardIds]
theorem make_units {A : Around} {C : Addr} {us : List Value} {kw : List (Str × Value)} : (A.under (.builtin "type.__call__" ⟨.ref C :: us, kw⟩)).units = A.units + 1 := by
  first | rfl | simp [Around.under, Code.cUnits, Code.frames, Code.isFrame]
theorem Room.make {k : Nat} {A : Around} (r : Room (k + 1) A) (C : Addr) (us : List Value) (kw : List (Str × Value)) : Room k (A.under (.builtin "type.__call__" ⟨.ref C :: us, kw⟩)) :=
  ⟨r.hd, by have := r.dp; rw [make_depth]; omega, by have := r.un; rw [make_units]; omega⟩
theorem Room.depth {k : Nat} {A : Around} (r : Room k A) : A.depth < recursionLimit := by have := r.dp; omega
theorem Room.units {k : Nat} {A : Around} (r : Room k A) : A.units + 64 < cLine := by have := r.un; omega
theorem Room.units0 {k : Nat} {A : Around} (r : Room k A) : A.units < cLine := by have := r.un; omega

/-! ### argument lists and displays -/
def tNil : TA := fun _ H Q => Q [] H
def tCons (ta : TE) (tr : TA) : TA := fun σ H Q => ta σ H fun x H1 => tr σ H1 fun xs H2 => Q (x :: xs) H2
section
variable {X : Cx} {e : Expr} {es : List Expr} {te : TE} {t : TA} {pos : Pos}
theorem pa_nil : PA X [] tNil := fun _ _ _ _ H Q I h => Calls.spliced_nil ⟨[], H, I, .nil, h⟩
theorem pa_cons (ha : PE X e te) (hr : PA X es t) (hs : starEach (e :: es) X.env = (false, eval e X.env) :: starEach es X.env := by rfl) : PA X (e :: es) (tCons te t) := by
  intro pos pins s σ H Q I h
  rw [hs]
  show wpAny _ _ (spliced ((false, eval e X.env) :: backTo pos (starEach es X.env))) _ _ s
  refine Calls.spliced_cons (thn (ha pins s σ H _ I h) fun u s1 ⟨x, H1, I1, r1, q1⟩ => ?_)
  exact thn (hr pos pins s1 σ H1 _ I1 q1) fun us s2 ⟨xs, H2, I2, r2, q2⟩ => ⟨x :: xs, H2, I2, .cons r1 r2, q2⟩

/-- a tuple, a list of written items -/
def tTup (t : TA) : TE := fun σ H Q => t σ H fun xs H1 => xs.length ≤ sizeLine ∧ ∀ p, H1 p = none → Q (.ref p) (upd H1 p (.tup xs))
def tLst (t : TA) : TE := fun σ H Q => t σ H fun xs H1 => xs.length ≤ sizeLine ∧ ∀ p, H1 p = none → Q (.ref p) (upd H1 p (.lst xs))
theorem pe_tup {x1} (h : PA X es t) : PE X (.Tuple es x1 pos) (tTup t) := by
  intro pins s σ H Q I hq
  refine wpAny_Tuple_spliced (thn (h pos pins s σ H _ I hq) fun us s1 ⟨xs, H1, I1, r, z, q⟩ => ⟨by rw [← r.length]; exact z, ?_⟩)
  have hf : H1 s1.heap.objs.size = none := I1.hok.fresh (Nat.le_refl _)
  refine ⟨.ref s1.heap.objs.size, upd H1 s1.heap.objs.size (.tup xs), I1.laid (t' := s1.toks) (fun b u e => Heap.get?_push_of_some _ e) (Nat.le_refl _) ?_, rfl, q _ hf⟩
  exact ⟨z, us, r, ⟨_, Heap.get?_push_size _ rfl, rfl, _, rfl⟩⟩
theorem pe_lst (h : PA X es t) : PE X (.List es pos) (tLst t) := by
  intro pins s σ H Q I hq
  refine wpAny_List_spliced (thn (h pos pins s σ H _ I hq) fun us s1 ⟨xs, H1, I1, r, z, q⟩ => ⟨by rw [← r.length]; exact z, ?_⟩)
  have hf : H1 s1.heap.objs.size = none := I1.hok.fresh (Nat.le_refl _)
  refine ⟨.ref s1.heap.objs.size, upd H1 s1.heap.objs.size (.lst xs), I1.laid (t' := s1.toks) (fun b u e => Heap.get?_push_of_some _ e) (Nat.le_refl _) ?_, rfl, q _ hf⟩
  exact ⟨z, us, 0, r, Heap.get?_push_size _ rfl⟩
end

/-! ### what a def promises -/
/-- a def's promise: the bound arguments in the parameters' order, the heap, the wanted end, the wanted exception -/
abbrev Sp := List V → Hp → VK → XK → Prop
/-- how an exception lies behind a call (file 08 gives it): the callers' frames, abstract heap and state ahead of the call, the wish, the exception, the state -/
abbrev CXT := List Env → Hp → Shared → XK → Value → Shared → Prop

/-- the state at a call -/
structure Env0 (P : Program) (w : World) (K : PySem.W.Frag) (mg : Str → Option Value) (base : Heap) (A : Around) (outer : List Env) (s : Shared) (H : Hp) : Prop where
  frames : A.frames = some outer
  mod : Mod K mg base
  bs : ∀ b o, base.get? b = some o → s.heap.get? b = some o ∧ H b = none
  bsz : base.objs.size ≤ s.heap.objs.size
  funs : s.heap.FunFrames base outer
  frf : ∀ b ∈ frs outer, H b = none
  hok : HOk P w H s.heap
  bare : AllBare s.gens
/-- a call's end -/
def CE (outer : List Env) (P : Program) (w : World) (H : Hp) (s : Shared) (Q : VK) (u : Value) (s' : Shared) : Prop :=
  ∃ v H', s'.os = s.os ∧ AllBare s'.gens ∧ Un (frs outer) [] H H' s.heap s'.heap ∧ HOk P w H' s'.heap ∧ RelV v u ∧ Q v H'
def CR (CX : CXT) (outer : List Env) (P : Program) (w : World) (H : Hp) (s : Shared) (Q : VK) (E : XK) (r : Result) (s' : Shared) : Prop :=
  match r with
  | .ok (.ret u) => CE outer P w H s Q u s'
  | .ok _ => False
  | .error e => CX outer H s E e s'
structure FnOk (P : Program) (w : World) (K : PySem.W.Frag) (mg : Str → Option Value) (base : Heap) (CX : CXT) (k : Nat) (f : Addr) (fd : FuncData) (ps : List Str) (sp : Sp) : Prop where
  len : ∀ vs H Q E, sp vs H Q E → vs.length = ps.length
  run : ∀ (A : Around) (outer : List Env) (s : Shared) (H : Hp) (args : Args) (us : List Value) (vs : List V) (Q : VK) (E : XK), Room k A → Env0 P w K mg base A outer s H → BindsTo s fd args (ps.zip us) → Vals vs us → sp vs H Q E →
    codeAny (model P w) A (.call (.ref f) args) (CR CX outer P w H s Q E) s
theorem FnOk.mono {P : Program} {w : World} {K : PySem.W.Frag} {mg : Str → Option Value} {base : Heap} {CX : CXT} {j k : Nat} {f : Addr} {fd : FuncData} {ps : List Str} {sp : Sp} (F : FnOk P w K mg base CX j f fd ps sp) (h : j ≤ k) :
    FnOk P w K mg base CX k f fd ps sp := ⟨F.len, fun A outer s H args us vs Q E hr => F.run A outer s H args us vs Q E (hr.mono h)⟩
/-- a weaker promise -/
theorem FnOk.imp {P : Program} {w : World} {K : PySem.W.Frag} {mg : Str → Option Value} {base : Heap} {CX : CXT} {k : Nat} {f : Addr} {fd : FuncData} {ps : List Str} {sp sp' : Sp} (F : FnOk P w K mg base CX k f fd ps sp)
    (h : ∀ vs H Q E, sp' vs H Q E → sp vs H Q E) : FnOk P w K mg base CX k f fd ps sp' :=
  ⟨fun vs H Q E q => F.len vs H Q E (h _ _ _ _ q), fun A outer s H args us vs Q E hr he hb hv hs => F.run A outer s H args us vs Q E hr he hb hv (h _ _ _ _ hs)⟩

theorem Env0.make {P : Program} {w : World} {K : PySem.W.Frag} {mg : Str → Option Value} {base : Heap} {A : Around} {outer : List Env} {s : Shared} {H : Hp} (e : Env0 P w K mg base A outer s H) (C : Addr) (us : List Value) (kw : List (Str × Value)) :
    Env0 P w K mg base (A.under (.builtin "type.__call__" ⟨.ref C :: us, kw⟩)) outer s H := ⟨by first | exact e.frames | (simpa [Around.under, Code.envs, Code.isFrame, pushEnvs] using e.frames), e.mod, e.bs, e.bsz, e.funs, e.frf, e.hok, e.bare⟩
theorem Env0.in1 {P : Program} {w : World} {K : PySem.W.Frag} {mg : Str → Option Value} {base : Heap} {A : Around} {outer : List Env} {s : Shared} {H : Hp} (e : Env0 P w K mg base A outer s H) :
    Env0 P w K mg base A.in1 outer s H := ⟨e.frames, e.mod, e.bs, e.bsz, e.funs, e.frf, e.hok, e.bare⟩

section
variable {X : Cx} {pins : List (Addr × Obj)} {σ : St} {H : Hp} {s s' : Shared}
/-- from a body: what a callee wants -/
theorem Inv.env0 (I : Inv X pins σ H s) : Env0 X.prog X.w X.K X.mg X.base X.A X.stack s H :=
  ⟨I.ok.frames, I.ok.mod, I.bs, Nat.le_trans I.ok.bsz I.sz, I.stack, I.stkFree, I.hok, I.bare⟩
/-- behind a call -/
theorem Inv.after {Q : VK} {u : Value} (I : Inv X pins σ H s) (h : CE X.stack X.prog X.w H s Q u s') : EP X pins σ Q u s' := by
  obtain ⟨v, H', os, bare, un, hok, r, q⟩ := h
  obtain ⟨hh, g, d, t, os'⟩ := s'
  obtain rfl : os' = s.os := os
  exact ⟨v, H', I.call (h' := hh) (g' := g) (d' := d) (t' := t) (ch := []) un hok bare (fun b z => absurd z (by simp)), r, q⟩
end

/-! ### calls -/
/-- f(..): the written arguments, then the defaults dvs; E: what is wanted of an exception -/
def tCall (sp : Sp) (dvs : List V) (E : XK) (t : TA) : TE := fun σ H Q => t σ H fun vs H1 => sp (vs ++ dvs) H1 Q E
/-- o.m(..) of an instance of the class at C -/
def tMeth (C : Addr) (m : Str) (sp : Sp) (dvs : List V) (E : XK) (ta : TE) (t : TA) : TE := fun σ H Q => ta σ H fun x H1 => ∃ a dx fs, x = .ref a ∧ H1 a = some (.ins C dx fs) ∧ fs.lookup m = none ∧
  t σ H1 fun vs H2 => sp (x :: (vs ++ dvs)) H2 Q E
/-- C(..): a new instance and its dict, then __init__ -/
def tMake (C : Addr) (sp : Sp) (dvs : List V) (E : XK) (t : TA) : TE := fun σ H Q => t σ H fun vs H1 => ∀ x dx, H1 x = none → H1 dx = none → dx ≠ x →
  sp (.ref x :: (vs ++ dvs)) (upd (upd H1 dx (.own x)) x (.ins C dx [])) (fun v H2 => v = .non ∧ Q (.ref x) H2) E

/-- how the parameters are bound: us the positional arguments, kw the keywords' values by name, ds the defaults that fill up -/
def Binds (K : PySem.W.Frag) (fd : FuncData) (ps : List Str) (ds : List Value) : Prop :=
  ∀ (s : Shared) (us : List Value), K.In s.heap → (us ++ ds).length = ps.length → BindsTo s fd ⟨us, []⟩ (ps.zip (us ++ ds))
/-- every parameter is given -/
theorem Binds.all {K : PySem.W.Frag} {fd : FuncData} {ps : List Str} (h : ∀ us : List Value, us.length = ps.length → bindArgs fd ⟨us, []⟩ = pure (ps.zip us)) : Binds K fd ps [] := fun s us _ hl => by
  rw [List.append_nil] at hl ⊢
  exact .of_eq (h us hl)

/-- an exception of a callee reaches what this body wants of exceptions -/
def Passes (CX : CXT) (X : Cx) (E : XK) : Prop := ∀ (pins : List (Addr × Obj)) (σ : St) (H : Hp) (s : Shared) (e : Value) (s' : Shared), Inv X pins σ H s → CX X.stack H s E e s' → X.xe e s'

section
variable {X : Cx} {CX : CXT} {k : Nat} {f C : Addr} {fd : FuncData} {ps : List Str} {sp : Sp} {dvs : List V} {ds : List Value} {E : XK} {x m : Str} {p pos apos : Pos} {e o : Expr} {es : List Expr} {ta : TE} {t : TA}

/-- the callee runs -/
theorem run_fn {pins : List (Addr × Obj)} {σ : St} {H : Hp} {s : Shared} {Q : VK} {us : List Value} {vs : List V} (F : FnOk X.prog X.w X.K X.mg X.base CX k f fd ps sp) (hr : Room k X.A) (hb : Binds X.K fd ps ds) (hd : Vals dvs ds) (hx : Passes CX X E)
    (I : Inv X pins σ H s) (r : Vals vs us) (h : sp (vs ++ dvs) H Q E) : wpAny (model X.prog X.w) X.A (call (.ref f) us) (EP X pins σ Q) X.xe s := by
  have r2 : Vals (vs ++ dvs) (us ++ ds) := r.append hd
  have hl : (us ++ ds).length = ps.length := by rw [← r2.length]; exact F.len _ _ _ _ h
  refine wpAny_call (codeAny_mono (F.run X.A X.stack s H ⟨us, []⟩ (us ++ ds) (vs ++ dvs) Q E hr I.env0 (hb s us I.kIn hl) r2 h) fun r s' hq => ?_)
  cases r with
  | error e => exact hx pins σ H s e s' I hq
  | ok fl =>
    cases fl with
    | ret u => exact I.after hq
    | next => exact False.elim hq
    | brk => exact False.elim hq
    | cont => exact False.elim hq

theorem pe_call (F : FnOk X.prog X.w X.K X.mg X.base CX k f fd ps sp) (hr : Room k X.A) (hg : Gl X x) (hm : X.mg x = some (.ref f)) (hk : PySem.W.keepIn X.K (.ref f) = true) (hb : Binds X.K fd ps ds) (hd : Vals dvs ds) (hx : Passes CX X E)
    (ha : PA X (e :: es) t) (hdb : (x == ("__debug__" : Str)) = false := by decide) (he : starEach (e :: es) X.env = (false, eval e X.env) :: starEach es X.env := by rfl) (hpl : (backTo pos (starEach es X.env)).any (·.1) = false := by rfl) :
    PE X (.Call (.Name x p) (e :: es) [] pos) (tCall sp dvs E t) := by
  intro pins s σ H Q I h
  refine wpAny_Call_Name_kw (ld_glob I hg hm ?_ hdb)
  refine PySem.W.callWith_K (h₀ := X.base) I.ok.mod.kin hk (thn (ha pos pins s σ H _ I h) fun us s1 ⟨vs, H1, I1, r, q⟩ => ⟨I1.kIn, ?_⟩) he hpl
  exact run_fn F hr hb hd hx I1 r q
theorem pe_call0 (F : FnOk X.prog X.w X.K X.mg X.base CX k f fd ps sp) (hr : Room k X.A) (hg : Gl X x) (hm : X.mg x = some (.ref f)) (hk : PySem.W.keepIn X.K (.ref f) = true) (hb : Binds X.K fd ps ds) (hd : Vals dvs ds) (hx : Passes CX X E)
    (hdb : (x == ("__debug__" : Str)) = false := by decide) : PE X (.Call (.Name x p) [] [] pos) (tCall sp dvs E tNil) := by
  intro pins s σ H Q I h
  refine wpAny_Call_Name_kw (ld_glob I hg hm ?_ hdb)
  exact PySem.W.callWith_K0 I.kIn hk (run_fn (us := []) F hr hb hd hx I .nil h)

/-- o.m(e, ..) -/
theorem pe_meth {pl : Sem Bool} (he : PE X o ta) (c : Cls X.K C) (hm : Meth X.K C m f) (F : FnOk X.prog X.w X.K X.mg X.base CX k f fd ps sp) (hr : Room k X.A) (hb : Binds X.K fd ps ds) (hd : Vals dvs ds) (hx : Passes CX X E) (ha : PA X (e :: es) t)
    (hst : starEach (e :: es) X.env = (false, eval e X.env) :: starEach es X.env := by rfl) (hpl : (backTo pos (starEach es X.env)).any (·.1) = false := by rfl)
    (ht : eval (.Call (.Attribute o m apos) (e :: es) [] pos) X.env = (do
      let ov ← eval o X.env
      standAt apos.atName
      let (f, first) ← holding [ov] (getMethod ov m pl)
      callWith pos f first (backTo pos (starEach (e :: es) X.env)) (backToKw pos (keywordEach [] X.env))) := by rfl) :
    PE X (.Call (.Attribute o m apos) (e :: es) [] pos) (tMeth C m sp dvs E ta t) := by
  intro pins s σ H Q I h
  refine PySem.W.methodCall_KW (pl := pl) (thn (he pins s σ H _ I h) fun u s1 ⟨x, H1, I1, rx, a, dx, fs, ex, ea, l, q⟩ => ?_) ht
  subst ex
  obtain rfl : u = Value.ref a := rx
  refine getmeth_ok I1 ea c hm l ?_
  refine PySem.W.callWith_K (first := [.ref a]) (h₀ := X.base) I.ok.mod.kin hm.kp (thn (ha pos pins s1 σ H1 _ I1 q) fun us s2 ⟨vs, H2, I2, r, q2⟩ => ⟨I2.kIn, ?_⟩) hst hpl
  exact run_fn (us := .ref a :: us) (vs := .ref a :: vs) F hr hb hd hx I2 (.cons rfl r) q2
/-- o.m() -/
theorem pe_meth0 {pl : Sem Bool} (he : PE X o ta) (c : Cls X.K C) (hm : Meth X.K C m f) (F : FnOk X.prog X.w X.K X.mg X.base CX k f fd ps sp) (hr : Room k X.A) (hb : Binds X.K fd ps ds) (hd : Vals dvs ds) (hx : Passes CX X E)
    (ht : eval (.Call (.Attribute o m apos) [] [] pos) X.env = (do
      let ov ← eval o X.env
      standAt apos.atName
      let (f, first) ← holding [ov] (getMethod ov m pl)
      callWith pos f first (backTo pos (starEach [] X.env)) (backToKw pos (keywordEach [] X.env))) := by rfl) :
    PE X (.Call (.Attribute o m apos) [] [] pos) (tMeth C m sp dvs E ta tNil) := by
  intro pins s σ H Q I h
  refine PySem.W.methodCall_KW (pl := pl) (thn (he pins s σ H _ I h) fun u s1 ⟨x, H1, I1, rx, a, dx, fs, ex, ea, l, q⟩ => ?_) ht
  subst ex
  obtain rfl : u = Value.ref a := rx
  refine getmeth_ok I1 ea c hm l ?_
  exact PySem.W.callWith_K0 (first := [.ref a]) I1.kIn hm.kp (run_fn (us := [.ref a]) (vs := [.ref a]) F hr hb hd hx I1 (.cons rfl .nil) q)

/-- what a class must have to be made -/
structure Mk (K : PySem.W.Frag) (C f : Addr) : Prop where
  makes : PySem.W.makesIn K C = true
  init : PySem.W.findIn K (.ref C) "__init__" = some (some (.ref f))
  fn : PySem.W.isFn K (.ref f) = true
  kp : PySem.W.keepIn K (.ref C) = true

theorem run_make {pins : List (Addr × Obj)} {σ : St} {H : Hp} {s : Shared} {Q : VK} {us : List Value} {vs : List V} (M : Mk X.K C f) (F : FnOk X.prog X.w X.K X.mg X.base CX k f fd ps sp) (hr : Room (k + 1) X.A) (hb : Binds X.K fd ps ds) (hd : Vals dvs ds)
    (hx : Passes CX X E) (I : Inv X pins σ H s) (r : Vals vs us)
    (h : ∀ x dx, H x = none → H dx = none → dx ≠ x → sp (.ref x :: (vs ++ dvs)) (upd (upd H dx (.own x)) x (.ins C dx [])) (fun v H2 => v = .non ∧ Q (.ref x) H2) E) :
    wpAny (model X.prog X.w) X.A (call (.ref C) us) (EP X pins σ Q) X.xe s := by
  have hq := h (s.heap.objs.size + 1) s.heap.objs.size (I.hok.fresh (Nat.le_succ _)) (I.hok.fresh (Nat.le_refl _)) (Nat.ne_of_lt (Nat.lt_succ_self _))
  have I2 := Inv.made (C := C) I
  have r2 : Vals (V.ref (s.heap.objs.size + 1) :: (vs ++ dvs)) (Value.ref (s.heap.objs.size + 1) :: (us ++ ds)) := .cons rfl (r.append hd)
  have hl : (Value.ref (s.heap.objs.size + 1) :: us ++ ds).length = ps.length := by
    have e := r2.length
    rw [F.len _ _ _ _ hq] at e
    exact e.symm
  refine wpAny_call (make_map (f := f) I.kIn M.makes M.init (beq_iff_eq.mp M.fn) (codeAny_mono (F.run _ X.stack _ _ ⟨Value.ref (s.heap.objs.size + 1) :: us, []⟩ (Value.ref (s.heap.objs.size + 1) :: (us ++ ds)) _ _ E (hr.make C us [])
    (I2.env0.make C us []) (hb _ (Value.ref (s.heap.objs.size + 1) :: us) I2.kIn hl) r2 hq) fun r s' hq' => ?_))
  cases r with
  | error e => exact hx pins σ _ _ e s' I2 hq'
  | ok fl =>
    cases fl with
    | ret u =>
      obtain ⟨v, H', I3, rv, ev, q3⟩ := I2.after hq'
      subst ev
      exact ⟨rv, ⟨V.ref (s.heap.objs.size + 1), H', I3, rfl, q3⟩⟩
    | next => exact False.elim hq'
    | brk => exact False.elim hq'
    | cont => exact False.elim hq'
theorem pe_make (M : Mk X.K C f) (F : FnOk X.prog X.w X.K X.mg X.base CX k f fd ps sp) (hr : Room (k + 1) X.A) (hg : Gl X x) (hm : X.mg x = some (.ref C)) (hb : Binds X.K fd ps ds) (hd : Vals dvs ds) (hx : Passes CX X E)
    (ha : PA X (e :: es) t) (hdb : (x == ("__debug__" : Str)) = false := by decide) (he : starEach (e :: es) X.env = (false, eval e X.env) :: starEach es X.env := by rfl) (hpl : (backTo pos (starEach es X.env)).any (·.1) = false := by rfl) :
    PE X (.Call (.Name x p) (e :: es) [] pos) (tMake C sp dvs E t) := by
  intro pins s σ H Q I h
  refine wpAny_Call_Name_kw (ld_glob I hg hm ?_ hdb)
  refine PySem.W.callWith_K (h₀ := X.base) I.ok.mod.kin M.kp (thn (ha pos pins s σ H _ I h) fun us s1 ⟨vs, H1, I1, r, q⟩ => ⟨I1.kIn, ?_⟩) he hpl
  exact run_make M F hr hb hd hx I1 r q
theorem pe_make0 (M : Mk X.K C f) (F : FnOk X.prog X.w X.K X.mg X.base CX k f fd ps sp) (hr : Room (k + 1) X.A) (hg : Gl X x) (hm : X.mg x = some (.ref C)) (hb : Binds X.K fd ps ds) (hd : Vals dvs ds) (hx : Passes CX X E)
    (hdb : (x == ("__debug__" : Str)) = false := by decide) : PE X (.Call (.Name x p) [] [] pos) (tMake C sp dvs E tNil) := by
  intro pins s σ H Q I h
  refine wpAny_Call_Name_kw (ld_glob I hg hm ?_ hdb)
  exact PySem.W.callWith_K0 I.kIn M.kp (run_make (us := []) M F hr hb hd hx I .nil h)
end

/-! ### keywords -/
/-- the values of the keywords, from the left -/
def PK (X : Cx) (kws : List Keyword) (t : TA) : Prop :=
  ∀ (pos : Pos) (pins : List (Addr × Obj)) (s : Shared) (σ : St) (H : Hp) (Q : List V → Hp → Prop), Inv X pins σ H s → t σ H Q → wpAny (model X.prog X.w) X.A (evalAll ((backToKw pos (keywordEach kws X.env)).map (·.2))) (AP X pins σ Q) X.xe s
section
variable {X : Cx} {CX : CXT} {k : Nat} {f C : Addr} {fd : FuncData} {ps ks : List Str} {sp : Sp} {E : XK} {x m : Str} {p pos apos kpos : Pos} {e o : Expr} {es : List Expr} {kws : List Keyword} {te ta : TE} {t tk : TA} {nm : Option Str}
theorem pk_nil : PK X [] tNil := fun _ _ _ _ H Q I h => wpAny_evalAll_nil ⟨[], H, I, .nil, h⟩
theorem pk_cons (ha : PE X e te) (hr : PK X kws t) : PK X (⟨nm, e, kpos⟩ :: kws) (tCons te t) := by
  intro pos pins s σ H Q I h
  show wpAny _ _ (evalAll ((do let v ← eval e X.env; standAt pos; pure v) :: (backToKw pos (keywordEach kws X.env)).map (·.2))) _ _ s
  refine wpAny_evalAll_cons (wpAny_bind (thn (ha pins s σ H _ I h) fun u s1 ⟨x, H1, I1, r1, q1⟩ => wpAny_bind (wpAny_standAt (wpAny_pure ?_))))
  exact thn (hr pos pins s1 σ H1 _ I1 q1) fun us s2 ⟨xs, H2, I2, r2, q2⟩ => ⟨x :: xs, H2, I2, .cons r1 r2, q2⟩

/-- how a call with keywords binds: g puts the positional values us and the keywords' values ws (names ks) in the parameters' order, defaults among them -/
structure KBinds (K : PySem.W.Frag) (fd : FuncData) (ps ks : List Str) (g : List Value → List Value → List Value) (gV : List V → List V → List V) : Prop where
  to : ∀ (s : Shared) (us ws : List Value), K.In s.heap → (g us ws).length = ps.length → BindsTo s fd ⟨us, ks.zip ws⟩ (ps.zip (g us ws))
  rel : ∀ {vs : List V} {us : List Value} {zs : List V} {ws : List Value}, Vals vs us → Vals zs ws → Vals (gV vs zs) (g us ws)
def tCallK (sp : Sp) (gV : List V → List V → List V) (E : XK) (t tk : TA) : TE := fun σ H Q => t σ H fun vs H1 => tk σ H1 fun zs H2 => sp (gV vs zs) H2 Q E
variable {g : List Value → List Value → List Value} {gV : List V → List V → List V}
theorem run_fnk {pins : List (Addr × Obj)} {σ : St} {H : Hp} {s : Shared} {Q : VK} {us ws : List Value} {vs zs : List V} (F : FnOk X.prog X.w X.K X.mg X.base CX k f fd ps sp) (hr : Room k X.A) (hb : KBinds X.K fd ps ks g gV) (hx : Passes CX X E)
    (I : Inv X pins σ H s) (r : Vals vs us) (rz : Vals zs ws) (h : sp (gV vs zs) H Q E) : wpAny (model X.prog X.w) X.A (call (.ref f) us (ks.zip ws)) (EP X pins σ Q) X.xe s := by
  have r2 := hb.rel r rz
  have hl : (g us ws).length = ps.length := by rw [← r2.length]; exact F.len _ _ _ _ h
  refine wpAny_call (codeAny_mono (F.run X.A X.stack s H ⟨us, ks.zip ws⟩ (g us ws) (gV vs zs) Q E hr I.env0 (hb.to s us ws I.kIn hl) r2 h) fun r s' hq => ?_)
  cases r with
  | error e => exact hx pins σ H s e s' I hq
  | ok fl =>
    cases fl with
    | ret u => exact I.after hq
    | next => exact False.elim hq
    | brk => exact False.elim hq
    | cont => exact False.elim hq
/-- f(e, .., k = v, ..) -/
theorem pe_callK (F : FnOk X.prog X.w X.K X.mg X.base CX k f fd ps sp) (hr : Room k X.A) (hg : Gl X x) (hm : X.mg x = some (.ref f)) (hk : PySem.W.keepIn X.K (.ref f) = true) (hb : KBinds X.K fd ps ks g gV) (hx : Passes CX X E)
    (ha : PA X (e :: es) t) (hkw : PK X kws tk) (hall : (backToKw pos (keywordEach kws X.env)).all (·.1.isSome) = true := by rfl) (hks : (backToKw pos (keywordEach kws X.env)).filterMap (·.1) = ks := by rfl)
    (hdb : (x == ("__debug__" : Str)) = false := by decide) (he : starEach (e :: es) X.env = (false, eval e X.env) :: starEach es X.env := by rfl)
    (hpl : ((backTo pos (starEach (e :: es) X.env)).any (·.1) || (backToKw pos (keywordEach kws X.env)).any (·.1.isNone)) = false := by rfl) :
    PE X (.Call (.Name x p) (e :: es) kws pos) (tCallK sp gV E t tk) := by
  intro pins s σ H Q I h
  refine wpAny_Call_Name_kw (ld_glob I hg hm ?_ hdb)
  refine PySem.W.callWith_KW (h₀ := X.base) I.ok.mod.kin hk hall (thn (ha pos pins s σ H _ I h) fun us s1 ⟨vs, H1, I1, r, q⟩ => ?_) hpl he
  refine thn (hkw pos pins s1 σ H1 _ I1 q) fun ws s2 ⟨zs, H2, I2, rz, q2⟩ => ⟨I2.kIn, ?_⟩
  rw [hks]
  exact run_fnk F hr hb hx I2 r rz q2
end

/-! ### a def's body keeps its promise -/
/-- names: the parameters first -/
structure FnScope (N P : List Str) (sc : Scope) : Prop where
  kind : sc.kind = .function
  co : sc.isCoroutine = false
  gen : sc.isGenerator = false
  nd : N.Nodup
  pre : N.take P.length = P
  par : ∀ x ∈ P, sc.names.lookup x = some .local ∨ sc.names.lookup x = some .cell
  nofree : ∀ y ∈ sc.names, y.2 ≠ .free

theorem bindL_out {kindOf : Str → Option NameKind} {x : Str} : ∀ {binds : List (Str × Value)} {m : Str → Option Value}, (∀ v, (x, v) ∉ binds) → bindL kindOf binds m x = m x
  | [], _, _ => rfl
  | (n, v) :: r, m, h => by
    unfold bindL
    rw [bindL_out fun w hw => h w (List.mem_cons_of_mem _ hw)]
    split
    · have : x ≠ n := by rintro rfl; exact h v List.mem_cons_self
      simp [this]
    · rfl
theorem bindC_out {kindOf : Str → Option NameKind} {x : Str} : ∀ {binds : List (Str × Value)} {m : Str → Option Value}, (∀ v, (x, v) ∉ binds) → bindC kindOf binds m x = m x
  | [], _, _ => rfl
  | (n, v) :: r, m, h => by
    unfold bindC
    rw [bindC_out fun w hw => h w (List.mem_cons_of_mem _ hw)]
    split
    · rfl
    · have : x ≠ n := by rintro rfl; exact h v List.mem_cons_self
      simp [this]
theorem bindL_get {kindOf : Str → Option NameKind} {x : Str} {v : Value} : ∀ {P : List Str} {vs : List Value} {i : Nat} {m : Str → Option Value}, P.Nodup → P[i]? = some x → vs[i]? = some v → kindOf x = some .local →
    bindL kindOf (P.zip vs) m x = some v
  | [], _, _, _, _, h, _, _ => by simp at h
  | _ :: _, [], _, _, _, _, h, _ => by simp at h
  | p :: P, w :: vs, 0, m, nd, h1, h2, hk => by
    simp at h1 h2; subst h1; subst h2
    show bindL kindOf ((p, w) :: P.zip vs) m p = _
    unfold bindL
    rw [bindL_out fun v hv => (List.nodup_cons.mp nd).1 (List.of_mem_zip hv).1, if_pos hk]
    simp
  | p :: P, w :: vs, i + 1, m, nd, h1, h2, hk => by
    show bindL kindOf ((p, w) :: P.zip vs) m x = _
    unfold bindL
    exact bindL_get (i := i) (List.nodup_cons.mp nd).2 (by simpa using h1) (by simpa using h2) hk
theorem bindC_get {kindOf : Str → Option NameKind} {x : Str} {v : Value} : ∀ {P : List Str} {vs : List Value} {i : Nat} {m : Str → Option Value}, P.Nodup → P[i]? = some x → vs[i]? = some v → kindOf x ≠ some .local →
    bindC kindOf (P.zip vs) m x = some v
  | [], _, _, _, _, h, _, _ => by simp at h
  | _ :: _, [], _, _, _, _, h, _ => by simp at h
  | p :: P, w :: vs, 0, m, nd, h1, h2, hk => by
    simp at h1 h2; subst h1; subst h2
    show bindC kindOf ((p, w) :: P.zip vs) m p = _
    unfold bindC
    rw [bindC_out fun v hv => (List.nodup_cons.mp nd).1 (List.of_mem_zip hv).1, if_neg hk]
    simp
  | p :: P, w :: vs, i + 1, m, nd, h1, h2, hk => by
    show bindC kindOf ((p, w) :: P.zip vs) m x = _
    unfold bindC
    exact bindC_get (i := i) (List.nodup_cons.mp nd).2 (by simpa using h1) (by simpa using h2) hk

/-- the names' values at the entry -/
def start (N : List Str) (vs : List V) : St := vs.map some ++ List.replicate (N.length - vs.length) none

/-- the context of a def's body, at its entry; an exception leaves the frame, then lies as CX says -/
def cxOf (CX : CXT) (P : Program) (w : World) (K : PySem.W.Frag) (mg : Str → Option Value) (base : Heap) (N : List Str) (qual : Str) (scope : Scope) (f : Addr) (cd : Value) (A : Around) (outer : List Env) (s : Shared) (H : Hp) (E : XK) : Cx where
  prog := P
  w := w
  K := K
  mg := mg
  base := base
  A := A.deeper (envOfC qual scope s.heap.objs.size f cd)
  N := N
  s₀ := s
  H₀ := H
  env := envOfC qual scope s.heap.objs.size f cd
  outer := outer
  stack := envOfC qual scope s.heap.objs.size f cd :: outer
  ex := []
  calm := true
  fn := fun _ => true
  pn := []
  xe := fun e s' => wpAny (model P w) (A.deeper (envOfC qual scope s.heap.objs.size f cd)) (leaving (envOfC qual scope s.heap.objs.size f cd) e) (fun _ s'' => CX outer H s E e s'') (fun e' s'' => CX outer H s E e' s'') s'

theorem cell_has {sc : Scope} {n : Nat} {x : Str} (h : sc.names.lookup x = some .cell) : ∃ c, (cellsFrom n sc.names []).lookup x = some c := by
  have q := PySem.W.cellsFrom_some sc.names n [] (.inl h)
  exact Option.isSome_iff_exists.mp q

theorem inv_start {CX : CXT} {P : Program} {w : World} {K : PySem.W.Frag} {mg : Str → Option Value} {base : Heap} {N ps : List Str} {qual : Str} {scope : Scope} {f : Addr} {cd : Value} {A : Around} {outer : List Env} {s s1 : Shared} {H : Hp} {E : XK} {us : List Value} {vs : List V}
    (S : FnScope N ps scope) (hd : A.handled = none) (e0 : Env0 P w K mg base A outer s H) (hl : vs.length = ps.length) (r : Vals vs us)
    (x : InCallC s s.heap.objs.size (bindL (envOfC qual scope s.heap.objs.size f cd).kindOf (ps.zip us) fun _ => none) (cellsFrom (s.heap.objs.size + 1) scope.names []) (bindC (envOfC qual scope s.heap.objs.size f cd).kindOf (ps.zip us) fun _ => none) s1) :
    Inv (cxOf CX P w K mg base N qual scope f cd A outer s H E) [] (start N vs) H s1 := by
  have hpl : ps.length ≤ N.length := by have := congrArg List.length S.pre; rw [List.length_take] at this; omega
  obtain ⟨h1, tk, rfl, hk⟩ := x.done
  have noA : ∀ b : Addr, b ∉ (cxOf CX P w K mg base N qual scope f cd A outer s H E).ex := fun b z => absurd (show b ∈ ([] : List Addr) from z) (by simp)
  refine ⟨⟨e0.mod, S.kind, rfl, rfl, Nat.le_refl _, fun y z c h1 h2 => ?_, fun y hy => ?_, fun y c _ h => ?_, fun _ => hd, Around.frames_deeper e0.frames, .inr ⟨rfl, rfl⟩, fun b z => absurd z (noA b), e0.bs, e0.bsz, fun b _ _ => noA b, fun b z => absurd z (noA b), e0.funs, e0.frf⟩,
    rfl, e0.bare, Un.kept hk, ⟨_, x.toInCall.ns, fun i y v h1 h2 h3 => ?_⟩, fun y c h => ⟨_, x.cell y c h⟩, e0.hok.fresh (Nat.le_refl _), fun y c h => ?_, fun p hp => absurd (show p ∈ ([] : List (Addr × Obj)) from hp) (by simp), e0.hok.kept hk, ?_⟩
  · exact name_of_addr x.apart (PySem.mem_of_lookup h1) (PySem.mem_of_lookup h2)
  · have hy : scope.names.lookup y = some .cell ∨ scope.names.lookup y = some .free := hy
    rcases hy with hy | hy
    · exact cell_has hy
    · exact absurd rfl (S.nofree _ (PySem.mem_of_lookup hy))
  · exact Nat.le_of_lt (x.above y c (PySem.mem_of_lookup h))
  · have hi : i < vs.length := by
      unfold start at h2
      by_cases hi : i < vs.length
      · exact hi
      · rw [List.getElem?_append_right (by simpa using hi)] at h2
        rw [List.getElem?_replicate] at h2
        split at h2 <;> cases h2
    have ha : vs[i]? = some v := by
      unfold start at h2
      rw [List.getElem?_append_left (by simpa using hi), List.getElem?_map] at h2
      cases e : vs[i]? with
      | none => rw [e] at h2; cases h2
      | some a => rw [e] at h2; cases h2; rfl
    obtain ⟨u, hu, rv⟩ := r.get ha
    have hp : ps[i]? = some y := by
      rw [← S.pre, List.getElem?_take_of_lt (by omega)]; exact h1
    have ndP : ps.Nodup := by rw [← S.pre]; exact S.nd.sublist (List.take_sublist _ _)
    refine ⟨u, rv, ?_⟩
    rcases S.par y (List.mem_of_getElem? hp) with k | k
    · exact .inl ⟨k, bindL_get ndP hp hu k⟩
    · obtain ⟨c, e⟩ := cell_has (n := s.heap.objs.size + 1) k
      refine .inr ⟨.inl k, c, e, ?_⟩
      have q := x.cell y c e
      rw [bindC_get ndP hp hu (by show scope.names.lookup y ≠ _; rw [k]; decide)] at q
      exact q
  · exact e0.hok.fresh (Nat.le_of_lt (x.above y c (PySem.mem_of_lookup h)))
  · unfold start
    show _ = N.length
    rw [List.length_append, List.length_map, List.length_replicate]
    omega

/-- THE RULE: a def (or a method) of the text, by its body. The body's reading t is chosen for each entry; it is run at the parameters' values -/
theorem fn_of {CX : CXT} {P : Program} {w : World} {K : PySem.W.Frag} {mg : Str → Option Value} {base : Heap} {k : Nat} {f : Addr} {name qual : Str} {params : Arguments} {body : List Stmt} {scope : Scope} {dV kV doc pm cdv ct oc : Value} {an od : Option Addr}
    {osl : Array (Option Value)} {N ps : List Str} {sp : Sp} (lk : K.lookup f = some ⟨oc, od, .func (PySem.W.fnOf name qual params body scope dV kV doc pm an cdv ct), osl⟩) (hcd : PySem.W.codeIn K cdv qual = true) (S : FnScope N ps scope)
    (len : ∀ vs H Q E, sp vs H Q E → vs.length = ps.length)
    (hbody : ∀ (A : Around) (outer : List Env) (s : Shared) (H : Hp) (vs : List V) (Q : VK) (E : XK), Room k (A.deeper (envOfC qual scope s.heap.objs.size f cdv)) → sp vs H Q E →
      ∃ t, PSs (cxOf CX P w K mg base N qual scope f cdv A outer s H E) body t ∧ t { nx := fun _ H' => Q .non H', rt := Q } (start N vs) H) :
    FnOk P w K mg base CX (k + 1) f (PySem.W.fnOf name qual params body scope dV kV doc pm an cdv ct) ps sp := by
  refine ⟨len, fun A outer s H args us vs Q E hr e0 hb r hsp => ?_⟩
  have hl := len _ _ _ _ hsp
  have KX : K.In s.heap := e0.mod.kin.keeps fun b o e => (e0.bs b o e).1
  have lim : s.heap.NoLimit := e0.mod.nolimit.keeps fun b o e => (e0.bs b o e).1
  have hkind : ∀ y ∈ ps.zip us, scope.names.lookup y.1 = some .local ∨ (scope.names.lookup y.1 = some .cell ∧ ((cellsFrom (s.heap.objs.size + 1) scope.names []).lookup y.1).isSome = true) := fun ⟨n, v⟩ hy => by
    rcases S.par n (List.of_mem_zip hy).1 with q | q
    · exact .inl q
    · exact .inr ⟨q, PySem.W.cellsFrom_some _ _ _ (.inl q)⟩
  refine codeAny_call_function hr.depth (KX _ _ lk) rfl S.co S.gen rfl (PySem.W.codeRec_of KX hcd) (hb _ _ _ _ ?_)
  refine wpAny_newFunctionEnv_cells S.kind hkind fun env he s1 x => ?_
  subst he
  refine ⟨lim.keeps x.toInCall.keep, codeAny_func ?_⟩
  obtain ⟨t, ht, hq⟩ := hbody A outer s H vs Q E (hr.deeper _) hsp
  have I : Inv (cxOf CX P w K mg base N qual scope f cdv A outer s H E) [] (start N vs) H s1 := inv_start S hr.hd e0 hl r x
  refine wpAny_mono (ht [] s1 (start N vs) H _ I hq) (fun fl s' hs => ?_) fun e s' hs => hs
  have fin : ∀ {σ' : St} {H' : Hp} {v : V} {u : Value}, Inv (cxOf CX P w K mg base N qual scope f cdv A outer s H E) [] σ' H' s' → RelV v u → Q v H' → CE outer P w H s Q u s' :=
    fun {σ' H' v u} J rv q => ⟨v, H', J.os, J.bare, J.base, J.hok, rv, q⟩
  cases fl with
  | ret u =>
    obtain ⟨v, σ', H', J, rv, q⟩ := hs
    exact fin J rv q
  | next =>
    obtain ⟨σ', H', J, q⟩ := hs
    exact fin (v := V.non) (u := Value.none) J rfl q
  | brk =>
    obtain ⟨_, _, _, q⟩ := hs
    exact False.elim q
  | cont =>
    obtain ⟨_, _, _, q⟩ := hs
    exact False.elim q
end L2

namespace L2
open PySem PySem.Spec PyProof.Rows
section
variable {X : Cx} {x : Str} {p pos : Pos} {e : Expr} {es : List Expr} {t : TA} {id T : String} {r : List V → Hp → VK → Prop}

def tCB (r : List V → Hp → VK → Prop) (t : TA) : TE := fun σ H Q => t σ H fun vs H1 => r vs H1 Q
/-- f(e, ..), f a built-in function -/
theorem pe_callB (hc : CallR X (.builtin id) r) (hg : Gl X x) (hm : X.mg x = none) (hv : bootBuiltins x = some (.builtin id)) (ha : PA X (e :: es) t) (hn : x ≠ "__name__" := by decide) (hdb : (x == ("__debug__" : Str)) = false := by decide)
    (he : starEach (e :: es) X.env = (false, eval e X.env) :: starEach es X.env := by rfl) (hpl : (backTo pos (starEach es X.env)).any (·.1) = false := by rfl) : PE X (.Call (.Name x p) (e :: es) [] pos) (tCB r t) := by
  intro pins s σ H Q I h
  refine wpAny_Call_Name_kw (ld_blt I hg hm hv ?_ hn hdb)
  exact PyProof.Rows.callWith_builtin1 (thn (ha pos pins s σ H _ I h) fun us s1 ⟨vs, H1, I1, r1, q1⟩ => hc pins s1 σ H1 vs us Q I1 r1 q1) he hpl
/-- T(e, ..), T a built-in type -/
theorem pe_callTy (hc : CallR X (.type T) r) (hg : Gl X x) (hm : X.mg x = none) (hv : bootBuiltins x = some (.type T)) (ha : PA X (e :: es) t) (hn : x ≠ "__name__" := by decide) (hdb : (x == ("__debug__" : Str)) = false := by decide)
    (he : starEach (e :: es) X.env = (false, eval e X.env) :: starEach es X.env := by rfl) (hpl : (backTo pos (starEach es X.env)).any (·.1) = false := by rfl) : PE X (.Call (.Name x p) (e :: es) [] pos) (tCB r t) := by
  intro pins s σ H Q I h
  refine wpAny_Call_Name_kw (ld_blt I hg hm hv ?_ hn hdb)
  exact PyProof.Rows.callWith_type1 (thn (ha pos pins s σ H _ I h) fun us s1 ⟨vs, H1, I1, r1, q1⟩ => hc pins s1 σ H1 vs us Q I1 r1 q1) he hpl
/-- T() -/
theorem pe_callTy0 (hc : CallR X (.type T) r) (hg : Gl X x) (hm : X.mg x = none) (hv : bootBuiltins x = some (.type T)) (hn : x ≠ "__name__" := by decide) (hdb : (x == ("__debug__" : Str)) = false := by decide) :
    PE X (.Call (.Name x p) [] [] pos) (tCB r tNil) := by
  intro pins s σ H Q I h
  refine wpAny_Call_Name_kw (ld_blt I hg hm hv ?_ hn hdb)
  exact PyProof.Rows.callWith_type0 (hc pins s σ H [] [] Q I .nil h)
end
end L2

namespace HT
open PySem PyProof.Rows

/-- t < u of tuples of ints -/
def lexLt : List Int → List Int → Bool
  | [], [] => false
  | [], _ :: _ => true
  | _ :: _, [] => false
  | x :: xs, y :: ys => if x = y then lexLt xs ys else decide (x < y)
theorem lexLt_cons (x y : Int) (xs ys : List Int) : lexLt (x :: xs) (y :: ys) = if x = y then lexLt xs ys else decide (x < y) := rfl
theorem lexLt_nil_nil : lexLt [] [] = false := rfl
theorem lexLt_nil_cons (y : Int) (ys : List Int) : lexLt [] (y :: ys) = true := rfl
theorem lexLt_cons_nil (x : Int) (xs : List Int) : lexLt (x :: xs) [] = false := rfl

theorem eqAt_int (A : Around) (s : Shared) (a : Int) (t : Tok) (c : Int) (u : Tok) : ∃ e, SeqAt.EqAt A s (.int a t) (.int c u) e ∧ (e = true ↔ a = c) :=
  ⟨(a == c), SeqAt.EqAt.int_int a t c u, by simp⟩
theorem rcLt_int (A : Around) (s : Shared) (a : Int) (t : Tok) (c : Int) (u : Tok) (prog : Program) (w : World) (E : Value → Shared → Prop) (Q : Value → Shared → Prop) (h : Q (.bool (decide (a < c))) s) :
    wpAny (model prog w) A (richCompare .Lt (.int a t) (.int c u)) Q E s :=
  (PyProof.Rows.lt_int h : wpAny (model prog w) A (compareOp .Lt (.int a t) (.int c u)) Q E s)

section
open PySem.SeqAt
open PySem.AutoSeq1 (wpAny_loadPart')
open PySem.MeetsSeq PySem.MeetsSeq2 PySem.MeetsSeq3

theorem tuple_lt_ints (l b : Addr) (items items2 : Array Value) (n n2 : Nat) (dd dd2 : Option Addr) (sl sl2 : Array (Option Value)) (ns ms : List Int) (hi : IntsAre items.toList ns) (hj : IntsAre items2.toList ms) :
    Meets (Builtin.«tuple.__lt__» ⟨[.ref l, .ref b], []⟩)
      (fun _ R s => s.heap.get? l = some { cls := .type "tuple", dict := dd, data := .seq items n, slots := sl } ∧ s.heap.get? b = some { cls := .type "tuple", dict := dd2, data := .seq items2 n2, slots := sl2 } ∧
        R (.ok (.ret (.bool (lexLt ns ms)))) s) :=
  .of_wp fun prog w A R s h => by
    obtain ⟨hp, g, d, tk, os⟩ := s; obtain ⟨hl, hb, h⟩ := h
    have f2 := AutoSeq1.sub_tuple_tuple
    have z1 : items.size = ns.length := by rw [← hi.length]; simp
    have z2 : items2.size = ms.length := by rw [← hj.length]; simp
    wp_walk using wpAny_loadPart' hl, wpAny_loadPart' hb, wpAny_forIn_list _ (fun rest b s' => b.1 = none ∧ s' = ⟨hp, g, d, tk, os⟩ ∧ ∃ (vs ws : List Value) (ns' ms' : List Int), rest = vs.zip ws ∧
      IntsAre vs ns' ∧ IntsAre ws ms' ∧ ns'.length + items2.size = ms'.length + items.size ∧ R (.ok (.ret (.bool (lexLt ns' ms')))) ⟨hp, g, d, tk, os⟩) _
    case turn =>
      rintro ⟨y, x⟩ rest b s' ⟨hb', rfl, vs, ws, ns', ms', hz, hvi, hwi, hlen, hR⟩
      cases hvi with
      | nil => rw [List.zip_nil_left] at hz; cases hz
      | cons a t hvi' =>
        cases hwi with
        | nil => rw [List.zip_nil_right] at hz; cases hz
        | cons c u hwi' =>
          rw [List.zip_cons_cons] at hz
          injection hz with hyx hrest
          injection hyx with hy hx
          subst hy hx
          rw [lexLt_cons] at hR
          simp only [List.length_cons] at hlen
          obtain ⟨e, he, hiff⟩ := eqAt_int A.in1 ⟨hp, g, d, tk, os⟩ a t c u
          refine wpAny_bind (he prog w _ _ ?_)
          cases e with
          | true =>
            rw [if_pos (hiff.mp rfl)] at hR
            wp_walk
            exact ⟨rfl, rfl, _, _, _, _, hrest, hvi', hwi', by omega, hR⟩
          | false =>
            rw [if_neg (fun q => absurd (hiff.mpr q) Bool.false_ne_true)] at hR
            have hri := rcLt_int A.in1 ⟨hp, g, d, tk, os⟩ a t c u prog w
            wp_walk using hri
            exact ⟨_, rfl, by simpa using hR⟩
    case fin =>
      rintro ⟨b1, b2⟩ s' ⟨hb', rfl, vs, ws, ns', ms', hz, hvi, hwi, hlen, hR⟩
      simp only at hb'
      subst hb'
      have hv : lexLt ns' ms' = decide (items.size < items2.size) := by
        cases hvi with
        | nil =>
          cases hwi with
          | nil =>
            simp only [List.length_nil] at hlen
            rw [lexLt_nil_nil]
            exact (decide_eq_false (by omega)).symm
          | cons c u hw =>
            simp only [List.length_nil, List.length_cons] at hlen
            rw [lexLt_nil_cons]
            exact (decide_eq_true (by omega)).symm
        | cons a t hv =>
          cases hwi with
          | nil =>
            simp only [List.length_nil, List.length_cons] at hlen
            rw [lexLt_cons_nil]
            exact (decide_eq_false (by omega)).symm
          | cons c u hw =>
            rw [List.zip_cons_cons] at hz
            cases hz
      rw [hv] at hR
      wp_walk
      exact ⟨_, rfl, by simpa [Builtin.Tuple.tupleCompareSizes] using hR⟩
    case h =>
      exact ⟨rfl, rfl, items.toList, items2.toList, ns, ms, rfl, hi, hj, by omega, h⟩
end

section
variable {prog : Program} {w : World} {A : Around} {E : Value → Shared → Prop} {s : Shared}

theorem lt_tupInts {l b : Addr} {items items2 : Array Value} {ns ms : List Int} {Q : Value → Shared → Prop} (hl : IsTup s.heap l items) (hb : IsTup s.heap b items2) (hi : IntsAre items.toList ns) (hj : IntsAre items2.toList ms)
    (hu : A.units < cLine) (h : Q (.bool (lexLt ns ms)) s) : wpAny (model prog w) A (compareOp .Lt (.ref l) (.ref b)) Q E s := by
  obtain ⟨⟨cls, dd, data, sl⟩, ho, hc, n, hd⟩ := id hl
  obtain ⟨⟨cls2, dd2, data2, sl2⟩, ho2, hc2, n2, hd2⟩ := id hb
  simp only at hc hd hc2 hd2
  subst hc hd hc2 hd2
  exact richCompare_meets_room (op := .Lt) ⟨_, ho, rfl⟩ ⟨_, ho2, rfl⟩ PySem.F.slot_tuple_lt PySem.F.entry_tuple_lt (PySem.F.args_tuple_lt_2 _ _) (tuple_lt_ints l b items items2 n n2 dd dd2 sl sl2 ns ms hi hj)
    ⟨ho, ho2, show Value.bool (lexLt ns ms) ≠ Value.notImplemented ∧ Q (.bool (lexLt ns ms)) s from ⟨(fun x => nomatch x), h⟩⟩ hu

/-- t + u, t not empty -/
theorem cat_tup {t b : Addr} {vs ws : List Value} {Q : Value → Shared → Prop} (ht : IsTup s.heap t vs.toArray) (hb : IsTup s.heap b ws.toArray) (hv : vs ≠ [])
    (h1 : ws = [] → Q (.ref t) s) (h2 : ws ≠ [] → Q (.ref s.heap.objs.size) { s with heap := s.heap.push { cls := .type "tuple", data := .seq (vs ++ ws).toArray } })
    (hsz : vs.length + ws.length ≤ sizeLine) : wpAny (model prog w) A (binaryOp .Add (.ref t) (.ref b)) Q E s := by
  obtain ⟨⟨cls, dd, data, sl⟩, ho, hc, n, hd⟩ := id ht
  obtain ⟨⟨cls2, dd2, data2, sl2⟩, ho2, hc2, n2, hd2⟩ := id hb
  simp only at hc hd hc2 hd2
  subst hc hd hc2 hd2
  have e : vs.toArray ++ ws.toArray = (vs ++ ws).toArray := by simp
  by_cases hw : ws = []
  · exact concat_meets ⟨_, ho, rfl⟩ ⟨_, ho2, rfl⟩ noFill_tuple_add seq_tuple_add PySem.F.slot_tuple_add PySem.F.entry_tuple_add (PySem.F.args_tuple_add_2 _ _)
      (tuple_addW1 t b vs.toArray ws.toArray n n2 dd dd2 sl sl2 (by simpa using hv) (by simp [hw])) ⟨ho, ho2, h1 hw⟩
  · refine concat_meets ⟨_, ho, rfl⟩ ⟨_, ho2, rfl⟩ noFill_tuple_add seq_tuple_add PySem.F.slot_tuple_add PySem.F.entry_tuple_add (PySem.F.args_tuple_add_2 _ _)
      (tuple_addW2 t b vs.toArray ws.toArray n n2 dd dd2 sl sl2 (by simpa using hv) (by simpa using hw) (by rw [List.size_toArray, List.size_toArray]; exact hsz)) ⟨ho, ho2, ?_⟩
    rw [e]
    exact h2 hw

/-! ### t[a:b], not the whole -/
/-- a slice's bound as a place among n (d where it is left out) -/
def sIx (n d : Nat) : Option Int → Nat
  | none => d
  | some v => if v < 0 then (v + (n : Int)).toNat else min v.toNat n
theorem sIx_none (n d : Nat) : sIx n d none = d := rfl
theorem sIx_nat (n d k : Nat) : sIx n d (some (k : Int)) = min k n := by
  show (if (k : Int) < 0 then ((k : Int) + (n : Int)).toNat else min (k : Int).toNat n) = min k n
  rw [if_neg (by omega), Int.toNat_natCast]
theorem sIx_le (n d : Nat) (hd : d ≤ n) (o : Option Int) : sIx n d o ≤ n := by
  cases o with
  | none => exact hd
  | some v =>
    show (if v < 0 then (v + (n : Int)).toNat else min v.toNat n) ≤ n
    by_cases hv : v < 0
    · rw [if_pos hv]; omega
    · rw [if_neg hv]; exact Nat.min_le_right _ _
theorem clip_eq (v : Int) (n d : Nat) : (if v < 0 then max (v + (n : Int)) 0 else min v (n : Int)) = ((sIx n d (some v) : Nat) : Int) := by
  show (if v < 0 then max (v + (n : Int)) 0 else min v (n : Int)) = (((if v < 0 then (v + (n : Int)).toNat else min v.toNat n) : Nat) : Int)
  by_cases hv : v < 0
  · simp only [if_pos hv]; omega
  · simp only [if_neg hv]; omega
theorem adjust_gen (lo hi : Option Int) (n : Nat) : Builtin.Slice.sliceAdjust lo hi 1 (n : Int) = (((sIx n 0 lo : Nat) : Int), ((sIx n n hi : Nat) : Int)) := by
  have h1 : ¬ ((1 : Int) < 0) := by omega
  unfold Builtin.Slice.sliceAdjust
  simp only [h1, if_false]
  refine Prod.ext ?_ ?_
  · cases lo with
    | none => rfl
    | some v => exact clip_eq v n 0
  · cases hi with
    | none => rfl
    | some v => exact clip_eq v n n
theorem places_gen (i j : Nat) : Builtin.Slice.slicePlaces (i : Int) (j : Int) 1 = j - i := by
  unfold Builtin.Slice.slicePlaces
  have h1 : (1 : Int) > 0 := by omega
  simp only [h1, if_true, Int.ediv_one]
  split <;> omega
theorem slicePart_ {v : Value} {o : Option Int} {Q : Option Int → Shared → Prop} (p : IsPart v o) (h : Q o s) : wpAny (model prog w) A (Builtin.Slice.slicePartIndex v) Q E s := by
  cases p with
  | none => exact slicePart_none h
  | int i t => exact slicePart_int h
theorem sliceApplied_gen {sl : Addr} {vl vu : Value} {lo hi : Option Int} {n : Nat} {Q : Int × Int × Nat → Shared → Prop} (hs : s.heap.IsSliceOf sl vl vu .none) (pl : IsPart vl lo) (pu : IsPart vu hi)
    (h : Q (((sIx n 0 lo : Nat) : Int), 1, sIx n n hi - sIx n 0 lo) s) : wpAny (model prog w) A (Builtin.Slice.sliceApplied (.ref sl) (pure (n : Int))) Q E s := by
  obtain ⟨os, hos, hcs, hds⟩ := id hs
  unfold Builtin.Slice.sliceApplied Builtin.Slice.sliceFields
  refine wpAny_bind (wpAny_bind (wpAny_field hos hds (x := vl) rfl (wpAny_bind (wpAny_field hos hds (x := vu) rfl (wpAny_bind (wpAny_field hos hds (x := .none) rfl (wpAny_pure ?_)))))))
  refine wpAny_bind (slicePart_none ?_)
  show wpAny _ _ (if ((1 : Int) == 0) = true then _ else _) _ _ s
  rw [if_neg (by decide)]
  refine wpAny_bind (slicePart_ pl (wpAny_bind (slicePart_ pu (wpAny_bind (wpAny_pure ?_)))))
  show wpAny _ _ (match Builtin.Slice.sliceAdjust lo hi 1 (n : Int) with | (lo, hi) => pure (lo, (1 : Int), Builtin.Slice.slicePlaces lo hi 1)) _ _ s
  rw [adjust_gen lo hi n]
  show wpAny _ _ (pure (((sIx n 0 lo : Nat) : Int), (1 : Int), Builtin.Slice.slicePlaces ((sIx n 0 lo : Nat) : Int) ((sIx n n hi : Nat) : Int) 1)) _ _ s
  rw [places_gen]
  exact wpAny_pure h
theorem pick_gen (xs : Array Value) (i k : Nat) : ((List.range k).filterMap fun (m : Nat) => xs[((i : Int) + (m : Int) * 1).toNat]?).toArray = ((xs.toList.drop i).take k).toArray := by
  have e : (fun (m : Nat) => xs[((i : Int) + (m : Int) * 1).toNat]?) = fun m => xs[i + m]? := by
    funext m
    have : ((i : Int) + (m : Int) * 1).toNat = i + m := by omega
    rw [this]
  rw [e]
  have := pick_run xs i k
  rw [List.filterMap_map] at this
  have e2 : ((fun x => xs[x]?) ∘ fun x => i + x) = fun m => xs[i + m]? := rfl
  rw [e2] at this
  rw [this]

theorem getItem_tuple_cut {t sl : Addr} {items : Array Value} {vl vu : Value} {lo hi : Option Int} {Q : Value → Shared → Prop} (ht : IsTup s.heap t items) (hs : s.heap.IsSliceOf sl vl vu .none) (pl : IsPart vl lo) (pu : IsPart vu hi)
    (hw : ¬ (sIx items.size 0 lo = 0 ∧ sIx items.size items.size hi = items.size))
    (h : Q (.ref s.heap.objs.size) { s with heap := s.heap.push { cls := .type "tuple", data := .seq ((items.toList.drop (sIx items.size 0 lo)).take (sIx items.size items.size hi - sIx items.size 0 lo)).toArray } })
    (hsz : items.size ≤ sizeLine) : wpAny (model prog w) A (getItem (.ref t) (.ref sl)) Q E s := by
  have htake : sizeOk (.seq ((items.toList.drop (sIx items.size 0 lo)).take (sIx items.size items.size hi - sIx items.size 0 lo)).toArray) := by
    show ((items.toList.drop (sIx items.size 0 lo)).take (sIx items.size items.size hi - sIx items.size 0 lo)).toArray.size ≤ sizeLine
    rw [List.size_toArray, List.length_take, List.length_drop, Array.length_toList]
    omega
  have hj : sIx items.size items.size hi ≤ items.size := sIx_le _ _ (Nat.le_refl _) hi
  obtain ⟨os, hos, hcs, hds⟩ := id hs
  have hTs : s.TypeIs (.ref sl) "slice" := ⟨os, hos, hcs⟩
  unfold getItem
  try with_reducible refine wpAny_holding ?_
  first | refine wpAny_bind (wpAny_pure ?_) | skip
  refine wpAny_bind (wpAny_sequenceKey ht.typeIs (by decide) ?_)
  refine wpAny_bind (wpAny_callSpecial?_slot (name := Str.ofString "__getitem__") ht.typeIs PyProof.Rows.slot_tuple_getitem
    (wpAny_call_entry PyProof.Rows.slot_tuple_getitem ht.typeIs entry_tuple_getitem ?_ (args_tuple_getitem _ _)))
  show wpAny _ _ (Builtin.Tuple.tupleItemsOf (.ref t) >>= _) _ _ s
  refine wpAny_bind (tupleItemsOf_ ht ?_)
  refine wpAny_bind (wpAny_typeOf hTs ?_)
  rw [if_pos (by decide)]
  refine wpAny_bind (sliceApplied_gen hs pl pu ?_)
  have hno : ¬ ((((sIx items.size 0 lo : Nat) : Int) == 0 && (1 : Int) == 1 && (sIx items.size items.size hi - sIx items.size 0 lo) == items.size) = true) := by
    intro q
    rw [Bool.and_eq_true, Bool.and_eq_true] at q
    have q1 : ((sIx items.size 0 lo : Nat) : Int) = 0 := eq_of_beq q.1.1
    have q2 : sIx items.size items.size hi - sIx items.size 0 lo = items.size := eq_of_beq q.2
    exact hw ⟨by omega, by omega⟩
  show wpAny _ _ (if (((sIx items.size 0 lo : Nat) : Int) == 0 && (1 : Int) == 1 && (sIx items.size items.size hi - sIx items.size 0 lo) == items.size) = true then _ else _) _ _ s
  rw [if_neg hno, pick_gen]
  first
    | exact wpAny_bind (m := Builtin.Tuple.tupleExact _) (wpAny_newObj_type (wpAny_pure ⟨_, rfl, wpAny_pure h⟩) htake)
    | exact wpAny_bind (m := Builtin.Tuple.tupleExact _) (wpAny_newObj_type (wpAny_bind (wpAny_pure (wpAny_pure ⟨_, rfl, wpAny_pure h⟩))) htake)
    | exact wpAny_bind (wpAny_bind (m := Builtin.Tuple.tupleExact _) (wpAny_newObj_type (wpAny_pure (wpAny_pure ⟨_, rfl, wpAny_pure h⟩)) htake))
    | exact wpAny_bind (wpAny_bind (m := Builtin.Tuple.tupleExact _) (wpAny_newObj_type (wpAny_pure ⟨_, rfl, wpAny_pure h⟩) htake))
end
end HT

namespace L2
open PySem PySem.Spec PyProof.Rows

/-! ### the parts of a slice -/
abbrev TO := St → Hp → (Option Int → Hp → Prop) → Prop
/-- a slice's part (left out, or an int) -/
def PO (X : Cx) (e : Option Expr) (t : TO) : Prop :=
  ∀ (pins : List (Addr × Obj)) (s : Shared) (σ : St) (H : Hp) (Q : Option Int → Hp → Prop), Inv X pins σ H s → t σ H Q →
    wpAny (model X.prog X.w) X.A (evalPart e X.env) (fun u s' => ∃ o H', Inv X pins σ H' s' ∧ IsPart u o ∧ Q o H') X.xe s
def tNoPart : TO := fun _ H Q => Q none H
def tPart (t : TE) : TO := fun σ H Q => t σ H fun x H1 => ∃ i, x = .int i ∧ Q (some i) H1

theorem intsAre_of {ns : List Int} : ∀ {us : List Value}, Vals (ns.map V.int) us → IntsAre us ns := by
  induction ns with
  | nil => intro us r; rw [List.map_nil] at r; cases r; exact .nil
  | cons n ns ih =>
    intro us r
    rw [List.map_cons] at r
    cases r with
    | cons r1 r2 =>
      obtain ⟨t, e⟩ := r1
      subst e
      exact .cons n t (ih r2)

section
variable {X : Cx} {e : Expr} {te : TE} {lo hi : Option Expr} {tl th : TO} {pos p2 : Pos}

theorem po_none : PO X none tNoPart := by
  intro pins s σ H Q I h
  rw [evalPart_none]
  exact wpAny_pure ⟨none, H, I, .none, h⟩
theorem po_some (h : PE X e te) : PO X (some e) (tPart te) := by
  intro pins s σ H Q I hw
  rw [evalPart_some]
  refine thn (h pins s σ H _ I hw) fun u s1 ⟨x, H1, I1, r1, q1⟩ => ?_
  obtain ⟨i, rfl, q⟩ := q1
  obtain ⟨t, rfl⟩ := r1
  exact ⟨some i, H1, I1, .int i t, q⟩

/-- what a slice of a value is, by values: the slice object stands at sl -/
def SlR (X : Cx) (r : V → Option Int → Option Int → Hp → VK → Prop) : Prop :=
  ∀ (pins : List (Addr × Obj)) (s : Shared) (σ : St) (H : Hp) (x : V) (v vl vu : Value) (lo hi : Option Int) (sl : Addr) (Q : VK), Inv X pins σ H s → RelV x v → s.heap.IsSliceOf sl vl vu .none → IsPart vl lo → IsPart vu hi → r x lo hi H Q →
    ∃ T id, typeLookup (.type T) "__getitem__" = pure (some (.builtin id)) ∧ s.TypeIs v T ∧ wpAny (model X.prog X.w) X.A (getItem v (.ref sl)) (EP X pins σ Q) X.xe s
theorem SlR.or {r r' : V → Option Int → Option Int → Hp → VK → Prop} (h : SlR X r) (h' : SlR X r') : SlR X (fun x lo hi H Q => r x lo hi H Q ∨ r' x lo hi H Q) := by
  intro pins s σ H x v vl vu lo hi sl Q I rx hs pl pu q
  rcases q with q | q
  · exact h pins s σ H x v vl vu lo hi sl Q I rx hs pl pu q
  · exact h' pins s σ H x v vl vu lo hi sl Q I rx hs pl pu q
def tSl (r : V → Option Int → Option Int → Hp → VK → Prop) (te : TE) (tl th : TO) : TE := fun σ H Q => te σ H fun x H1 => tl σ H1 fun l H2 => th σ H2 fun u H3 => r x l u H3 Q
/-- a[lo:hi], any a -/
theorem pe_slice {r : V → Option Int → Option Int → Hp → VK → Prop} (hr : SlR X r) (he : PE X e te) (hl : PO X lo tl) (hu : PO X hi th) : PE X (.Subscript e (.Slice lo hi none p2) pos) (tSl r te tl th) := by
  intro pins s σ H Q I h
  refine Subscript_ (thn (he pins s σ H _ I h) fun v s1 ⟨x, H1, I1, r1, q1⟩ => ?_)
  refine wpAny_Slice (thn (hl pins s1 σ H1 _ I1 q1) fun vl s2 ⟨l, H2, I2, pl, q2⟩ => thn (hu pins s2 σ H2 _ I2 q2) fun vu s3 ⟨u, H3, I3, pu, q3⟩ => ?_)
  rw [evalPart_none]
  refine wpAny_pure ?_
  have I4 : Inv X pins σ H3 { s3 with heap := s3.heap.push { cls := .type "slice", data := .fields #[vl, vu, .none] } } := I3.kept (t' := s3.toks) fun b ob q => Heap.get?_push_of_some _ q
  obtain ⟨T, id, hT, ht, hg⟩ := hr pins { s3 with heap := s3.heap.push { cls := .type "slice", data := .fields #[vl, vu, .none] } } σ H3 x v vl vu l u s3.heap.objs.size Q I4 r1 (Heap.IsSliceOf.new ..) pl pu q3
  show wpAny (model X.prog X.w) X.A (subscriptTail e (.Slice lo hi none p2) v (.ref s3.heap.objs.size)) (EP X pins σ Q) X.xe { s3 with heap := s3.heap.push { cls := .type "slice", data := .fields #[vl, vu, .none] } }
  exact tail_any (ops := [.ref s3.heap.objs.size, v]) ht hT hg (by with_unfolding_all rfl)

/-- the items of xs[lo:hi] -/
def cutV (xs : List V) (lo hi : Option Int) : List V := (xs.drop (HT.sIx xs.length 0 lo)).take (HT.sIx xs.length xs.length hi - HT.sIx xs.length 0 lo)
theorem cutV_length (xs : List V) (lo hi : Option Int) : (cutV xs lo hi).length ≤ xs.length := by
  unfold cutV
  rw [List.length_take, List.length_drop]
  omega
/-- t[lo:hi], not the whole of it (the whole would be t itself) -/
def rSlT (K : PySem.W.Frag) : V → Option Int → Option Int → Hp → VK → Prop := fun x lo hi H Q => ∃ a xs, x = .ref a ∧ SqT K H a xs ∧
  ¬ (HT.sIx xs.length 0 lo = 0 ∧ HT.sIx xs.length xs.length hi = xs.length) ∧ ∀ p, H p = none → Q (.ref p) (upd H p (.tup (cutV xs lo hi)))
theorem sl_tup : SlR X (rSlT X.K) := by
  intro pins s σ H x v vl vu lo hi sl Q I rx hs pl pu h
  obtain ⟨a, xs, rfl, hx, hw, q⟩ := h
  cases rx
  obtain ⟨its, r, ht, hz⟩ := I.tuple hx
  have hlen : its.toArray.size = xs.length := by rw [List.size_toArray]; exact r.length.symm
  refine ⟨"tuple", _, PyProof.Rows.slot_tuple_getitem.lookup, ht.typeIs, ?_⟩
  refine HT.getItem_tuple_cut ht hs pl pu (by rw [hlen]; exact hw) ?_ (by rw [hlen]; exact hz)
  rw [hlen]
  refine ⟨.ref s.heap.objs.size, _, I.laid (t' := s.toks) (o := .tup (cutV xs lo hi)) (fun b ob q => Heap.get?_push_of_some _ q) (Nat.le_refl _) ?_, rfl, q _ (I.hok.fresh (Nat.le_refl _))⟩
  exact ⟨Nat.le_trans (cutV_length xs lo hi) hz, _, (r.drop (HT.sIx xs.length 0 lo)).take (HT.sIx xs.length xs.length hi - HT.sIx xs.length 0 lo), IsTup.new _ _⟩

/-! ### t < u, t + u -/
def rLtT (K : PySem.W.Frag) : R2 := fun x y H Q => ∃ a b ns ms, x = .ref a ∧ y = .ref b ∧ SqT K H a (ns.map V.int) ∧ SqT K H b (ms.map V.int) ∧ Q (.bl (HT.lexLt ns ms)) H
theorem op_ltT (hu : X.A.units < cLine) : OpR X (compareOp .Lt) (rLtT X.K) := by
  intro pins s σ H x y v u Q I rx ry h
  obtain ⟨a, b, ns, ms, rfl, rfl, ha, hb, q⟩ := h
  cases rx
  cases ry
  obtain ⟨its, r1, p1, _⟩ := I.tuple ha
  obtain ⟨its2, r2, p2, _⟩ := I.tuple hb
  have i1 : IntsAre its.toArray.toList ns := intsAre_of r1
  have i2 : IntsAre its2.toArray.toList ms := intsAre_of r2
  exact HT.lt_tupInts p1 p2 i1 i2 hu ⟨.bl (HT.lexLt ns ms), H, I, rfl, q⟩
/-- t + u, t not empty: u empty gives t itself -/
def rCatT (K : PySem.W.Frag) : R2 := fun x y H Q => ∃ a b xs ys, x = .ref a ∧ y = .ref b ∧ SqT K H a xs ∧ SqT K H b ys ∧ xs ≠ [] ∧ xs.length + ys.length ≤ sizeLine ∧
  (ys = [] → Q (.ref a) H) ∧ (ys ≠ [] → ∀ p, H p = none → Q (.ref p) (upd H p (.tup (xs ++ ys))))
theorem Vals.nil_iff {xs : List V} {us : List Value} (r : Vals xs us) : us = [] ↔ xs = [] := by
  cases r with
  | nil => simp
  | cons _ _ => simp
theorem op_catT : OpR X (binaryOp .Add) (rCatT X.K) := by
  intro pins s σ H x y v u Q I rx ry h
  obtain ⟨a, b, xs, ys, rfl, rfl, ha, hb, hx, hz, q1, q2⟩ := h
  cases rx
  cases ry
  obtain ⟨its, r1, p1, _⟩ := I.tuple ha
  obtain ⟨its2, r2, p2, _⟩ := I.tuple hb
  refine HT.cat_tup p1 p2 (fun z => hx (r1.nil_iff.mp z)) (fun z => ⟨.ref a, H, I, rfl, q1 (r2.nil_iff.mp z)⟩) (fun z => ?_) (by rw [← r1.length, ← r2.length]; exact hz)
  refine ⟨.ref s.heap.objs.size, _, I.laid (t' := s.toks) (o := .tup (xs ++ ys)) (fun b ob q => Heap.get?_push_of_some _ q) (Nat.le_refl _) ?_, rfl, q2 (fun w => z (r2.nil_iff.mpr w)) _ (I.hok.fresh (Nat.le_refl _))⟩
  exact ⟨by rw [List.length_append]; exact hz, _, r1.append r2, IsTup.new _ _⟩
/-- tuple(t) -/
theorem call_tupleT : CallR X (.type "tuple") (fun xs H Q => ∃ a ys, xs = [.ref a] ∧ SqT X.K H a ys ∧ Q (.ref a) H) := by
  intro pins s σ H xs us Q I r h
  obtain ⟨a, ys, rfl, ha, q⟩ := h
  obtain ⟨u, rfl, ru⟩ := vals1 r
  cases ru
  obtain ⟨its, _, p1, _⟩ := I.tuple ha
  exact call_tuple_same (items := its.toArray) p1 ⟨.ref a, H, I, rfl, q⟩
end
end L2

namespace L2
open PySem PySem.Spec PyProof.Rows

/-! ### places -/
/-- the place that an index of any sign means -/
def ixN (n : Nat) (i : Int) : Option Nat := if 0 ≤ i then (if i < n then some i.toNat else none) else if -(n : Int) ≤ i then some (i + n).toNat else none
def atI {α : Type} (xs : List α) (i : Int) : Option α := (ixN xs.length i).bind fun j => xs[j]?
theorem ixN_seq {n : Nat} {i : Int} {j : Nat} (h : ixN n i = some j) : seqIndex? i n = some j ∧ j < n ∧ -(n : Int) ≤ i ∧ i < n := by
  unfold ixN at h
  by_cases h0 : 0 ≤ i
  · rw [if_pos h0] at h
    by_cases h1 : i < n
    · rw [if_pos h1] at h
      have e : i.toNat = j := Option.some.inj h
      exact ⟨by rw [seqIndex_of h0 h1, e], by omega, by omega, h1⟩
    · rw [if_neg h1] at h; cases h
  · rw [if_neg h0] at h
    by_cases h1 : -(n : Int) ≤ i
    · rw [if_pos h1] at h
      have e : (i + n).toNat = j := Option.some.inj h
      exact ⟨by rw [seqIndex_neg (by omega) h1, e], by omega, h1, by omega⟩
    · rw [if_neg h1] at h; cases h
theorem atI_get {α : Type} {xs : List α} {i : Int} {v : α} (h : atI xs i = some v) : ∃ j, seqIndex? i xs.length = some j ∧ xs[j]? = some v ∧ j < xs.length ∧ -(xs.length : Int) ≤ i ∧ i < xs.length := by
  unfold atI at h
  cases e : ixN xs.length i with
  | none => rw [e] at h; cases h
  | some j =>
    rw [e] at h
    obtain ⟨h1, h2, h3, h4⟩ := ixN_seq e
    exact ⟨j, h1, h, h2, h3, h4⟩
theorem atI_nat {α : Type} {xs : List α} {j : Nat} {v : α} (h : xs[j]? = some v) : atI xs (j : Int) = some v := by
  have hj : j < xs.length := (List.getElem?_eq_some_iff.mp h).1
  have e : ixN xs.length (j : Int) = some j := by
    unfold ixN
    rw [if_pos (by omega), if_pos (by omega)]; simp
  unfold atI; rw [e]; exact h
theorem atI_last {α : Type} (xs : List α) (v : α) : atI (xs ++ [v]) (-1) = some v := by
  have hl : (xs ++ [v]).length = xs.length + 1 := by simp
  have e : ixN (xs ++ [v]).length (-1) = some xs.length := by
    unfold ixN
    rw [hl, if_neg (by decide), if_pos (by omega)]
    congr 1
    omega
  unfold atI
  rw [e]
  show (xs ++ [v])[xs.length]? = some v
  simp

/-! ### what may be subscripted -/
/-- what stands as an index of a plain subscript -/
def PlainIx (b : Expr) : Prop := ∀ o i, subscripted b false o i = operate [o, i] (getItem o i)
/-- a subscript by values -/
def IxR (X : Cx) (r : R2) : Prop :=
  ∀ (value slice : Expr) (pins : List (Addr × Obj)) (s : Shared) (σ : St) (H : Hp) (x y : V) (v u : Value) (Q : VK), Inv X pins σ H s → RelV x v → RelV y u → r x y H Q →
    subscripted slice false v u = operate [v, u] (getItem v u) → wpAny (model X.prog X.w) X.A (subscriptTail value slice v u) (EP X pins σ Q) X.xe s
/-- a call of a builtin's method by values: the receiver, the arguments -/
def MtR (X : Cx) (id : String) (r : V → List V → Hp → VK → Prop) : Prop :=
  ∀ (pins : List (Addr × Obj)) (s : Shared) (σ : St) (H : Hp) (x : V) (xs : List V) (v : Value) (us : List Value) (Q : VK), Inv X pins σ H s → RelV x v → Vals xs us → r x xs H Q →
    wpAny (model X.prog X.w) X.A (call (.builtin id) (v :: us)) (EP X pins σ Q) X.xe s
section
variable {X : Cx} {a b : Expr} {ta tb : TE} {pos : Pos}
theorem IxR.or {r r' : R2} (h : IxR X r) (h' : IxR X r') : IxR X (fun x y H Q => r x y H Q ∨ r' x y H Q) := by
  intro value slice pins s σ H x y v u Q I rx ry q hs
  rcases q with q | q
  · exact h value slice pins s σ H x y v u Q I rx ry q hs
  · exact h' value slice pins s σ H x y v u Q I rx ry q hs
theorem MtR.or {id : String} {r r' : V → List V → Hp → VK → Prop} (h : MtR X id r) (h' : MtR X id r') : MtR X id (fun x xs H Q => r x xs H Q ∨ r' x xs H Q) := by
  intro pins s σ H x xs v us Q I rx rs q
  rcases q with q | q
  · exact h pins s σ H x xs v us Q I rx rs q
  · exact h' pins s σ H x xs v us Q I rx rs q
/-- a[b] -/
theorem pe_ix {r : R2} (hr : IxR X r) (ha : PE X a ta) (hb : PE X b tb) (hs : PlainIx b) : PE X (.Subscript a b pos) (tOp r ta tb) := by
  intro pins s σ H Q I h
  exact Subscript_ (binT ha hb I h fun v u s2 x y H2 I2 rx ry q => hr a b pins s2 σ H2 x y v u Q I2 rx ry q (hs _ _))

def rIxL (K : PySem.W.Frag) : R2 := fun x y H Q => ∃ p xs i v, x = .ref p ∧ y = .int i ∧ SqL K H p xs ∧ atI xs i = some v ∧ Q v H
def rIxT (K : PySem.W.Frag) : R2 := fun x y H Q => ∃ p xs i v, x = .ref p ∧ y = .int i ∧ SqT K H p xs ∧ atI xs i = some v ∧ Q v H
def rIxS : R2 := fun x y H Q => ∃ z i c, x = .str z ∧ y = .int i ∧ z.length ≤ sizeLine ∧ atI z.cps.toList i = some c ∧ Q (.str ⟨#[c]⟩) H
theorem ix_list : IxR X (rIxL X.K) := by
  intro value slice pins s σ H x y v u Q I rx ry h hs
  obtain ⟨p, xs, i, z, rfl, rfl, hq, he, q⟩ := h
  cases rx
  obtain ⟨t, rfl⟩ := ry
  obtain ⟨its, r, pl, hz⟩ := I.list hq
  obtain ⟨j, h1, h2, h3, h4, h5⟩ := atI_get he
  obtain ⟨w, ew, rw'⟩ := r.get h2
  have hl := r.length
  have hn := line63
  have fin : EP X pins σ Q w s := ⟨z, H, I, rw', q⟩
  by_cases h0 : 0 ≤ i
  · have hj : i.toNat = j := by
      rw [seqIndex_of h0 h5] at h1
      exact Option.some.inj h1
    exact item_listR pl.isList h0 (by omega) (by rw [hj]; simpa using ew) fin hs
  · have hj : (i + (its.toArray.size : Int)).toNat = j := by
      rw [seqIndex_neg (by omega) h4] at h1
      rw [List.size_toArray, ← hl]
      exact Option.some.inj h1
    exact subscriptTail_builtinR (x := w) pl.isList.typeIs slot_list_getitem.lookup
      (wpAny_getItem_list_neg (Q := fun r s' => r = w ∧ EP X pins σ Q r s') pl.isList (by omega) (by rw [List.size_toArray] <;> omega) (by omega) (by rw [hj]; simpa using ew) ⟨rfl, fin⟩) hs
theorem ix_tup : IxR X (rIxT X.K) := by
  intro value slice pins s σ H x y v u Q I rx ry h hs
  obtain ⟨p, xs, i, z, rfl, rfl, hq, he, q⟩ := h
  cases rx
  obtain ⟨t, rfl⟩ := ry
  obtain ⟨its, r, pl, hz⟩ := I.tuple hq
  obtain ⟨j, h1, h2, h3, h4, h5⟩ := atI_get he
  obtain ⟨w, ew, rw'⟩ := r.get h2
  have hl := r.length
  have hn := line63
  have fin : EP X pins σ Q w s := ⟨z, H, I, rw', q⟩
  exact subscriptTail_builtinR (x := w) pl.typeIs slot_tuple_getitem.lookup
    (getItem_tuple (j := j) (Q := fun r s' => r = w ∧ EP X pins σ Q r s') pl (by omega) (by omega) (by rw [List.size_toArray, ← hl]; exact h1) (by simpa using ew) ⟨rfl, fin⟩) hs
theorem ix_str : IxR X rIxS := by
  intro value slice pins s σ H x y v u Q I rx ry h hs
  obtain ⟨z, i, c, rfl, rfl, hz, he, q⟩ := h
  obtain ⟨t, rfl⟩ := rx
  obtain ⟨t', rfl⟩ := ry
  obtain ⟨j, h1, h2, h3, h4, h5⟩ := atI_get he
  have hl : z.cps.toList.length = z.length := by simp [Str.length]
  rw [hl] at h1 h4 h5
  have hn := line63
  exact tail_any (typeIs_str s z t) slot_str_getitem.lookup (getItem_str (c := c) (by
    have e1 : decide (i < -(2 ^ 63 : Int)) = false := decide_eq_false (by omega)
    have e2 : decide (i ≥ 2 ^ 63) = false := decide_eq_false (by omega)
    rw [e1, e2, Bool.or_false]) (by rw [h1]; simpa using h2) ⟨.str ⟨#[c]⟩, H, I.tok _, ⟨_, rfl⟩, q⟩) hs
/-- list, tuple or str -/
def rIx (K : PySem.W.Frag) : R2 := fun x y H Q => rIxL K x y H Q ∨ rIxT K x y H Q ∨ rIxS x y H Q
theorem ix_seq : IxR X (rIx X.K) := ix_list.or (ix_tup.or ix_str)

/-! ### xs[i] = v, any sign -/
/-- the list's object behind a store -/
theorem mapSeq_set (its : List Value) (n j : Nat) (u : Value) : Obj.mapSeq (·.setIfInBounds j u) { cls := .type "list", data := .seq its.toArray n } = { cls := .type "list", data := .seq (its.set j u).toArray n } := by
  simp [Obj.mapSeq]
theorem Inv.lst {pins : List (Addr × Obj)} {σ : St} {H : Hp} {s : Shared} {p : Addr} {xs : List V} (I : Inv X pins σ H s) (h : H p = some (.lst xs)) :
    ∃ (its : List Value) (n : Nat), Vals xs its ∧ s.heap.get? p = some { cls := .type "list", data := .seq its.toArray n } ∧ xs.length ≤ sizeLine := by
  obtain ⟨z, its, n, r, e⟩ := I.hok p _ h
  exact ⟨its, n, r, e, z⟩
/-- the list at p is written by an update of its object -/
theorem Inv.lstUpd {pins : List (Addr × Obj)} {σ : St} {H : Hp} {s : Shared} {p : Addr} {xs ys : List V} {its its' : List Value} {n n' : Nat} {f : Obj → Obj} (I : Inv X pins σ H s) (h : H p = some (.lst xs))
    (ho : s.heap.get? p = some { cls := .type "list", data := .seq its.toArray n }) (hf : f { cls := .type "list", data := .seq its.toArray n } = { cls := .type "list", data := .seq its'.toArray n' }) (r : Vals ys its') (hz : ys.length ≤ sizeLine) (t : Nat) :
    Inv X pins σ (upd H p (.lst ys)) { s with heap := s.heap.update p f, toks := t } := by
  have e : (s.heap.update p f).get? p = some { cls := .type "list", data := .seq its'.toArray n' } := by
    rw [Heap.get?_update_self f ho (by rw [hf] <;> rfl), hf]
  refine I.write (x := p) (e := p) (by rw [h]; trivial) (.inl rfl) (fun b u hb q => (Heap.get?_update_other _ _ (Ne.symm hb)).trans q) ⟨_, e⟩ ?_
  exact ⟨hz, its', n', r, e⟩
def rSetL : V → V → V → Hp → (Hp → Prop) → Prop := fun o i v H Q => ∃ p xs k j, o = .ref p ∧ i = .int k ∧ H p = some (.lst xs) ∧ ixN xs.length k = some j ∧ Q (upd H p (.lst (xs.set j v)))
theorem set_list : PSet X rSetL := by
  intro pins s σ H o i v ov iv u Q I ro ri rv h
  obtain ⟨p, xs, k, j, rfl, rfl, hp, hj, q⟩ := h
  cases ro
  obtain ⟨t, rfl⟩ := ri
  obtain ⟨its, n, r, ho, hz⟩ := I.lst hp
  obtain ⟨h1, h2, h3, h4⟩ := ixN_seq hj
  have hl := r.length
  have hn := line63
  have I' : Inv X pins σ (upd H p (.lst (xs.set j v))) { s with heap := s.heap.update p (Obj.mapSeq (·.setIfInBounds j u)) } :=
    I.lstUpd hp ho (mapSeq_set its n j u) (r.set rv j) (by rw [List.length_set]; exact hz) s.toks
  by_cases h0 : 0 ≤ k
  · have hk : k.toNat = j := by
      rw [seqIndex_of h0 h4] at h1
      exact Option.some.inj h1
    exact PySem.W.ki_setAt ho h0 (by omega) (by rw [List.size_toArray, ← hl]; exact h4) (by rw [hk]; exact ⟨_, I', q⟩)
  · have hk : (k + (its.toArray.size : Int)).toNat = j := by
      rw [seqIndex_neg (by omega) h3] at h1
      rw [List.size_toArray, ← hl]
      exact Option.some.inj h1
    exact PySem.W.ki_setBack ho (by omega) (by rw [List.size_toArray, ← hl]; exact h3) (by omega) (by rw [hk]; exact ⟨_, I', q⟩)

/-! ### slices -/
theorem slice_bounds (lo hi : Option Int) (n : Nat) : (sliceBounds lo hi none n).1 = ((HT.sIx n 0 lo : Nat) : Int) ∧ (sliceBounds lo hi none n).2.1 = ((HT.sIx n n hi : Nat) : Int) ∧ (sliceBounds lo hi none n).2.2 = 1 := by
  refine ⟨?_, ?_, rfl⟩
  · cases lo with
    | none => simp [sliceBounds, HT.sIx]
    | some i =>
      simp only [sliceBounds, HT.sIx, Option.getD_none, show (1 : Int) > 0 by decide, if_true]
      by_cases h : i < 0
      · simp only [h, if_true] <;> omega
      · simp only [h, if_false] <;> omega
  · cases hi with
    | none => simp [sliceBounds, HT.sIx]
    | some i =>
      simp only [sliceBounds, HT.sIx, Option.getD_none, show (1 : Int) > 0 by decide, if_true]
      by_cases h : i < 0
      · simp only [h, if_true] <;> omega
      · simp only [h, if_false] <;> omega
theorem slicePick_cut (its : List Value) (lo hi : Option Int) : slicePick its.toArray lo hi none = ((its.drop (HT.sIx its.length 0 lo)).take (HT.sIx its.length its.length hi - HT.sIx its.length 0 lo)).toArray := by
  obtain ⟨h1, h2, h3⟩ := slice_bounds lo hi its.toArray.size
  unfold slicePick
  rw [h1, h2, h3]
  simp only [sliceRange_one, pick_run, List.size_toArray] <;> rfl
/-- xs[lo:hi] of a list: a new list -/
def rSlL (K : PySem.W.Frag) : V → Option Int → Option Int → Hp → VK → Prop := fun x lo hi H Q => ∃ a xs, x = .ref a ∧ SqL K H a xs ∧ ∀ p, H p = none → Q (.ref p) (upd H p (.lst (cutV xs lo hi)))
theorem sl_list : SlR X (rSlL X.K) := by
  intro pins s σ H x v vl vu lo hi sl Q I rx hs pl pu h
  obtain ⟨a, xs, rfl, hx, q⟩ := h
  cases rx
  obtain ⟨its, r, ht, hz⟩ := I.list hx
  have hlen := r.length
  refine ⟨"list", _, slot_list_getitem.lookup, ht.isList.typeIs, ?_⟩
  refine wpAny_getItem_list_slice ht.isList hs pl pu .none (by simp) ?_ (by rw [List.size_toArray] <;> omega)
  rw [slicePick_cut, ← hlen]
  refine ⟨.ref s.heap.objs.size, _, I.laid (t' := s.toks) (o := .lst (cutV xs lo hi)) (fun b ob q => Heap.get?_push_of_some _ q) (Nat.le_refl _) ?_, rfl, q _ (I.hok.fresh (Nat.le_refl _))⟩
  exact ⟨Nat.le_trans (cutV_length xs lo hi) hz, _, 0, (r.drop (HT.sIx xs.length 0 lo)).take (HT.sIx xs.length xs.length hi - HT.sIx xs.length 0 lo), Heap.get?_push_size _ rfl⟩

/-! ### in, not in: flat items -/
def flatV : V → Bool
  | .non => true
  | .bl _ => true
  | .int _ => true
  | .str _ => true
  | _ => false
/-- == of flat values -/
def eqV : V → V → Bool
  | .non, .non => true
  | .bl a, .bl b => a == b
  | .bl a, .int b => (if a then 1 else 0) == b
  | .int a, .bl b => a == (if b then 1 else 0)
  | .int a, .int b => a == b
  | .str a, .str b => a == b
  | _, _ => false
theorem eqAt_V {A : Around} {s : Shared} {y x : V} {u v : Value} (ry : RelV y u) (rx : RelV x v) (fy : flatV y = true) (fx : flatV x = true) : SeqAt.EqAt A s u v (eqV y x) := by
  cases y with
  | non =>
    cases ry
    cases x with
    | non => cases rx; exact SeqAt.EqAt.same _
    | bl b => cases rx; exact SeqAt.EqAt.none_bool b
    | int b => obtain ⟨t, rfl⟩ := rx; exact SeqAt.EqAt.none_int b t
    | str b => obtain ⟨t, rfl⟩ := rx; exact SeqAt.EqAt.none_str b t
    | _ => exact absurd (show false = true from fx) Bool.false_ne_true
  | bl a =>
    cases ry
    cases x with
    | non => cases rx; exact SeqAt.EqAt.bool_none a
    | bl b => cases rx; exact SeqAt.EqAt.bool_bool a b
    | int b => obtain ⟨t, rfl⟩ := rx; exact SeqAt.EqAt.bool_int a b t
    | str b => obtain ⟨t, rfl⟩ := rx; exact SeqAt.EqAt.bool_str a b t
    | _ => exact absurd (show false = true from fx) Bool.false_ne_true
  | int a =>
    obtain ⟨t', rfl⟩ := ry
    cases x with
    | non => cases rx; exact SeqAt.EqAt.int_none a t'
    | bl b => cases rx; exact SeqAt.EqAt.int_bool a t' b
    | int b => obtain ⟨t, rfl⟩ := rx; exact SeqAt.EqAt.int_int a t' b t
    | str b => obtain ⟨t, rfl⟩ := rx; exact SeqAt.EqAt.int_str a t' b t
    | _ => exact absurd (show false = true from fx) Bool.false_ne_true
  | str a =>
    obtain ⟨t', rfl⟩ := ry
    cases x with
    | non => cases rx; exact SeqAt.EqAt.str_none a t'
    | bl b => cases rx; exact SeqAt.EqAt.str_bool a t' b
    | int b => obtain ⟨t, rfl⟩ := rx; exact SeqAt.EqAt.str_int a t' b t
    | str b => obtain ⟨t, rfl⟩ := rx; exact SeqAt.EqAt.str_str a t' b t
    | _ => exact absurd (show false = true from fx) Bool.false_ne_true
  | _ => exact absurd (show false = true from fy) Bool.false_ne_true
/-- the items' answers, read off the values (a value's own answer does not lean on its token) -/
def eqU (x : V) (u : Value) : Bool := match u with
  | .none => eqV .non x
  | .bool b => eqV (.bl b) x
  | .int i _ => eqV (.int i) x
  | .str z _ => eqV (.str z) x
  | _ => false
theorem eqU_of {x y : V} {u : Value} (r : RelV y u) (f : flatV y = true) : eqU x u = eqV y x := by
  cases y with
  | non => cases r; rfl
  | bl b => cases r; rfl
  | int i => obtain ⟨t, rfl⟩ := r; rfl
  | str z => obtain ⟨t, rfl⟩ := r; rfl
  | _ => exact absurd (show false = true from f) Bool.false_ne_true
theorem any_eqU {x : V} : ∀ {xs : List V} {us : List Value}, Vals xs us → xs.all flatV = true → us.any (eqU x) = xs.any fun y => eqV y x
  | _, _, .nil, _ => rfl
  | y :: xs, u :: us, .cons r t, f => by
    rw [List.all_cons, Bool.and_eq_true] at f
    rw [List.any_cons, List.any_cons, eqU_of r f.1, any_eqU t f.2]
theorem mem_eqAt {A : Around} {s : Shared} {x : V} {v : Value} (rx : RelV x v) (fx : flatV x = true) : ∀ {xs : List V} {us : List Value}, Vals xs us → xs.all flatV = true → ∀ u ∈ us, SeqAt.EqAt A s u v (eqU x u)
  | _, _, .nil, _ => fun u hu => by cases hu
  | y :: xs, u :: us, .cons r t, f => fun u' hu => by
    rw [List.all_cons, Bool.and_eq_true] at f
    rcases List.mem_cons.mp hu with rfl | hu
    · rw [eqU_of r f.1]; exact eqAt_V r rx f.1 fx
    · exact mem_eqAt rx fx t f.2 u' hu
def inV (x : V) (xs : List V) : Bool := xs.any fun y => eqV y x
/-- x in a list or tuple of flat items -/
def rIn (K : PySem.W.Frag) (neg : Bool) : R2 := fun x y H Q => ∃ p xs, y = .ref p ∧ (SqL K H p xs ∨ SqT K H p xs) ∧ flatV x = true ∧ xs.all flatV = true ∧ Q (.bl (if neg then !inV x xs else inV x xs)) H
theorem op_in_seq : OpR X (compareOp .In) (rIn X.K false) := by
  intro pins s σ H x y v u Q I rx ry h
  obtain ⟨p, xs, rfl, hq, fx, fs, q⟩ := h
  cases ry
  rcases hq with hq | hq
  · obtain ⟨its, r, pl, hz⟩ := I.list hq
    refine SeqAt.in_listAt (eqU x) pl.isList (fun w hw => mem_eqAt rx fx r fs w (by simpa using hw)) ⟨.bl _, H, I, rfl, ?_⟩
    rw [show its.toArray.any (eqU x) = its.any (eqU x) by simp, any_eqU r fs]
    exact q
  · obtain ⟨its, r, pl, hz⟩ := I.tuple hq
    refine SeqAt.in_tupleAt (eqU x) pl (fun w hw => mem_eqAt rx fx r fs w (by simpa using hw)) ⟨.bl _, H, I, rfl, ?_⟩
    rw [show its.toArray.any (eqU x) = its.any (eqU x) by simp, any_eqU r fs]
    exact q
theorem op_notIn_seq : OpR X (compareOp .NotIn) (rIn X.K true) := by
  intro pins s σ H x y v u Q I rx ry h
  obtain ⟨p, xs, rfl, hq, fx, fs, q⟩ := h
  cases ry
  rcases hq with hq | hq
  · obtain ⟨its, r, pl, hz⟩ := I.list hq
    refine SeqAt.notIn_listAt (eqU x) pl.isList (fun w hw => mem_eqAt rx fx r fs w (by simpa using hw)) ⟨.bl _, H, I, rfl, ?_⟩
    rw [show its.toArray.any (eqU x) = its.any (eqU x) by simp, any_eqU r fs]
    exact q
  · obtain ⟨its, r, pl, hz⟩ := I.tuple hq
    refine SeqAt.notIn_tupleAt (eqU x) pl (fun w hw => mem_eqAt rx fx r fs w (by simpa using hw)) ⟨.bl _, H, I, rfl, ?_⟩
    rw [show its.toArray.any (eqU x) = its.any (eqU x) by simp, any_eqU r fs]
    exact q
theorem op_notIn_str : OpR X (compareOp .NotIn) (fun x y H Q => ∃ i j, x = .str i ∧ y = .str j ∧ Q (.bl (!(!(Builtin.Str.occurrences j i 0 j.length 1).isEmpty))) H) := by
  intro pins s σ H x y v u Q I rx ry h
  obtain ⟨i, j, rfl, rfl, q⟩ := h
  obtain ⟨t, rfl⟩ := rx
  obtain ⟨t', rfl⟩ := ry
  exact notIn_str ⟨.bl _, H, I, rfl, q⟩

/-! ### len, list(x), tuple(x) of any list or tuple that is read -/
theorem call_len_seq : CallR X (.builtin "len") (fun xs H Q => ∃ p ys, xs = [.ref p] ∧ (SqL X.K H p ys ∨ SqT X.K H p ys) ∧ Q (.int ys.length) H) := by
  intro pins s σ H xs us Q I r h
  obtain ⟨p, ys, rfl, hq, q⟩ := h
  obtain ⟨u, rfl, rx⟩ := vals1 r
  cases rx
  have hn := line63
  rcases hq with hq | hq
  · obtain ⟨its, r', pl, hz⟩ := I.list hq
    have hlen := r'.length
    exact Calls.call_len_list pl.isList (by simp only [List.size_toArray] <;> omega) ⟨.int ys.length, H, I.tok _, ⟨s.toks + 1, by rw [List.size_toArray, hlen]⟩, q⟩
  · obtain ⟨its, r', pl, hz⟩ := I.tuple hq
    have hlen := r'.length
    exact len_tuple pl (by simp only [List.size_toArray] <;> omega) ⟨.int ys.length, H, I.tok _, ⟨s.toks + 1, by rw [List.size_toArray, hlen]⟩, q⟩
theorem call_len_str : CallR X (.builtin "len") (fun xs H Q => ∃ z, xs = [.str z] ∧ z.length ≤ sizeLine ∧ Q (.int z.length) H) := by
  intro pins s σ H xs us Q I r h
  obtain ⟨z, rfl, hz, q⟩ := h
  obtain ⟨u, rfl, t, rfl⟩ := vals1 r
  have hn := line63
  exact len_str (by omega) ⟨.int z.length, H, I.tok _, ⟨_, rfl⟩, q⟩
theorem CallR.or {f : Value} {r r' : List V → Hp → VK → Prop} (h : CallR X f r) (h' : CallR X f r') : CallR X f (fun xs H Q => r xs H Q ∨ r' xs H Q) := by
  intro pins s σ H xs us Q I rs q
  rcases q with q | q
  · exact h pins s σ H xs us Q I rs q
  · exact h' pins s σ H xs us Q I rs q
theorem call_list_of : CallR X (.type "list") (fun xs H Q => ∃ p ys, xs = [.ref p] ∧ (SqL X.K H p ys ∨ SqT X.K H p ys) ∧ ∀ l, H l = none → Q (.ref l) (upd H l (.lst ys))) := by
  intro pins s σ H xs us Q I r h
  obtain ⟨p, ys, rfl, hq, q⟩ := h
  obtain ⟨u, rfl, rx⟩ := vals1 r
  cases rx
  have fin : ∀ (its : List Value), Vals ys its → ys.length ≤ sizeLine → ∀ (h' : Heap) (c' : Nat), (∀ b o', s.heap.get? b = some o' → h'.get? b = some o') →
      h'.get? s.heap.objs.size = some { cls := .type "list", dict := none, data := .seq its.toArray c', slots := #[] } → EP X pins σ Q (.ref s.heap.objs.size) { s with heap := h' } := fun its r' hz h' c' kp e =>
    ⟨.ref s.heap.objs.size, _, I.laid (t' := s.toks) kp (Nat.le_refl _) (show ObjOk X.prog X.w _ h' _ (.lst ys) from ⟨hz, its, c', r', e⟩), rfl, q _ (I.hok.fresh (Nat.le_refl _))⟩
  rcases hq with hq | hq
  · obtain ⟨its, r', pl, hz⟩ := I.list hq
    have hlen := r'.length
    obtain ⟨o, ho, hc, n, hd⟩ := pl.isList
    exact call_list_seq p (.inl rfl) ho hc hd (fun h' c' kp e => fin its r' hz h' c' kp e) (by simp only [List.size_toArray] <;> omega)
  · obtain ⟨its, r', pl, hz⟩ := I.tuple hq
    have hlen := r'.length
    obtain ⟨o, ho, hc, n, hd⟩ := pl
    exact call_list_seq p (.inr rfl) ho hc hd (fun h' c' kp e => fin its r' hz h' c' kp e) (by simp only [List.size_toArray] <;> omega)
theorem call_tuple_of : CallR X (.type "tuple") (fun xs H Q => ∃ p ys, xs = [.ref p] ∧ ((SqL X.K H p ys ∧ ∀ l, H l = none → Q (.ref l) (upd H l (.tup ys))) ∨ (SqT X.K H p ys ∧ Q (.ref p) H))) := by
  intro pins s σ H xs us Q I r h
  obtain ⟨p, ys, rfl, h⟩ := h
  obtain ⟨u, rfl, rx⟩ := vals1 r
  cases rx
  rcases h with ⟨hq, q⟩ | ⟨hq, q⟩
  · obtain ⟨its, r', pl, hz⟩ := I.list hq
    have hlen := r'.length
    refine call_tuple_list pl.isList (fun h' kp => ?_) (by simp only [List.size_toArray] <;> omega)
    have I1 : Inv X pins σ H { s with heap := h' } := I.kept (t' := s.toks) kp
    have I2 : Inv X pins σ (upd H h'.objs.size (.tup ys)) { s with heap := h'.push { cls := .type "tuple", data := .seq its.toArray } } :=
      I1.laid (t' := s.toks) (fun b o e => Heap.get?_push_of_some _ e) (Nat.le_refl _) (show ObjOk X.prog X.w _ _ _ (.tup ys) from ⟨hz, its, r', IsTup.new _ _⟩)
    exact ⟨.ref h'.objs.size, _, I2, rfl, q _ (I1.hok.fresh (Nat.le_refl _))⟩
  · obtain ⟨its, r', pl, hz⟩ := I.tuple hq
    exact call_tuple_same pl ⟨.ref p, H, I, rfl, q⟩

/-! ### the call of a builtin's method: o.m(..) -/
/-- the value is of that builtin type -/
def tyV (K : PySem.W.Frag) (T : String) (x : V) (H : Hp) : Prop := match x with
  | .str _ => T = "str"
  | .int _ => T = "int"
  | .ref p => (T = "list" ∧ ∃ xs, SqL K H p xs) ∨ (T = "tuple" ∧ ∃ o, K.lookup p = some o ∧ o.cls = .type "tuple" ∧ o.dict = none) ∨
      (T = "dict" ∧ ((∃ kvs, H p = some (.dK kvs)) ∨ ∃ kvs, H p = some (.dT kvs))) ∨ (T = "set" ∧ ∃ S n, H p = some (.set S n))
  | _ => False
theorem tyV_is {pins : List (Addr × Obj)} {σ : St} {H : Hp} {s : Shared} {T : String} {x : V} {v : Value} (I : Inv X pins σ H s) (r : RelV x v) (ty : tyV X.K T x H) :
    s.TypeIs v T ∧ ∀ a, v = .ref a → ∃ ob, s.heap.get? a = some ob ∧ ob.dict = none := by
  cases x with
  | str z =>
    obtain ⟨t, rfl⟩ := r
    cases (show T = "str" from ty)
    exact ⟨typeIs_str s z t, fun _ e => nomatch e⟩
  | int i =>
    obtain ⟨t, rfl⟩ := r
    cases (show T = "int" from ty)
    exact ⟨typeIs_int s i t, fun _ e => nomatch e⟩
  | ref p =>
    cases r
    rcases ty with ⟨rfl, xs, hq⟩ | ⟨rfl, o, hk, hc, hd⟩ | ⟨rfl, hk⟩ | ⟨rfl, S, n, hk⟩
    · obtain ⟨its, _, pl, _⟩ := I.list hq
      refine ⟨pl.isList.typeIs, fun a e => ?_⟩
      cases e
      obtain ⟨o, n, e, c, hd, _⟩ := pl
      exact ⟨o, e, hd⟩
    · refine ⟨⟨o, I.kIn p o hk, hc⟩, fun a e => ?_⟩
      cases e
      exact ⟨o, I.kIn _ o hk, hd⟩
    · have z : ∃ o, s.heap.get? p = some o ∧ o.ExactDict := by
        rcases hk with ⟨kvs, hk⟩ | ⟨kvs, hk⟩
        · obtain ⟨_, _, _, _, o, _, _, e, ex, _⟩ := I.hok p _ hk
          exact ⟨o, e, ex⟩
        · obtain ⟨_, _, _, _, o, _, _, e, ex, _⟩ := I.hok p _ hk
          exact ⟨o, e, ex⟩
      obtain ⟨o, e, ex⟩ := z
      refine ⟨⟨o, e, ex.1⟩, fun a e2 => ?_⟩
      cases e2
      exact ⟨o, e, ex.2.1⟩
    · obtain ⟨o, _, _, _, e, ex, _⟩ := I.hok p _ hk
      refine ⟨⟨o, e, ex.1⟩, fun a e2 => ?_⟩
      cases e2
      exact ⟨o, e, ex.2.1⟩
  | _ => exact False.elim ty
def tBM0 (K : PySem.W.Frag) (T : String) (r : V → List V → Hp → VK → Prop) (to : TE) : TE := fun σ H Q => to σ H fun x H1 => tyV K T x H1 ∧ r x [] H1 Q
def tBM (K : PySem.W.Frag) (T : String) (r : V → List V → Hp → VK → Prop) (to : TE) (t : TA) : TE := fun σ H Q => to σ H fun x H1 => tyV K T x H1 ∧ t σ H1 fun xs H2 => r x xs H2 Q
variable {o e : Expr} {es : List Expr} {to : TE} {t : TA} {name : Str} {apos cpos : Pos} {T id : String} {r : V → List V → Hp → VK → Prop}
theorem pe_bm0 (pa : PlainAttrs T) (slot : Slot T name id) (hty : typeOf (.builtin id) = pure (.type "method_descriptor")) (hm : MtR X id r) (ho : PE X o to)
    (hbase : attributeBase o name X.env (eval o X.env) = eval o X.env := by rfl) (hline : (apos.endLine == cpos.line) = true := by rfl) : PE X (.Call (.Attribute o name apos) [] [] cpos) (tBM0 X.K T r to) := by
  intro pins s σ H Q I h
  refine wpAny_Call_method0_late hbase hline (thn (ho pins s σ H _ I h) fun v s1 ⟨x, H1, I1, r1, ty, q1⟩ => ?_)
  obtain ⟨h1, h2⟩ := tyV_is I1 r1 ty
  exact ⟨T, id, pa, slot, hty, h1, h2, Calls.callWith_builtin rfl (PySem.evalArgs_none (hm pins s1 σ H1 x [] v [] Q I1 r1 .nil q1))⟩
theorem pe_bm (pa : PlainAttrs T) (slot : Slot T name id) (hty : typeOf (.builtin id) = pure (.type "method_descriptor")) (hm : MtR X id r) (ho : PE X o to) (ha : PA X (e :: es) t)
    (hbase : attributeBase o name X.env (eval o X.env) = eval o X.env := by rfl)
    (hfew : ((backTo cpos (starEach (e :: es) X.env)).all (fun x => !x.1) && (backToKw cpos (keywordEach [] X.env)).all (fun x => x.1.isSome)
      && decide ((e :: es).length + ([] : List Keyword).length + (if ([] : List Keyword).isEmpty then 0 else 1) < 30)) = true := by rfl)
    (hline : (apos.endLine == cpos.line) = true := by rfl) (hs : starEach (e :: es) X.env = (false, eval e X.env) :: starEach es X.env := by rfl) (hplain : (backTo cpos (starEach es X.env)).any (·.1) = false := by rfl) :
    PE X (.Call (.Attribute o name apos) (e :: es) [] cpos) (tBM X.K T r to t) := by
  intro pins s σ H Q I h
  refine wpAny_Call_method_late hbase hfew hline rfl (thn (ho pins s σ H _ I h) fun v s1 ⟨x, H1, I1, r1, ty, q1⟩ => ?_)
  obtain ⟨h1, h2⟩ := tyV_is I1 r1 ty
  refine ⟨T, id, pa, slot, hty, h1, h2, ?_⟩
  have hA := ha cpos pins s1 σ H1 _ I1 q1
  rw [hs] at hA ⊢
  refine Calls.callWith_builtin (by show (false || (backTo cpos (starEach es X.env)).any (·.1)) = false; rw [hplain] <;> rfl) (Calls.evalArgs_plain ?_)
  exact thn hA fun us s2 ⟨vs, H2, I2, r2, q2⟩ => hm pins s2 σ H2 x vs v us Q I2 r1 r2 q2
/- xs.append(e), list.index on a module's tuple .. are MtR facts of 06m -/
end
end L2

namespace L2
open PySem PySem.Spec PyProof.Rows

def MtM (X : Cx) (id : String) (r : V → List V → Hp → VK → Prop) : Prop :=
  ∀ (pins : List (Addr × Obj)) (s : Shared) (σ : St) (H : Hp) (x : V) (xs : List V) (v : Value) (us : List Value) (Q : VK), Inv X pins σ H s → RelV x v → Vals xs us → r x xs H Q →
    wpAny (model X.prog X.w) X.A (call (.builtin id) (v :: us)) (EP X pins σ Q) X.xe s

/-! ### lists of values -/
theorem Vals.one : ∀ {x : V} {us : List Value}, Vals [x] us → ∃ u, us = [u] ∧ RelV x u
  | _, _, .cons r .nil => ⟨_, rfl, r⟩
theorem Vals.two : ∀ {x y : V} {us : List Value}, Vals [x, y] us → ∃ u v, us = [u, v] ∧ RelV x u ∧ RelV y v
  | _, _, _, .cons r (.cons q .nil) => ⟨_, _, rfl, r, q⟩
theorem Vals.zero : ∀ {us : List Value}, Vals [] us → us = []
  | _, .nil => rfl
theorem Vals.dropLast {xs : List V} {us : List Value} (h : Vals xs us) : Vals xs.dropLast us.dropLast := by
  induction h with
  | nil => exact .nil
  | cons r t ih =>
    cases t with
    | nil => exact .nil
    | cons q t' => exact .cons r ih
theorem Vals.eraseIdx : ∀ {xs : List V} {us : List Value} (i : Nat), Vals xs us → Vals (xs.eraseIdx i) (us.eraseIdx i)
  | _, _, _, .nil => .nil
  | _, _, 0, .cons _ t => t
  | _, _, i + 1, .cons r t => .cons r (Vals.eraseIdx i t)
theorem Vals.reverse {xs : List V} {us : List Value} (h : Vals xs us) : Vals xs.reverse us.reverse := by
  induction h with
  | nil => exact .nil
  | cons r t ih => rw [List.reverse_cons, List.reverse_cons]; exact Vals.append ih (.cons r .nil)
theorem Vals.rep {xs : List V} {us : List Value} (h : Vals xs us) : ∀ k : Nat, Vals (List.replicate k xs).flatten (List.replicate k us).flatten
  | 0 => .nil
  | k + 1 => by
    rw [List.replicate_succ, List.replicate_succ, List.flatten_cons, List.flatten_cons]
    exact Vals.append h (Vals.rep h k)
theorem erase_last {α : Type} (l : List α) : l.eraseIdx (l.length - 1) = l.dropLast := by
  induction l with
  | nil => rfl
  | cons a r ih =>
    cases r with
    | nil => rfl
    | cons b r =>
      have e : (a :: b :: r).length - 1 = ((b :: r).length - 1) + 1 := by
        have h1 : (a :: b :: r).length = r.length + 2 := rfl
        have h2 : (b :: r).length = r.length + 1 := rfl
        omega
      rw [e, List.eraseIdx_cons_succ, ih]
      all_goals rfl
theorem len_erase {α : Type} : ∀ (l : List α) (i : Nat), (l.eraseIdx i).length ≤ l.length
  | [], _ => Nat.le_refl _
  | _ :: _, 0 => Nat.le_succ _
  | _ :: r, i + 1 => Nat.succ_le_succ (len_erase r i)
theorem foldl_rep (its : List Value) : ∀ (k : Nat) (acc : List Value),
    List.foldl (fun x1 x2 => x1 ++ x2) acc.toArray (List.replicate k its.toArray) = (acc ++ (List.replicate k its).flatten).toArray
  | 0, acc => by simp
  | k + 1, acc => by
    have e : acc.toArray ++ its.toArray = (acc ++ its).toArray := by simp
    have e2 : (acc ++ its) ++ (List.replicate k its).flatten = acc ++ (List.replicate (k + 1) its).flatten := by
      rw [List.replicate_succ, List.flatten_cons, List.append_assoc]
    rw [← e2, ← foldl_rep its k (acc ++ its), ← e, List.replicate_succ, List.foldl_cons]

section
variable {X : Cx} {pins : List (Addr × Obj)} {σ : St} {H : Hp} {s : Shared} {l b : Addr} {xs ys zs : List V}

/-! ### the two steps: a tracked list is rewritten, a new list is laid -/
theorem Inv.lset {its its' : List Value} {n : Nat} {f : Array Value → Array Value} {t' : Nat} (I : Inv X pins σ H s) (hH : H l = some (.lst xs))
    (e : s.heap.get? l = some { cls := .type "list", data := .seq its.toArray n }) (hf : f its.toArray = its'.toArray) (hv : Vals ys its') (hz : ys.length ≤ sizeLine) :
    Inv X pins σ (upd H l (.lst ys)) { s with heap := s.heap.update l (Obj.mapSeq f), toks := t' } := by
  have q := PySem.IsL.update e f
  rw [hf] at q
  refine I.write (x := l) (e := l) (by rw [hH]; exact trivial) (.inl rfl) (fun b' u hb hu => (Heap.get?_update_other s.heap (Obj.mapSeq f) (Ne.symm hb)).trans hu) ⟨_, q⟩ ?_
  exact ⟨hz, its', _, hv, q⟩
theorem Inv.lnew {its : List Value} {t' : Nat} (I : Inv X pins σ H s) (hv : Vals ys its) (hz : ys.length ≤ sizeLine) :
    Inv X pins σ (upd H s.heap.objs.size (.lst ys)) { s with heap := s.heap.push { cls := .type "list", data := .seq its.toArray }, toks := t' } :=
  I.laid (fun _ _ q => Heap.get?_push_of_some _ q) (Nat.le_refl _) ⟨hz, its, 0, hv, Heap.get?_push_size _ rfl⟩
theorem Inv.fresh (I : Inv X pins σ H s) : H s.heap.objs.size = none := I.hok.fresh (Nat.le_refl _)
theorem Inv.lstM (I : Inv X pins σ H s) (hH : H l = some (.lst xs)) : xs.length ≤ sizeLine ∧ ∃ (its : List Value) (n : Nat), Vals xs its ∧ xs.length = its.length ∧ s.heap.get? l = some { cls := .type "list", data := .seq its.toArray n } := by
  obtain ⟨z, its, n, r, e⟩ := I.hok l _ hH
  exact ⟨z, its, n, r, r.length, e⟩

theorem notLongL {n : Nat} (h : n ≤ sizeLine) : Builtin.List.listTooLong n = false := by
  unfold Builtin.List.listTooLong
  exact decide_eq_false (by omega)
end

section
variable {X : Cx}

/-! ### methods -/
def rAppend : V → List V → Hp → VK → Prop := fun x vs H Q => ∃ l xs y, x = .ref l ∧ vs = [y] ∧ H l = some (.lst xs) ∧ xs.length < sizeLine ∧ Q .non (upd H l (.lst (xs ++ [y])))
theorem mt_append : MtM X "list.append" rAppend := by
  intro pins s σ H x vs v us Q I rx rv h
  obtain ⟨l, xs, y, rfl, rfl, hH, hz, q⟩ := h
  cases rx
  obtain ⟨u, rfl, ru⟩ := rv.one
  obtain ⟨z, its, n, r, hl, e⟩ := I.lstM hH
  refine call_meets F.slot_list_append ⟨_, e, rfl⟩ F.entry_list_append (F.args_list_append_2 _ _) (PySem.list_append l its.toArray n u (by rw [List.size_toArray]; omega)) ⟨e, ?_⟩
  refine ⟨.non, _, I.lset (its' := its ++ [u]) hH e (by simp) (r.append (.cons ru .nil)) ?_, rfl, q⟩
  rw [List.length_append, List.length_singleton]
  omega

def rExtend : V → List V → Hp → VK → Prop := fun x vs H Q => ∃ l b xs zs, x = .ref l ∧ vs = [.ref b] ∧ H l = some (.lst xs) ∧ H b = some (.lst zs) ∧ xs.length + zs.length ≤ sizeLine ∧ Q .non (upd H l (.lst (xs ++ zs)))
theorem mt_extend : MtM X "list.extend" rExtend := by
  intro pins s σ H x vs v us Q I rx rv h
  obtain ⟨l, b, xs, zs, rfl, rfl, hH, hB, hz, q⟩ := h
  cases rx
  obtain ⟨u, rfl, ru⟩ := rv.one
  cases ru
  obtain ⟨z, its, n, r, hl, e⟩ := I.lstM hH
  obtain ⟨z2, its2, n2, r2, hl2, e2⟩ := I.lstM hB
  have hsz : its.toArray.size + its2.toArray.size ≤ sizeLine := by rw [List.size_toArray, List.size_toArray]; omega
  have hlong : ¬ (!its.toArray.isEmpty && Builtin.List.listTooLong (its.toArray.size + its2.toArray.size)) = true := by
    rw [notLongL hsz, Bool.and_false]
    exact Bool.false_ne_true
  refine call_meets F.slot_list_extend ⟨_, e, rfl⟩ F.entry_list_extend (F.args_list_extend_2 _ _)
    (AutoSeq1.list_extend_list_list_0 l its.toArray n b its2.toArray n2 hlong (by rw [List.size_toArray]; omega) (by omega)) ⟨e, e2, ?_⟩
  refine ⟨.non, _, I.lset (its' := its ++ its2) hH e (by simp) (r.append r2) ?_, rfl, q⟩
  rw [List.length_append]
  omega

def rPop : V → List V → Hp → VK → Prop := fun x vs H Q => ∃ l xs y, x = .ref l ∧ vs = [] ∧ H l = some (.lst xs) ∧ xs[xs.length - 1]? = some y ∧ Q y (upd H l (.lst xs.dropLast))
theorem mt_pop : MtM X "list.pop" rPop := by
  intro pins s σ H x vs v us Q I rx rv h
  obtain ⟨l, xs, y, rfl, rfl, hH, hy, q⟩ := h
  cases rx
  have hus := rv.zero
  subst hus
  obtain ⟨z, its, n, r, hl, e⟩ := I.lstM hH
  obtain ⟨u, hu, ru⟩ := r.get hy
  have hy' : its.toArray[its.toArray.size - 1]? = some u := by
    show its.toArray[its.length - 1]? = some u
    rw [← Array.getElem?_toList, ← hl]
    exact hu
  refine call_meets F.slot_list_pop ⟨_, e, rfl⟩ F.entry_list_pop (F.args_list_pop_1 _) (MeetsSeq.list_pop_last l its.toArray n u hy' (by rw [List.size_toArray]; omega)) ⟨e, ?_⟩
  refine ⟨y, _, I.lset (its' := its.dropLast) hH e ?_ r.dropLast ?_, ru, q⟩
  · show its.toArray.eraseIdxIfInBounds (its.toArray.size - 1) = its.dropLast.toArray
    rw [List.size_toArray, List.eraseIdxIfInBounds_toArray, erase_last]
  · rw [List.length_dropLast]
    omega

def rPopAt : V → List V → Hp → VK → Prop := fun x vs H Q => ∃ l xs i k y, x = .ref l ∧ vs = [.int i] ∧ H l = some (.lst xs) ∧ -(2 ^ 63) ≤ i ∧ i < 2 ^ 63 ∧ seqIndex? i xs.length = some k ∧ xs[k]? = some y ∧ Q y (upd H l (.lst (xs.eraseIdx k)))
theorem mt_popAt : MtM X "list.pop" rPopAt := by
  intro pins s σ H x vs v us Q I rx rv h
  obtain ⟨l, xs, i, k, y, rfl, rfl, hH, h1, h2, hk, hy, q⟩ := h
  cases rx
  obtain ⟨u, rfl, ru⟩ := rv.one
  obtain ⟨t, rfl⟩ := ru
  obtain ⟨z, its, n, r, hl, e⟩ := I.lstM hH
  obtain ⟨w, hw, rw'⟩ := r.get hy
  refine call_meets F.slot_list_pop ⟨_, e, rfl⟩ F.entry_list_pop (F.args_list_pop_2 _ _)
    (MeetsSeq.list_pop_at l its.toArray n i t k w (fitsIndex_both h1 h2) (by rw [List.size_toArray, ← hl]; exact hk) (by rw [← Array.getElem?_toList]; exact hw) (by rw [List.size_toArray]; omega)) ⟨e, ?_⟩
  refine ⟨y, _, I.lset (its' := its.eraseIdx k) hH e ?_ (r.eraseIdx k) ?_, rw', q⟩
  · show its.toArray.eraseIdxIfInBounds k = (its.eraseIdx k).toArray
    rw [List.eraseIdxIfInBounds_toArray]
  · have := len_erase xs k
    omega

def rReverse : V → List V → Hp → VK → Prop := fun x vs H Q => ∃ l xs, x = .ref l ∧ vs = [] ∧ H l = some (.lst xs) ∧ Q .non (upd H l (.lst xs.reverse))
theorem mt_reverse : MtM X "list.reverse" rReverse := by
  intro pins s σ H x vs v us Q I rx rv h
  obtain ⟨l, xs, rfl, rfl, hH, q⟩ := h
  cases rx
  have hus := rv.zero
  subst hus
  obtain ⟨z, its, n, r, hl, e⟩ := I.lstM hH
  refine call_meets F.slot_list_reverse ⟨_, e, rfl⟩ F.entry_list_reverse (F.args_list_reverse_1 _) (AutoSeq1.list_reverse_list_0 l its.toArray n (by rw [List.size_toArray]; omega)) ⟨e, ?_⟩
  refine ⟨.non, _, I.lset (its' := its.reverse) hH e (by simp) r.reverse ?_, rfl, q⟩
  rw [List.length_reverse]
  omega

def rClear : V → List V → Hp → VK → Prop := fun x vs H Q => ∃ l xs, x = .ref l ∧ vs = [] ∧ H l = some (.lst xs) ∧ Q .non (upd H l (.lst []))
theorem mt_clear : MtM X "list.clear" rClear := by
  intro pins s σ H x vs v us Q I rx rv h
  obtain ⟨l, xs, rfl, rfl, hH, q⟩ := h
  cases rx
  have hus := rv.zero
  subst hus
  obtain ⟨z, its, n, r, hl, e⟩ := I.lstM hH
  refine call_meets F.slot_list_clear ⟨_, e, rfl⟩ F.entry_list_clear (F.args_list_clear_1 _) (AutoSeq1.list_clear_list_0 l its.toArray n (by rw [List.size_toArray]; omega)) ⟨e, ?_⟩
  exact ⟨.non, _, I.lset (its' := []) (ys := []) hH e rfl .nil (Nat.zero_le _), rfl, q⟩

/-! ### list + list, list += list, list * int -/
def rCat : R2 := fun x y H Q => ∃ l b xs zs, x = .ref l ∧ y = .ref b ∧ H l = some (.lst xs) ∧ H b = some (.lst zs) ∧ xs.length + zs.length ≤ sizeLine ∧ ∀ p, H p = none → Q (.ref p) (upd H p (.lst (xs ++ zs)))
theorem op_cat : OpR X (binaryOp .Add) rCat := by
  intro pins s σ H x y v u Q I rx ry h
  obtain ⟨l, b, xs, zs, rfl, rfl, hH, hB, hz, q⟩ := h
  cases rx
  cases ry
  obtain ⟨z, its, n, r, hl, e⟩ := I.lstM hH
  obtain ⟨z2, its2, n2, r2, hl2, e2⟩ := I.lstM hB
  refine PySem.P.add_list e e2 ?_ (by rw [List.size_toArray, List.size_toArray]; omega)
  have ea : its.toArray ++ its2.toArray = (its ++ its2).toArray := by simp
  rw [ea]
  exact ⟨.ref _, _, I.lnew (t' := s.toks) (r.append r2) (by rw [List.length_append]; omega), rfl, q _ I.fresh⟩
/-- a list times an int (a negative one is nothing) -/
def rRep : R2 := fun x y H Q => ∃ l k xs, x = .ref l ∧ y = .int k ∧ H l = some (.lst xs) ∧ -(2 ^ 63) ≤ k ∧ k < 2 ^ 63 ∧ xs.length * k.toNat ≤ sizeLine ∧
  ∀ p, H p = none → Q (.ref p) (upd H p (.lst (List.replicate k.toNat xs).flatten))
theorem len_rep {α : Type} (xs : List α) (k : Nat) : (List.replicate k xs).flatten.length = k * xs.length := by
  induction k with
  | zero => simp
  | succ k ih => rw [List.replicate_succ, List.flatten_cons, List.length_append, ih, Nat.succ_mul, Nat.add_comm]
theorem op_rep : OpR X (binaryOp .Mult) rRep := by
  intro pins s σ H x y v u Q I rx ry h
  obtain ⟨l, k, xs, rfl, rfl, hH, h1, h2, hz, q⟩ := h
  cases rx
  obtain ⟨t, rfl⟩ := ry
  obtain ⟨z, its, n, r, hl, e⟩ := I.lstM hH
  have hlen : its.toArray.size * k.toNat ≤ sizeLine := by rw [List.size_toArray, ← hl]; exact hz
  have hcap : ¬ its.toArray.size * k.toNat > (2 ^ 63 - 1) / 8 := by
    have : (sizeLine : Nat) ≤ (2 ^ 63 - 1) / 8 := by decide
    omega
  have hfit : ¬ (!Builtin.List.listFitsIndex k) = true := by
    rw [fitsIndex_both h1 h2]
    exact Bool.false_ne_true
  have hlong : ¬ Builtin.List.listTooLong (its.toArray.size * k.toNat) = true := by
    rw [notLongL hlen]
    exact Bool.false_ne_true
  have hnew : List.foldl (fun x1 x2 => x1 ++ x2) #[] (List.replicate (if its.toArray.isEmpty = true then 0 else k.toNat) its.toArray) = (List.replicate k.toNat its).flatten.toArray := by
    have f0 : ∀ m : Nat, List.foldl (fun x1 x2 => x1 ++ x2) #[] (List.replicate m its.toArray) = (List.replicate m its).flatten.toArray := fun m => by
      have := foldl_rep its m []
      rw [List.nil_append] at this
      exact this
    rw [f0]
    cases its with
    | nil => simp
    | cons a r' => rw [if_neg (by simp)]
  refine wpAny_binaryOp_repeat_ref (T := "list") (U := "int") (by decide) ⟨_, e, rfl⟩ (fun s' => typeIs_int s' k t) noFill_list_mul F.fills_int_mul F.slot_int_rmul repeat_list F.slot_int_index.lookup
    (call_meets F.slot_int_rmul (typeIs_int s k t) F.entry_int_rmul (F.args_int_rmul_2 _ _) (int___rmul___int_list k t l its.toArray n)
      ⟨e, rfl, ⟨_, e, rfl⟩, call_meets F.slot_list_mul ⟨_, e, rfl⟩ F.entry_list_mul (F.args_list_mul_2 _ _) (AutoListH.list___mul___list_int_3 l its.toArray n k t hfit hcap hlong) ⟨e, ?_⟩⟩)
  rw [hnew]
  exact ⟨.ref _, _, I.lnew (t' := s.toks) (r.rep k.toNat) (by rw [len_rep, Nat.mul_comm]; exact hz), rfl, q _ I.fresh⟩

/-! ### del xs[i] -/
theorem del_list {pins : List (Addr × Obj)} {s : Shared} {σ : St} {H : Hp} {l : Addr} {xs : List V} {i : Int} {t : Tok} {k : Nat} {Q : Unit → Shared → Prop} (I : Inv X pins σ H s) (hH : H l = some (.lst xs))
    (h1 : -(2 ^ 63) ≤ i) (h2 : i < 2 ^ 63) (hk : seqIndex? i xs.length = some k) (h : ∀ s', Inv X pins σ (upd H l (.lst (xs.eraseIdx k))) s' → Q () s') :
    wpAny (model X.prog X.w) X.A (delItem (.ref l) (.int i t)) Q X.xe s := by
  obtain ⟨z, its, n, r, hl, e⟩ := I.lstM hH
  refine PySem.P.delItem_list (k := k) e (fitsIndex_both h1 h2) (by rw [List.size_toArray, ← hl]; exact hk) (h _ ?_) (by rw [List.size_toArray]; omega)
  refine I.lset (its' := its.eraseIdx k) (t' := s.toks) hH e ?_ (r.eraseIdx k) ?_
  · show its.toArray.eraseIdxIfInBounds k = (its.eraseIdx k).toArray
    rw [List.eraseIdxIfInBounds_toArray]
  · have := len_erase xs k
    omega
end

/-! ### xs[a:b] = ys -/
section
variable {prog : Program} {w : World} {A : Around} {E : Value → Shared → Prop} {s : Shared}
theorem splice_eq (its its2 : List Value) (a c : Nat) : its.toArray.extract 0 a ++ its2.toArray ++ its.toArray.extract c its.toArray.size = (its.take a ++ its2 ++ its.drop c).toArray := by
  apply Array.toList_inj.mp
  first
    | (simp
       exact List.take_of_length_le (by simp))
    | simp [List.take_of_length_le]
    | simp
theorem bounds_run {a c n : Nat} (hac : a ≤ c) (hc : c ≤ n) : sliceBounds (some (a : Int)) (some (c : Int)) none n = ((a : Int), (c : Int), 1) := by
  simp only [sliceBounds, Option.getD_none]
  have h1 : ¬ ((a : Int) < 0) := by omega
  have h2 : ¬ ((c : Int) < 0) := by omega
  simp only [h1, h2, if_false, show (1 : Int) > 0 by decide, if_true]
  congr 1
  · omega
  · congr 1; omega
set_option maxRecDepth 100000 in
/-- list.__setitem__ with a slice of step one and another list -/
theorem setItem_slice {l b sl : Addr} {items new : Array Value} {n n2 : Nat} {vl vu : Value} {a c : Nat} {Q : Unit → Shared → Prop}
    (e : s.heap.get? l = some { cls := .type "list", data := .seq items n }) (e2 : s.heap.get? b = some { cls := .type "list", data := .seq new n2 }) (hne : l ≠ b)
    (hs : s.heap.IsSliceOf sl vl vu .none) (pl : IsPart vl (some (a : Int))) (pu : IsPart vu (some (c : Int))) (hac : a ≤ c) (hc : c ≤ items.size)
    (hsz : items.size + new.size ≤ sizeLine) (h : Q () { s with heap := s.heap.update l (Obj.mapSeq fun xs => xs.extract 0 a ++ new ++ xs.extract c xs.size) }) :
    wpAny (model prog w) A (setItem (.ref l) (.ref sl) (.ref b)) Q E s := by
  have hl : s.heap.IsList l items := PySem.IsL.isList e
  have hb : s.heap.IsList b new := PySem.IsL.isList e2
  obtain ⟨os, hos, hcs, hds⟩ := id hs
  have hTs : s.TypeIs (.ref sl) "slice" := ⟨os, hos, hcs⟩
  have hstep : ¬ ((rawPart none == rawInt 0) = true) := Bool.false_ne_true
  have hsame : Builtin.List.listSameRef (.ref l) (.ref b) = false := by
    unfold Builtin.List.listSameRef
    exact beq_eq_false_iff_ne.mpr hne
  have hmax : (max (a : Int) (c : Int)).toNat = c := by omega
  have hz' : ((fun xs : Array Value => xs.extract 0 a ++ new ++ xs.extract c xs.size) items).size ≤ sizeLine + 1 := by
    simp only [Array.size_append, Array.size_extract]
    omega
  unfold setItem
  try with_reducible refine wpAny_holding ?_
  first | refine wpAny_bind (wpAny_pure ?_) | skip
  refine wpAny_bind (wpAny_sequenceKey hl.typeIs (by decide) ?_)
  refine wpAny_bind (wpAny_callSpecial?_slot (name := Str.ofString "__setitem__") hl.typeIs slot_list_setitem
    (wpAny_call_entry slot_list_setitem hl.typeIs entry_list_setitem ?_ (args_list_setitem _ _ _)))
  show wpAny _ _ (Builtin.List.listSubscript? (.ref sl) >>= _) _ _ s
  refine wpAny_bind ?_
  unfold Builtin.List.listSubscript?
  refine wpAny_bind (wpAny_specialOf hTs slice_no_index ?_)
  simp only [Option.isNone_none, if_true]
  refine wpAny_pure ?_
  show wpAny _ _ (typeOf (.ref sl) >>= _) _ _ s
  refine wpAny_bind (wpAny_typeOf hTs ?_)
  first
    | rw [if_neg (by decide)]
    | refine PySem.W.KFB.if_not (by decide) ?_
  rw [listSliceParts_eq]
  refine wpAny_bind (wpAny_bind (wpAny_field hos hds (x := .none) rfl (wpAny_bind (wpAny_listPart .none ?_))))
  rw [if_neg hstep]
  refine wpAny_bind (wpAny_field hos hds (x := vl) rfl (wpAny_bind (wpAny_listPart pl ?_)))
  refine wpAny_bind (wpAny_field hos hds (x := vu) rfl (wpAny_bind (wpAny_listPart pu (wpAny_pure ?_))))
  first
    | simp only [hsame, Bool.false_eq_true, if_false]
    | refine PySem.W.KFB.if_not hsame ?_
    | (dsimp only
       rw [if_neg (by rw [hsame]; exact Bool.false_ne_true)])
  refine wpAny_bind (m := Builtin.List.listAllItems (.ref b) "must assign iterable to extended slice") ?_
  unfold Builtin.List.listAllItems
  refine wpAny_bind (wpAny_typeOf hb.typeIs ?_)
  first
    | refine PySem.W.KFB.if_so (by decide) ?_
    | rw [if_pos (by decide)]
    | simp only [beq_self_eq_true, Bool.true_or, if_true]
  unfold Builtin.List.listItems
  refine wpAny_bind (wpAny_seqItems e2 rfl (wpAny_pure ?_))
  refine wpAny_bind (wpAny_bind (wpAny_seqItems e rfl (wpAny_pure ?_)))
  refine wpAny_bind (wpAny_of_eq ((sliceIndices_raw (some (a : Int)) (some (c : Int)) none items.size (by simp)).trans (congrArg (pure : Int × Int × Int → Sem (Int × Int × Int)) (bounds_run hac hc))) ?_)
  show wpAny _ _ (if ((1 : Int) == 1) = true then _ else _) _ _ s
  rw [if_pos (by decide)]
  refine wpAny_bind (wpAny_rule ?_)
  first
    | simp only [notLongL hsz, Bool.false_eq_true, if_false]
    | refine PySem.W.KFB.if_not (notLongL hsz) ?_
  first | refine wpAny_bind (wpAny_pure ?_) | skip
  show wpAny _ _ (updateSeq l (fun xs => xs.extract 0 ((a : Int)).toNat ++ new ++ xs.extract (max (a : Int) (c : Int)).toNat xs.size) >>= _) _ _ s
  rw [hmax, Int.toNat_natCast]
  refine wpAny_bind (wpAny_updateSeq (hz := Nat.le_trans (Nat.le_add_right _ _) hsz) (_hz' := hz') e rfl ?_)
  refine wpAny_bind (wpAny_letGo ?_)
  first
    | exact wpAny_bind (wpAny_pure (wpAny_pure ⟨.none, rfl, wpAny_pure h⟩))
    | exact wpAny_pure ⟨.none, rfl, wpAny_pure h⟩
end

section
variable {X : Cx}
/-- xs[a:c] = ys of another list, at the value level: sl is the slice object that was just made -/
theorem set_slice {pins : List (Addr × Obj)} {s : Shared} {σ : St} {H : Hp} {l b sl : Addr} {xs ys : List V} {a c : Int} {vl vu : Value} {Q : Unit → Shared → Prop} (I : Inv X pins σ H s)
    (hH : H l = some (.lst xs)) (hB : H b = some (.lst ys)) (hne : l ≠ b) (hs : s.heap.IsSliceOf sl vl vu .none) (ra : RelV (.int a) vl) (rc : RelV (.int c) vu) (h0 : 0 ≤ a) (hac : a ≤ c) (hc : c ≤ xs.length)
    (hz : xs.length + ys.length ≤ sizeLine) (h : ∀ s', Inv X pins σ (upd H l (.lst (xs.take a.toNat ++ ys ++ xs.drop c.toNat))) s' → Q () s') :
    wpAny (model X.prog X.w) X.A (setItem (.ref l) (.ref sl) (.ref b)) Q X.xe s := by
  obtain ⟨ta, rfl⟩ := ra
  obtain ⟨tc, rfl⟩ := rc
  obtain ⟨z, its, n, r, hl, e⟩ := I.lstM hH
  obtain ⟨z2, its2, n2, r2, hl2, e2⟩ := I.lstM hB
  obtain ⟨a', rfl⟩ := Int.eq_ofNat_of_zero_le h0
  obtain ⟨c', rfl⟩ := Int.eq_ofNat_of_zero_le (Int.le_trans h0 hac)
  simp only [Int.toNat_natCast] at h
  refine setItem_slice (a := a') (c := c') e e2 hne hs (.int _ _) (.int _ _) (by omega) (by rw [List.size_toArray]; omega) (by rw [List.size_toArray, List.size_toArray]; omega) (h _ ?_)
  refine I.lset (its' := its.take a' ++ its2 ++ its.drop c') (t' := s.toks) hH e ?_ (Vals.append (Vals.append (r.take _) r2) (r.drop _)) ?_
  · exact splice_eq its its2 a' c'
  · rw [List.length_append, List.length_append, List.length_take, List.length_drop]
    omega
end
end L2

namespace Att
open PySem PySem.W PySem.Calls PyProof.Rows

/-! ### the script -/
theorem ints_of_wellAll {P : Params} {h : Heap} : ∀ (ns : List Int) (vs : List Value), WellAll P h vs (ns.map WData.int) → IntsAre vs ns := by
  intro ns
  induction ns with
  | nil =>
    intro vs w
    rw [List.map_nil] at w
    cases w
    exact .nil
  | cons n ns ih =>
    intro vs w
    rw [List.map_cons] at w
    cases w with
    | cons a b =>
      cases a
      exact .cons _ _ (ih _ b)

theorem script_of {l : OpenLaw} {n : Nat} (hn : l.most = some n) {P : Params} {h : Heap} {args : List WData} {vals : List Value}
    (hpre : l.row.toRowW.claim.pre args = true) (hwl : WellAll P h vals args) :
    ∃ a vs ns, vals = [Value.ref a] ∧ args = [WData.list (ns.map WData.int)] ∧ h.get? a = some { cls := .type "list", data := .seq vs.toArray } ∧ IntsAre vs ns ∧ ns.length ≤ n := by
  have hsh : WShape.hasAll [] args [.list .int] = true := (pre_splitW hpre).1
  have hc : l.pre.holds [] { args := args } = true := (pre_splitW hpre).2
  obtain ⟨d, r, rfl, h1, h2⟩ := hasAllW_cons hsh
  obtain rfl := hasAllW_nil h2
  obtain ⟨xs, rfl, h3⟩ := hasW_list h1
  obtain ⟨ns, rfl⟩ := items_int h3
  have hlen : ns.length ≤ n := by
    unfold OpenLaw.pre at hc
    have h4 : (WTm.not (.lt (.lit (.int (n : Int))) (.len (.arg 0)))).holds [] { args := [.list (ns.map .int)] } = true := by
      have h4 := (holds_andW hc).1
      rw [hn] at h4
      exact h4
    have h5 := condW_of h4 (w_not (w_lt w_lit (w_len_list (w_arg rfl))))
    rw [List.length_map] at h5
    refine Nat.le_of_not_lt fun q => ?_
    have q' : (n : Int) < ((ns.length : Nat) : Int) := by omega
    first
      | (rw [decide_eq_true q'] at h5; exact absurd h5 (by decide))
      | (simp at h5; omega)
  cases hwl with
  | cons w1 w2 =>
    cases w2
    cases w1 with
    | list ho hall => exact ⟨_, _, ns, rfl, rfl, ho, ints_of_wellAll ns _ hall, hlen⟩

theorem post_true (l : OpenLaw) (args : List WData) : l.row.toRowW.claim.post args (.bool true) args = true :=
  postW_of (r := l.row.toRowW) (X := (true == true))
    (show WShape.has [] (.bool true) .bool = true by first | rfl | decide | simp [WShape.has, WShape.arms, WShape.armsAll])
    (show (WTm.eq .res (.lit (.bool true))).value [] { args := args, res := some (.bool true), after := args } = some (.bool (true == true)) from w_eq_bool (w_res rfl) w_lit) rfl

/-! ### the attachment: holds_open's last premise (the goal 'hc' behind k_head) from a wpAny of the law's body -/
theorem attach {l : OpenLaw} {n : Nat} {q : Program} {loose : List Str} {XP : (Str → Option Value) → Heap → Prop} {YP : World → Heap → Prop} {d : DefRec} {x : Str}
    (hn : l.most = some n) (hdf : d.params.defaults = [])
    (hbind : ∀ pm cd doc v : Value, bindArgs (docDef d.name d.params d.body d.scope pm cd doc) ⟨[v], []⟩ = pure [(x, v)])
    (hx : d.scope.names.lookup x = some .local ∨ d.scope.names.lookup x = some .cell)
    (hk : d.scope.kind = .function) (hco : d.scope.isCoroutine = false) (hgen : d.scope.isGenerator = false)
    (body : ∀ (w : World) (s₀ s₁ s : Shared) (mg mb : Str → Option Value) (fa : Addr) (o : Obj) (pm cd doc : Value) (a : Addr) (vs : List Value) (ns : List Int),
      Ground q loose [] XP w s₀ mg mb s₁.heap → YP w s₁.heap →
      s₁.heap.get? fa = some o → o.data = .func (docDef d.name d.params d.body d.scope pm cd doc) → s₁.heap.CodeRec cd d.name → mg d.name = some (.ref fa) →
      s₁.heap.get? a = some { cls := .type "list", data := .seq vs.toArray } → IntsAre vs ns → ns.length ≤ n →
      s.gens = #[] → s.os = s₁.os →
      Fr s₁.heap s₁.heap.objs.size s.heap (bindL (envOfC d.name d.scope s₁.heap.objs.size fa cd).kindOf [(x, .ref a)] fun _ => none) →
      Cl s₁.heap.objs.size (cellsFrom (s₁.heap.objs.size + 1) d.scope.names []) s.heap (bindC (envOfC d.name d.scope s₁.heap.objs.size fa cd).kindOf [(x, .ref a)] fun _ => none) →
      wpAny (model l.prog w) (callerA.deeper (envOfC d.name d.scope s₁.heap.objs.size fa cd)) (execs d.body (envOfC d.name d.scope s₁.heap.objs.size fa cd))
        (fun f s' => f = .ret (.bool true) ∧ OldK s₁.heap s'.heap ∧ s'.os = s₁.os ∧ AllBare s'.gens) (fun _ _ => False) s) :
    WalkO q loose XP YP l.row.toRowW d [] (fun f vs => PySem.call f vs) := by
  intro w s₀ s₁ mg mb G Y fa o pm cd doc dV kV ho hd hcd hD hmg hg args vals as hpre hlay hrd hwl hlo
  obtain rfl : dV = .none := Dflts.none hD hdf
  obtain rfl : kV = .none := Dflts.noKw hD
  obtain ⟨a, vs, ns, rfl, rfl, hobj, hints, hlen⟩ := script_of hn hpre hwl
  refine enter_call ?_
  refine call_cells_ret (o := o) (by rw [depth_caller]; decide) ho (fd_plain hd) G.T.nolimit hcd (hbind pm cd doc (.ref a)) (fun y hy => ?_) (fun h₁ tk F X => ?_) hco hgen hk
  · obtain rfl : y = (x, Value.ref a) := List.mem_singleton.mp hy
    rcases hx with e | e
    · exact .inl e
    · exact .inr ⟨e, cellsFrom_some _ _ _ (.inl e)⟩
  · refine wpAny_mono (body w s₀ s₁ { s₁ with heap := h₁, toks := tk } mg mb fa o pm cd doc a vs ns G Y ho (fd_plain hd) hcd hmg hobj hints hlen hg rfl F X) (fun f s' hq => ?_) (fun _ _ hq => hq)
    obtain ⟨rfl, h2, h3, h4⟩ := hq
    exact ⟨.inl ⟨.bool true, .bool true, [], rfl, fun _ => rfl, .bool true, post_true l _, fun _ => ⟨List.Pairwise.nil, fun _ hm => (nomatch hm)⟩⟩, h2, h3, h4⟩

/-- the same from a codeAny of the CALL (for a layer whose function contracts speak of calls) -/
theorem attach_call {l : OpenLaw} {n : Nat} {q : Program} {loose : List Str} {XP : (Str → Option Value) → Heap → Prop} {YP : World → Heap → Prop} {d : DefRec}
    (hn : l.most = some n) (hdf : d.params.defaults = [])
    (call : ∀ (w : World) (s₀ s₁ : Shared) (mg mb : Str → Option Value) (fa : Addr) (o : Obj) (pm cd doc : Value) (a : Addr) (vs : List Value) (ns : List Int),
      Ground q loose [] XP w s₀ mg mb s₁.heap → YP w s₁.heap →
      s₁.heap.get? fa = some o → o.data = .func (docDef d.name d.params d.body d.scope pm cd doc) → s₁.heap.CodeRec cd d.name → mg d.name = some (.ref fa) →
      s₁.heap.get? a = some { cls := .type "list", data := .seq vs.toArray } → IntsAre vs ns → ns.length ≤ n → s₁.gens = #[] →
      codeAny (model l.prog w) callerA (.call (.ref fa) ⟨[.ref a], []⟩) (fun r s' => r = .ok (.ret (.bool true)) ∧ OldK s₁.heap s'.heap ∧ s'.os = s₁.os ∧ AllBare s'.gens) s₁) :
    WalkO q loose XP YP l.row.toRowW d [] (fun f vs => PySem.call f vs) := by
  intro w s₀ s₁ mg mb G Y fa o pm cd doc dV kV ho hd hcd hD hmg hg args vals as hpre hlay hrd hwl hlo
  obtain rfl : dV = .none := Dflts.none hD hdf
  obtain rfl : kV = .none := Dflts.noKw hD
  obtain ⟨a, vs, ns, rfl, rfl, hobj, hints, hlen⟩ := script_of hn hpre hwl
  refine enter_call (codeAny_mono (call w s₀ s₁ mg mb fa o pm cd doc a vs ns G Y ho (fd_plain hd) hcd hmg hobj hints hlen hg) fun r s' hq => ?_)
  obtain ⟨rfl, h2, h3, h4⟩ := hq
  exact ⟨.inl ⟨.bool true, .bool true, [], rfl, fun _ => rfl, .bool true, post_true l _, fun _ => ⟨List.Pairwise.nil, fun _ hm => (nomatch hm)⟩⟩, h2, h3, h4⟩

/-- the same where the top left finished generators (o_head chose holds_openN): nothing may have changed at all and no generator may be left -/
theorem attachN {l : OpenLaw} {n : Nat} {q : Program} {loose : List Str} {XP : (Str → Option Value) → Heap → Prop} {YP : World → Heap → Prop} {d : DefRec} {x : Str}
    (hn : l.most = some n) (hdf : d.params.defaults = [])
    (hbind : ∀ pm cd doc v : Value, bindArgs (docDef d.name d.params d.body d.scope pm cd doc) ⟨[v], []⟩ = pure [(x, v)])
    (hx : d.scope.names.lookup x = some .local ∨ d.scope.names.lookup x = some .cell)
    (hk : d.scope.kind = .function) (hco : d.scope.isCoroutine = false) (hgen : d.scope.isGenerator = false)
    (body : ∀ (w : World) (s₀ s₁ s : Shared) (mg mb : Str → Option Value) (fa : Addr) (o : Obj) (pm cd doc : Value) (a : Addr) (vs : List Value) (ns : List Int),
      Ground q loose [] XP w s₀ mg mb s₁.heap → YP w s₁.heap →
      s₁.heap.get? fa = some o → o.data = .func (docDef d.name d.params d.body d.scope pm cd doc) → s₁.heap.CodeRec cd d.name → mg d.name = some (.ref fa) →
      s₁.heap.get? a = some { cls := .type "list", data := .seq vs.toArray } → IntsAre vs ns → ns.length ≤ n →
      s.gens = #[] → s.os = s₁.os →
      Fr s₁.heap s₁.heap.objs.size s.heap (bindL (envOfC d.name d.scope s₁.heap.objs.size fa cd).kindOf [(x, .ref a)] fun _ => none) →
      Cl s₁.heap.objs.size (cellsFrom (s₁.heap.objs.size + 1) d.scope.names []) s.heap (bindC (envOfC d.name d.scope s₁.heap.objs.size fa cd).kindOf [(x, .ref a)] fun _ => none) →
      wpAny (model l.prog w) (callerA.deeper (envOfC d.name d.scope s₁.heap.objs.size fa cd)) (execs d.body (envOfC d.name d.scope s₁.heap.objs.size fa cd))
        (fun f s' => f = .ret (.bool true) ∧ (∀ b o, s₁.heap.get? b = some o → s'.heap.get? b = some o) ∧ s'.os = s₁.os ∧ s'.gens = #[]) (fun _ _ => False) s) :
    WalkN q loose XP YP l.row.toRowW d [] (fun f vs => PySem.call f vs) := by
  intro w s₀ s₁ mg mb G Y fa o pm cd doc dV kV ho hd hcd hD hmg hg args vals as hpre hlay hrd hwl hlo
  obtain rfl : dV = .none := Dflts.none hD hdf
  obtain rfl : kV = .none := Dflts.noKw hD
  obtain ⟨a, vs, ns, rfl, rfl, hobj, hints, hlen⟩ := script_of hn hpre hwl
  refine enter_callW ?_
  refine call_cells_ret (o := o) (by rw [depth_caller]; decide) ho (fd_plain hd) G.T.nolimit hcd (hbind pm cd doc (.ref a)) (fun y hy => ?_) (fun h₁ tk F X => ?_) hco hgen hk
  · obtain rfl : y = (x, Value.ref a) := List.mem_singleton.mp hy
    rcases hx with e | e
    · exact .inl e
    · exact .inr ⟨e, cellsFrom_some _ _ _ (.inl e)⟩
  · refine wpAny_mono (body w s₀ s₁ { s₁ with heap := h₁, toks := tk } mg mb fa o pm cd doc a vs ns G Y ho (fd_plain hd) hcd hmg hobj hints hlen hg rfl F X) (fun f s' hq => ?_) (fun _ _ hq => hq)
    obtain ⟨rfl, h2, h3, h4⟩ := hq
    exact ⟨.inl ⟨.bool true, .bool true, [], rfl, fun _ => rfl, .bool true, post_true l _, fun _ => ⟨List.Pairwise.nil, fun _ hm => (nomatch hm)⟩⟩, h2, h3, h4⟩

/-! ### rules over ANY heap (no ledger) from facts about the written part K: the library's own take a ledger (News) for what they write -/
section
variable {prog : Program} {w : World} {A : Around} {E : Value → Shared → Prop} {s : Shared} {K : Frag}

/-- a def of the module, or a method (qual 'C.m'), entered: the frame is the next address; cells behind it -/
theorem call_fn {R : Result → Shared → Prop} {name qual : Str} {params : Arguments} {body : List Stmt} {scope : Scope} {dV kV doc pm cdv ct oc : Value} {an od : Option Addr} {osl : Array (Option Value)} {f : Addr} {args : Args} {binds : List (Str × Value)}
    (X : K.In s.heap) (hlim : s.heap.NoLimit) (ho : K.lookup f = some ⟨oc, od, .func (fnOf name qual params body scope dV kV doc pm an cdv ct), osl⟩) (hcd : codeIn K cdv qual = true) (hroom : A.depth < recursionLimit)
    (hbind : BindsTo s (fnOf name qual params body scope dV kV doc pm an cdv ct) args binds)
    (hkind : (binds.all fun y => scope.names.lookup y.1 == some .local || scope.names.lookup y.1 == some .cell) = true)
    (h : ∀ s₁, InCallC s s.heap.objs.size (bindL (envOfC qual scope s.heap.objs.size f cdv).kindOf binds fun _ => none) (cellsFrom (s.heap.objs.size + 1) scope.names [])
        (bindC (envOfC qual scope s.heap.objs.size f cdv).kindOf binds fun _ => none) s₁ →
      wpAny (model prog w) (A.deeper (envOfC qual scope s.heap.objs.size f cdv)) (execs body (envOfC qual scope s.heap.objs.size f cdv))
        (fun fl s' => R (.ok (.ret (match fl with | .ret v => v | _ => .none))) s')
        (fun e s' => wpAny (model prog w) (A.deeper (envOfC qual scope s.heap.objs.size f cdv)) (leaving (envOfC qual scope s.heap.objs.size f cdv) e) (fun _ s'' => R (.error e) s'') (fun e' s'' => R (.error e') s'') s') s₁)
    (hco : scope.isCoroutine = false) (hgen : scope.isGenerator = false) (hk : scope.kind = .function) : codeAny (model prog w) A (.call (.ref f) args) R s := by
  refine codeAny_call_function hroom (X _ _ ho) rfl hco hgen rfl (codeRec_of X hcd) (hbind _ _ _ _ ?_)
  refine wpAny_newFunctionEnv_cells hk (kindsX hkind _) fun env he s₁ x => ?_
  subst he
  exact ⟨hlim.keeps x.toInCall.keep, codeAny_func (h s₁ x)⟩

/-- C(..): dict at size, instance at size + 1, then __init__ -/
theorem make_obj {R : Result → Shared → Prop} {C fI : Addr} {rest : List Value} {kw : List (Str × Value)}
    (X : K.In s.heap) (hm : makesIn K C = true) (hi : findIn K (.ref C) "__init__" = some (some (.ref fI))) (hf : isFn K (.ref fI) = true)
    (h : codeAny (model prog w) (A.under (.builtin "type.__call__" ⟨.ref C :: rest, kw⟩)) (.call (.ref fI) ⟨.ref (s.heap.objs.size + 1) :: rest, kw⟩) (InitBack (s.heap.objs.size + 1) R)
      { s with heap := (s.heap.push emptyDict).push (instObj C s.heap.objs.size) }) : codeAny (model prog w) A (.call (.ref C) ⟨rest, kw⟩) R s := by
  obtain ⟨hh, g, d, t, os⟩ := s
  exact make_core (makes_of X hm) (looks_findIn X hi) (fun self => bind_fn X self (beq_iff_eq.mp hf)) (.inl rfl) h

/-- x.name where the instance's dict holds the name and the class does not -/
theorem get_field {x C : Addr} {ox : Obj} {es : List DictEntry} {n : Nat} {name : Str} {expr : Bool} {v : Value} {Q : Value → Shared → Prop}
    (X : K.In s.heap) (I : PySem.W.InstAt s.heap x ox C (some (dictOf es n))) (hg : plainGet K C name = true) (hh : hasDictIn K C = true) (ha : findIn K (.ref C) name = some none)
    (hl : getL name es = some (some v)) (hv : handedIn v = true) (h : Q v { s with toks := s.toks + 1 }) : wpAny (model prog w) A (getAttr (.ref x) name expr) Q E s :=
  get_value X I (plainGet_of hg).1 (findObj_own hh ha rfl hl) hv h

/-- x.m(..): the method found in the class -/
theorem get_method {x C f : Addr} {ox : Obj} {es : List DictEntry} {n : Nat} {name : Str} {pl : Sem Bool} {Q : Value × List Value → Shared → Prop}
    (X : K.In s.heap) (I : PySem.W.InstAt s.heap x ox C (some (dictOf es n))) (hg : plainGet K C name = true) (hf : findIn K (.ref C) name = some (some (.ref f))) (ht : isFn K (.ref f) = true)
    (hl : getL name es = some none) (h : Q (.ref f, [.ref x]) s) : wpAny (model prog w) A (getMethod (.ref x) name pl) Q E s :=
  method_fn X I (plainGet_of hg).1 (plainGet_of hg).2 hf (beq_iff_eq.mp ht) (by show (lookIn name (dictOf es n)).map _ = _; rw [lookIn_dict, hl]; rfl) h

/-! the whole heap as the ledger: makes every rule that writes through a ledger a rule over any heap -/
def noObjs (h : Heap) : Heap := { h with objs := #[] }
theorem noObjs_get (h : Heap) (b : Addr) : (noObjs h).get? b = none := by
  cases e : (noObjs h).get? b with
  | none => rfl
  | some o => exact absurd (Heap.lt_size e) (Nat.not_lt_zero _)
def ledger (h : Heap) (L d : Addr) : List (Addr × Obj) := (List.range h.objs.size).filterMap fun a => if a = L ∨ a = d then none else (h.get? a).map fun o => (a, o)
theorem mem_ledger {h : Heap} {L d a : Addr} {o : Obj} : (a, o) ∈ ledger h L d ↔ a ≠ L ∧ a ≠ d ∧ h.get? a = some o := by
  unfold ledger
  rw [List.mem_filterMap]
  constructor
  · rintro ⟨b, _, e⟩
    split at e
    · cases e
    · rename_i hb
      obtain ⟨o', ho, e'⟩ := Option.map_eq_some_iff.mp e
      cases e'
      exact ⟨fun q => hb (.inl q), fun q => hb (.inr q), ho⟩
  · rintro ⟨n1, n2, ho⟩
    refine ⟨a, List.mem_range.mpr (Heap.lt_size ho), ?_⟩
    rw [if_neg (show ¬ (a = L ∨ a = d) from fun q => q.elim n1 n2), ho] <;> rfl
theorem news_ledger {h : Heap} {L d : Addr} {od : Obj} (hne : d ≠ L) (ho : h.get? d = some od) : News (noObjs h) L h ([] ++ (d, od) :: ledger h L d) := by
  rintro ⟨a, o⟩ hp
  rcases List.mem_cons.mp hp with e | hp
  · cases e
    exact ⟨ho, hne, noObjs_get _ _⟩
  · obtain ⟨n1, n2, e⟩ := mem_ledger.mp hp
    exact ⟨e, n1, noObjs_get _ _⟩
theorem fr_all {h : Heap} {L : Addr} {m : Str → Option Value} (n : h.Ns L m) : Fr (noObjs h) L h m :=
  ⟨n, fun b o e => (by rw [noObjs_get] at e; cases e), Nat.zero_le _⟩
/-- Upd of the head entry (for append_K, setItem_K ..) -/
theorem upd_ledger {h : Heap} {L d : Addr} {o o' : Obj} : Upd d o o' ((d, o) :: ledger h L d) ((d, o') :: ledger h L d) :=
  .head fun ⟨_, _⟩ hp => (mem_ledger.mp hp).2.1

/-- x.name = v over any heap: L is any namespace of the heap (the frame's, say): its map stays, its object is not told; all else but the dict stays -/
theorem set_field {x C dx L : Addr} {ox : Obj} {m : Str → Option Value} {es es' : List DictEntry} {n n' : Nat} {name : Str} {v : Value} {Q : Unit → Shared → Prop}
    (X : K.In s.heap) (I : PySem.W.InstAt s.heap x ox C (some (dictOf es n))) (hd : ox.dict = some dx) (hL : s.heap.Ns L m) (hne : dx ≠ L)
    (hs : findIn K (.ref C) "__setattr__" = some (some (.builtin "object.__setattr__"))) (hp : plainOver K C = true) (ht : takerIn K C name = some none) (hh : hasDictIn K C = true) (hl : (getL name es).isSome = true)
    (e : (putL name (PyData.keyHash w.params name) (.str name (s.toks + 1)) v es, putN name es n) = (es', n')) (hz : es'.length ≤ 1000)
    (h : ∀ h' : Heap, h'.Ns L m → h'.get? dx = some (dictOf es' n') → (∀ b o, b ≠ dx → b ≠ L → s.heap.get? b = some o → h'.get? b = some o) → Q () { s with heap := h', toks := s.toks + 2 }) :
    wpAny (model prog w) A (setAttr (.ref x) name v) Q E s := by
  obtain ⟨e1, e2⟩ := Prod.mk.inj e
  have hdx : s.heap.get? dx = some (dictOf es n) := by
    have := I.dict
    rw [hd] at this
    exact this
  refine set_plain X I hs (osa_dict (s := { s with toks := s.toks + 1 }) (h₀ := noObjs s.heap) (L := L) (m := m) (od := dictOf es n) (od' := dictOf es' n') (es := es') (n := n') (pre := []) (post := ledger s.heap L dx)
    (fr_all hL) (news_ledger hne hdx) X I hd hp ht hh hl (fun _ q => nomatch q) (fun ⟨_, _⟩ q => (mem_ledger.mp q).2.1) (by rw [putName_dict, e1, e2]) rfl hz fun h' F' N' => ?_)
  exact h h' F'.ns (N'.get (List.Mem.head _)) fun b o n1 n2 ho => N'.get (List.Mem.tail _ (mem_ledger.mpr ⟨n2, n1, ho⟩))
end
end Att

namespace L2
open PySem PySem.Spec PyProof.Rows

theorem vals_ints : ∀ {vs : List Value} {ns : List Int}, IntsAre vs ns → Vals (ns.map V.int) vs
  | _, _, .nil => .nil
  | _, _, .cons n t h => .cons ⟨t, rfl⟩ (vals_ints h)

/-- nothing is tracked but the script, known to the object (or it is an object of the module) -/
def Only (H : Hp) : Prop := ∀ b, H b = none ∨ ∃ o xs, H b = some (.frz o (.lst xs))

/-- THE HEAD: the law's promise, at the heap behind the top. F, the promise of the law's def, may use that base is part of the heap (so K.In base, base.Ns mainGlobals mg stand in Mod) -/
theorem law_call {P : Program} {w : World} {K : PySem.W.Frag} {mg mb : Str → Option Value} {CX : CXT} {k : Nat} {fa a : Addr} {fd : FuncData} {x : Str} {sp : Sp} {s₁ : Shared} {vs : List Value} {ns : List Int}
    (KX : K.In s₁.heap) (hns : s₁.heap.Ns mainGlobals mg) (hb : s₁.heap.Ns builtinsNs mb) (hbb : ∀ x : Str, x ≠ "__name__" → mb x = bootBuiltins x) (hlim : s₁.heap.NoLimit) (hg : s₁.gens = #[])
    (ha : s₁.heap.get? a = some { cls := .type "list", data := .seq vs.toArray }) (hi : IntsAre vs ns) (hl : ns.length ≤ sizeLine) (hr : Room k callerA)
    (F : ∀ base : Heap, K.In base → base.Ns mainGlobals mg → FnOk P w K mg base CX k fa fd [x] sp) (hbind : ∀ (s : Shared) (u : Value), BindsTo s fd ⟨[u], []⟩ [(x, u)])
    (hsp : ∀ H : Hp, Only H → SqL K H a (ns.map V.int) → sp [.ref a] H (fun v _ => v = .bl true) fun _ _ _ => False)
    (hCX : ∀ H e s', CX [] H s₁ (fun _ _ _ => False) e s' → False) :
    codeAny (model P w) callerA (.call (.ref fa) ⟨[.ref a], []⟩) (fun r s' => r = .ok (.ret (.bool true)) ∧ OldK s₁.heap s'.heap ∧ s'.os = s₁.os ∧ AllBare s'.gens) s₁ := by
  have rv := vals_ints hi
  have lenV := hi.length
  -- from an abstract heap in which nothing but the script may be tracked
  have core : ∀ H : Hp, Only H → SqL K H a (ns.map V.int) → HOk P w H s₁.heap → (∀ b, H b ≠ none → b = a) → (H a ≠ none → K.lookup a = none) →
      codeAny (model P w) callerA (.call (.ref fa) ⟨[.ref a], []⟩) (fun r s' => r = .ok (.ret (.bool true)) ∧ OldK s₁.heap s'.heap ∧ s'.os = s₁.os ∧ AllBare s'.gens) s₁ := by
    intro H hO hS hok hA hK
    have base_of : ∀ {b : Addr} {o : Obj}, s₁.heap.get? b = some o → H b = none → (hidT s₁.heap H).get? b = some o := fun e n => hidT_get e n
    have noA : ∀ {b : Addr} {o : Obj} {es : Array DictEntry} {ep : Nat}, s₁.heap.get? b = some o → o.data = .dict es ep → H b = none := fun {b o es ep} e d => by
      cases q : H b with
      | none => rfl
      | some u =>
        have e' : b = a := hA b (by rw [q]; simp)
        subst e'
        rw [ha] at e; cases e
        have d' : Data.seq vs.toArray _ = Data.dict es ep := d
        cases d'
    have nsK : ∀ {b : Addr} {m : Str → Option Value}, s₁.heap.Ns b m → (hidT s₁.heap H).Ns b m := fun {b m} ⟨o, es, ep, e, d, r⟩ => ⟨o, es, ep, base_of e (noA e d), d, r⟩
    have hKb : K.In (hidT s₁.heap H) := fun b o e => base_of (KX b o e) (by
      cases q : H b with
      | none => rfl
      | some u =>
        have e' : b = a := hA b (by rw [q]; simp)
        subst e'
        rw [hK (by rw [q]; simp)] at e; cases e)
    have hM : Mod K mg (hidT s₁.heap H) := ⟨hKb, nsK hns, ⟨mb, nsK hb, hbb⟩, let ⟨mc, h1, h2⟩ := hlim; ⟨mc, nsK h1, h2⟩⟩
    have e0 : Env0 P w K mg (hidT s₁.heap H) callerA [] s₁ H := ⟨rfl, hM, fun b o e => of_hidT e, Nat.le_of_eq (hidT_size _ _), trivial, fun b hb => absurd (show b ∈ ([] : List Addr) from hb) (by simp), hok, .of_eq hg⟩
    refine codeAny_mono ((F _ hKb (nsK hns)).run callerA [] s₁ H ⟨[.ref a], []⟩ [.ref a] [.ref a] _ _ hr e0 (hbind s₁ (.ref a)) (.cons rfl .nil) (hsp H hO hS)) fun r s' h => ?_
    cases r with
    | error e => exact (hCX H e s' h).elim
    | ok fl =>
      cases fl with
      | next => exact False.elim h
      | brk => exact False.elim h
      | cont => exact False.elim h
      | ret u =>
        obtain ⟨v, H', os, bare, un, hok', r', q⟩ := h
        have q' : v = .bl true := q
        subst q'
        obtain rfl : u = Value.bool true := r'
        refine ⟨rfl, OldK.of_keep fun b o e => ?_, os, bare⟩
        cases q : H b with
        | none => exact un.keep b o e q (by intro z; exact absurd (show b ∈ ([] : List Addr) from z) (by simp)) (by simp)
        | some u =>
          rcases hO b with z | ⟨ob, xs, z⟩
          · rw [q] at z; cases z
          · have z2 := un.frzs b ob _ z
            obtain ⟨e1, _⟩ := hok b _ z
            obtain ⟨e2, _⟩ := hok' b _ z2
            rw [e] at e1; cases e1
            exact e2
  cases hk : K.lookup a with
  | some o =>
    -- the script is one of the module's own objects
    have e := KX a o hk
    rw [ha] at e
    cases e
    refine core (fun _ => none) (fun _ => .inl rfl) (.inr ⟨_, vs.toArray, _, hk, rfl, rfl, rfl, by rw [List.size_toArray, lenV]; exact hl, by simpa using rv⟩) (fun b u z => by have z' : (none : Option HO) = some u := z; cases z') (fun b z => absurd rfl z) fun z => absurd rfl z
  | none =>
    refine core (fun b => if b = a then some (.frz { cls := .type "list", data := .seq vs.toArray } (.lst (ns.map V.int))) else none) (fun b => ?_) (.inl (.inr ⟨{ cls := .type "list", data := .seq vs.toArray }, if_pos rfl⟩)) (fun b u z => ?_) (fun b z => ?_) fun _ => hk
    · by_cases hb : b = a
      · exact .inr ⟨_, _, if_pos hb⟩
      · exact .inl (if_neg hb)
    · by_cases hb : b = a
      · have z' := (if_pos hb).symm.trans z
        cases z'
        subst hb
        exact ⟨ha, by rw [List.length_map]; exact hl, vs, _, rv, ha⟩
      · have z' := (if_neg hb).symm.trans z
        cases z'
    · by_cases hb : b = a
      · exact hb
      · exact absurd (if_neg hb) z
end L2

namespace L2
open PySem PySem.Spec PyProof.Rows

abbrev KOf {K : PySem.W.Frag} {h : Heap} (_ : K.In h) : PySem.W.Frag := K

/-- the goal that k_head leaves (case hc), from the law's promise. F gives the function object fd (K's own) once, then the promise over every base -/
theorem walk_of {l : PySem.W.OpenLaw} {n k : Nat} {q : Program} {loose : List Str} {XP : (Str → Option Value) → Heap → Prop} {YP : World → Heap → Prop} {d : DefRec} {K : Params → PySem.W.Frag} {CX : World → CXT} {sp : World → Sp} {x : Str}
    (hn : l.most = some n) (hn2 : n ≤ sizeLine) (hdf : d.params.defaults = []) (hr : Room k callerA)
    (hY : ∀ (w : World) (h : Heap), YP w h → (K w.params).In h)
    (F : ∀ (w : World) (mg : Str → Option Value) (fa : Addr) (h : Heap), (K w.params).In h → h.Ns mainGlobals mg → mg d.name = some (.ref fa) →
      ∃ fd : FuncData, (∀ (s : Shared) (u : Value), BindsTo s fd ⟨[u], []⟩ [(x, u)]) ∧
        ∀ base : Heap, (K w.params).In base → base.Ns mainGlobals mg → FnOk l.prog w (K w.params) mg base (CX w) k fa fd [x] (sp w))
    (hsp : ∀ (w : World) (H : Hp) (a : Addr) (ns : List Int), ns.length ≤ n → Only H → SqL (K w.params) H a (ns.map V.int) → sp w [.ref a] H (fun v _ => v = .bl true) fun _ _ _ => False)
    (hCX : ∀ (w : World) (H : Hp) (s : Shared) (e : Value) (s' : Shared), CX w [] H s (fun _ _ _ => False) e s' → False) :
    PySem.W.WalkO q loose XP YP l.row.toRowW d [] (fun f vs => PySem.call f vs) := by
  refine Att.attach_call hn hdf fun w s₀ s₁ mg mb fa o pm cd doc a vs ns G Y ho hd hcd hmg hobj hints hlen hg => ?_
  have KX := hY w _ Y
  obtain ⟨fd, hb, hF⟩ := F w mg fa _ KX G.T.g hmg
  exact law_call KX G.T.g G.T.b G.T.builtins G.T.nolimit hg hobj hints (Nat.le_trans hlen hn2) hr hF hb (fun H hO hS => hsp w H a ns hlen hO hS) fun H e s' => hCX w H s₁ e s'
/-- the same where the promise hangs on the written part alone: (sp := My.sp_law), no hole under a binder -/
theorem walk_ofK {l : PySem.W.OpenLaw} {n k : Nat} {q : Program} {loose : List Str} {XP : (Str → Option Value) → Heap → Prop} {YP : World → Heap → Prop} {d : DefRec} {K : Params → PySem.W.Frag} {CX : CXT} {sp : PySem.W.Frag → Sp} {x : Str}
    (hn : l.most = some n) (hn2 : n ≤ sizeLine) (hdf : d.params.defaults = []) (hr : Room k callerA)
    (hY : ∀ (w : World) (h : Heap), YP w h → (K w.params).In h)
    (F : ∀ (w : World) (mg : Str → Option Value) (fa : Addr) (h : Heap), (K w.params).In h → h.Ns mainGlobals mg → mg d.name = some (.ref fa) →
      ∃ fd : FuncData, (∀ (s : Shared) (u : Value), BindsTo s fd ⟨[u], []⟩ [(x, u)]) ∧
        ∀ base : Heap, (K w.params).In base → base.Ns mainGlobals mg → FnOk l.prog w (K w.params) mg base CX k fa fd [x] (sp (K w.params)))
    (hsp : ∀ (K : PySem.W.Frag) (H : Hp) (a : Addr) (ns : List Int), ns.length ≤ n → Only H → SqL K H a (ns.map V.int) → sp K [.ref a] H (fun v _ => v = .bl true) fun _ _ _ => False)
    (hCX : ∀ (H : Hp) (s : Shared) (e : Value) (s' : Shared), CX [] H s (fun _ _ _ => False) e s' → False) :
    PySem.W.WalkO q loose XP YP l.row.toRowW d [] (fun f vs => PySem.call f vs) :=
  walk_of (K := K) (CX := fun _ => CX) (sp := fun w => sp (K w.params)) hn hn2 hdf hr hY F (fun w H a ns h1 h2 h3 => hsp (K w.params) H a ns h1 h2 h3) fun _ H s e s' => hCX H s e s'
end L2


/-! SHORT WORDS over the layer: a def of the text, its body, what a loop and a test want. -/
namespace L2
open PySem PySem.Spec PyProof.Rows

/-! ### the text by places -/
/-- the j-th statement of a class's body -/
def inClass (s : Stmt) (j : Nat) : Stmt := match s with
  | .ClassDef _ _ _ body _ _ _ _ _ _ _ => body.getD j (.Pass ⟨0, 0, 0, 0⟩)
  | _ => .Pass ⟨0, 0, 0, 0⟩
def defArgs (s : Stmt) : Arguments := match s with
  | .FunctionDef _ a _ _ _ _ _ _ _ _ => a
  | _ => { posonlyargs := [], args := [], vararg := none, kwonlyargs := [], kw_defaults := [], kwarg := none, defaults := [] }
def defBody (s : Stmt) : List Stmt := match s with
  | .FunctionDef _ _ b _ _ _ _ _ _ _ => b
  | _ => []
def defScope (s : Stmt) : Scope := match s with
  | .FunctionDef _ _ _ _ _ _ sc _ _ _ => sc
  | _ => { kind := .function, names := [], isGenerator := false, isCoroutine := false }

/-! ### no exception leaves a def -/
abbrev CX0 : CXT := fun _ _ _ _ _ _ => False
abbrev E0 : XK := fun _ _ _ => False
theorem pass0 {X : Cx} : Passes CX0 X E0 := fun _ _ _ _ _ _ _ h => h.elim

/-! ### a def (or method) of the text as it stands behind the top -/
structure Fun (K : PySem.W.Frag) (x qual : Str) (st : Stmt) (f : Addr) (fd : FuncData) : Prop where
  ex : ∃ (oc : Value) (od : Option Addr) (kV doc pm : Value) (an : Option Addr) (cdv ct : Value) (osl : Array (Option Value)),
    fd = PySem.W.fnOf x qual (defArgs st) (defBody st) (defScope st) .none kV doc pm an cdv ct ∧ K.lookup f = some ⟨oc, od, .func fd, osl⟩ ∧ PySem.W.codeIn K cdv qual = true
  kp : PySem.W.keepIn K (.ref f) = true
section
variable {P : Program} {w : World} {K : PySem.W.Frag} {mg : Str → Option Value} {base : Heap}
/-- THE RULE for a def: its body as a term of rules, and the reading of that term -/
theorem Fun.ok {x qual : Str} {st : Stmt} {f : Addr} {fd : FuncData} {N ps : List Str} {k : Nat} {sp : Sp} (F : Fun K x qual st f fd) (S : FnScope N ps (defScope st)) (len : ∀ vs H Q E, sp vs H Q E → vs.length = ps.length)
    (hbody : ∀ (cdv : Value) (A : Around) (outer : List Env) (s : Shared) (H : Hp) (vs : List V) (Q : VK) (E : XK), Room k (A.deeper (envOfC qual (defScope st) s.heap.objs.size f cdv)) → sp vs H Q E →
      ∃ t, PSs (cxOf CX0 P w K mg base N qual (defScope st) f cdv A outer s H E).nox (defBody st) t ∧ t { nx := fun _ H' => Q .non H', rt := Q } (start N vs) H) : FnOk P w K mg base CX0 (k + 1) f fd ps sp := by
  obtain ⟨oc, od, kV, doc, pm, an, cdv, ct, osl, rfl, lk, hcd⟩ := F.ex
  refine fn_of lk hcd S len fun A outer s H vs Q E hr hsp => ?_
  obtain ⟨t, h, q⟩ := hbody cdv A outer s H vs Q E hr hsp
  exact ⟨t, h.nox, q⟩
/-- how its arguments bind (no defaults): h is «fun _ _ _ _ _ _ us hl => match us, hl with | [_, _], _ => rfl», one _ a parameter -/
theorem Fun.binds {x qual : Str} {st : Stmt} {f : Addr} {fd : FuncData} {ps : List Str} (F : Fun K x qual st f fd)
    (h : ∀ (kV doc pm : Value) (an : Option Addr) (cdv ct : Value) (us : List Value), us.length = ps.length → bindArgs (PySem.W.fnOf x qual (defArgs st) (defBody st) (defScope st) .none kV doc pm an cdv ct) ⟨us, []⟩ = pure (ps.zip us)) : Binds K fd ps [] := by
  obtain ⟨oc, od, kV, doc, pm, an, cdv, ct, osl, rfl, lk, hcd⟩ := F.ex
  exact .all (h kV doc pm an cdv ct)
theorem fun_mk {x qual : Str} {st : Stmt} {f : Addr} {oc : Value} {od an : Option Addr} {osl : Array (Option Value)} {kV doc pm cdv ct : Value} (l : K.lookup f = some ⟨oc, od, .func (PySem.W.fnOf x qual (defArgs st) (defBody st) (defScope st) .none kV doc pm an cdv ct), osl⟩)
    (c : PySem.W.codeIn K cdv qual = true) (k : PySem.W.keepIn K (.ref f) = true) : Fun K x qual st f (PySem.W.fnOf x qual (defArgs st) (defBody st) (defScope st) .none kV doc pm an cdv ct) := ⟨⟨oc, od, kV, doc, pm, an, cdv, ct, osl, rfl, l, c⟩, k⟩
end
theorem hu_of {A : Around} {k : Nat} (hr : Room k A) : A.units + 1 < cLine := Nat.lt_of_le_of_lt (Nat.add_le_add_left (by decide : 1 ≤ 64) _) hr.units
theorem small1000 {n : Nat} (h : n ≤ 1000) : n < sizeLine := Nat.lt_of_le_of_lt h (by decide)

/-! ### expressions in short: the name that stands in the i-th slot -/
section
variable {X : Cx}
theorem pv (i : Nat) {x : Str} {pos : Pos} (hN : X.N[i]? = some x := by rfl) (hv : Vis X.env.scope x := by first | exact Or.inl rfl | exact Or.inr (Or.inl rfl) | exact Or.inr (Or.inr rfl)) (hd : (x == ("__debug__" : Str)) = false := by decide)
    (hcd : (x == ("__classdict__" : Str)) = false := by decide) : PE X (.Name x pos) (tVar i) := pe_var hN hv hd hcd
end

/-! ### tests -/
theorem iteF {A B : Prop} (h : B) : if false = true then A else B := by
  rw [if_neg Bool.false_ne_true]
  exact h
theorem iteT {A B : Prop} (h : A) : if true = true then A else B := by
  rw [if_pos rfl]
  exact h
theorem ite2 {c A B : Prop} [Decidable c] (h1 : c → A) (h2 : ¬ c → B) : if c then A else B := by
  by_cases h : c
  · rw [if_pos h]
    exact h1 h
  · rw [if_neg h]
    exact h2 h
theorem iteNS {c A B : Prop} [Decidable c] (hc : c) (h : B) : if (!decide c) = true then A else B := by
  rw [decide_eq_true hc]
  exact iteF h

/-! ### heaps -/
/-- all that was tracked is as it was -/
def Same (H H' : Hp) : Prop := ∀ b o, H b = some o → H' b = some o
theorem Same.refl (H : Hp) : Same H H := fun _ _ h => h
theorem Same.trans {H H1 H2 : Hp} (a : Same H H1) (b : Same H1 H2) : Same H H2 := fun c o h => b c o (a c o h)
theorem Same.free {H H' : Hp} (e : Same H H') {l : Addr} (h : H' l = Option.none) : H l = Option.none := by
  cases q : H l with
  | none => rfl
  | some o =>
    rw [e l o q] at h
    cases h
theorem Same.seq {K : PySem.W.Frag} {H H' : Hp} {a : Addr} {xs : List V} (e : Same H H') (h : SqL K H a xs) : SqL K H' a xs := by
  rcases h with (h | ⟨o, h⟩) | h
  · exact .inl (.inl (e _ _ h))
  · exact .inl (.inr ⟨o, e _ _ h⟩)
  · exact .inr h

end L2

namespace L2
open PySem PySem.Spec PyProof.Rows

/-! ### list comprehensions: the closure's cells -/
def clOf (env : Env) : List (Str × NameKind) → List (Str × Addr) → List (Str × Addr)
  | [], cs => cs
  | (n, k) :: r, cs => clOf env r (if k = .free then (n, (env.cells.lookup n).getD 0) :: cs else cs)
theorem closure_go {env : Env} (f : Str × NameKind → List (Str × Addr) → Sem (ForInStep (List (Str × Addr))))
    (hf : ∀ n k r, f (n, k) r = if k = .free then (cellOf env n >>= fun a => pure (.yield ((n, a) :: r))) else pure (.yield r)) :
    ∀ (l : List (Str × NameKind)) (cs : List (Str × Addr)), (∀ y ∈ l, y.2 = .free → ∃ c, env.cells.lookup y.1 = some c) → forIn l cs f = pure (clOf env l cs)
  | [], cs, _ => rfl
  | (n, k) :: r, cs, h => by
    rw [List.forIn_cons, hf]
    by_cases hk : k = .free
    · obtain ⟨c, hc⟩ := h (n, k) List.mem_cons_self hk
      rw [if_pos hk]
      unfold cellOf
      rw [hc]
      show (pure c >>= fun a => pure (ForInStep.yield ((n, a) :: cs))) >>= _ = _
      rw [pure_bind, pure_bind]
      show forIn r ((n, c) :: cs) f = _
      rw [closure_go f hf r _ fun y hy => h y (List.mem_cons_of_mem _ hy)]
      unfold clOf
      rw [if_pos hk, hc]
      cases r <;> rfl
    · rw [if_neg hk, pure_bind]
      show forIn r cs f = _
      rw [closure_go f hf r _ fun y hy => h y (List.mem_cons_of_mem _ hy)]
      conv => rhs; unfold clOf
      rw [if_neg hk]
theorem closureFor_clOf {scope : Scope} {env : Env} (h : ∀ y ∈ scope.names, y.2 = .free → ∃ c, env.cells.lookup y.1 = some c) : closureFor scope env = pure (clOf env scope.names []) := by
  unfold closureFor
  show (forIn scope.names ([] : List (Str × Addr)) _ >>= fun cs => pure cs) = _
  rw [closure_go (env := env) _ (fun n k r => ?_) scope.names [] h]
  · rfl
  · cases k <;> rfl
theorem clOf_lookup {env : Env} {x : Str} {c : Addr} : ∀ (l : List (Str × NameKind)) (cs : List (Str × Addr)), (∀ y ∈ l, y.2 = .free → ∃ c, env.cells.lookup y.1 = some c) →
    (∀ y d, cs.lookup y = some d → env.cells.lookup y = some d) → (clOf env l cs).lookup x = some c → env.cells.lookup x = some c
  | [], cs, _, hc, h => hc x c h
  | (n, k) :: r, cs, hl, hc, h => by
    unfold clOf at h
    by_cases hk : k = .free
    · rw [if_pos hk] at h
      obtain ⟨d, hd⟩ := hl (n, k) List.mem_cons_self hk
      refine clOf_lookup r _ (fun y hy => hl y (List.mem_cons_of_mem _ hy)) (fun y e q => ?_) h
      rw [hd] at q
      by_cases hy : y = n
      · subst hy
        rw [List.lookup_cons_self] at q
        have q' : d = e := Option.some.inj q
        rw [← q']; exact hd
      · have hb : (y == n) = false := beq_eq_false_iff_ne.mpr hy
        rw [List.lookup_cons, hb] at q
        exact hc y e q
    · rw [if_neg hk] at h
      exact clOf_lookup r _ (fun y hy => hl y (List.mem_cons_of_mem _ hy)) hc h
theorem clOf_has {env : Env} {x : Str} : ∀ (l : List (Str × NameKind)) (cs : List (Str × Addr)), ((x, NameKind.free) ∈ l ∨ ∃ c, cs.lookup x = some c) → ∃ c, (clOf env l cs).lookup x = some c
  | [], cs, h => h.elim (fun z => nomatch z) id
  | (n, k) :: r, cs, h => by
    unfold clOf
    refine clOf_has r _ ?_
    rcases h with h | ⟨c, h⟩
    · rcases List.mem_cons.mp h with e | e
      · cases e
        rw [if_pos rfl]
        exact .inr ⟨_, List.lookup_cons_self ..⟩
      · exact .inl e
    · right
      by_cases hk : k = .free
      · rw [if_pos hk]
        by_cases hx : x = n
        · subst hx; exact ⟨_, List.lookup_cons_self ..⟩
        · have hb : (x == n) = false := beq_eq_false_iff_ne.mpr hx
          rw [List.lookup_cons, hb]; exact ⟨c, h⟩
      · rw [if_neg hk]; exact ⟨c, h⟩
theorem lookup_relabel {env : Env} {x : Str} {k : NameKind} : ∀ {names : List (Str × NameKind)},
    (names.map fun (n, k) => if (k == NameKind.free && env.scope.kind == .function && env.kindOf n == some .cell) then (n, NameKind.cell) else (n, k)).lookup x = some k →
    ∃ k0, names.lookup x = some k0 ∧ (k = k0 ∨ (k = .cell ∧ k0 = .free))
  | [], h => by simp at h
  | (n, k1) :: r, h => by
    have ih := @lookup_relabel env x k r
    by_cases hc : (k1 == NameKind.free && env.scope.kind == .function && env.kindOf n == some .cell) = true
    · rw [List.map_cons] at h
      dsimp only at h
      rw [if_pos hc] at h
      cases hx : x == n with
      | true =>
        simp only [List.lookup_cons, hx] at h ⊢
        refine ⟨k1, rfl, .inr ⟨(Option.some.inj h).symm, ?_⟩⟩
        simp only [Bool.and_eq_true, beq_iff_eq] at hc
        exact hc.1.1
      | false =>
        simp only [List.lookup_cons, hx] at h ⊢
        exact ih h
    · rw [List.map_cons] at h
      dsimp only at h
      rw [if_neg hc] at h
      cases hx : x == n with
      | true =>
        simp only [List.lookup_cons, hx] at h ⊢
        exact ⟨k1, rfl, .inl (Option.some.inj h).symm⟩
      | false =>
        simp only [List.lookup_cons, hx] at h ⊢
        exact ih h

/-! ### the block's context -/
/-- names of the block: its targets, then those of X's slots js that it sees -/
abbrev Cx.seen (X : Cx) (js : List Nat) : List Str := js.map fun j => X.N.getD j (Str.ofString "")
abbrev Cx.comp (X : Cx) (scope : Scope) (T : List Str) (js : List Nat) (C : Addr) (s₀ : Shared) (H₀ : Hp) (ex : List Addr) (pn : List (Addr × Obj)) : Cx :=
  { X with N := T ++ X.seen js, s₀ := s₀, H₀ := H₀, env := compEnvC scope (clOf X.env scope.names []) C X.env, outer := X.stack, ex := ex, fn := fun _ => false, pn := pn, xe := fun _ _ => False }
/-- the block's slots at a turn's start -/
def seenV (js : List Nat) (σ : St) : St := js.map fun j => σ.getD j none
def cells0 (n : Nat) (js : List Nat) (σ : St) : St := List.replicate n none ++ seenV js σ

/-- what a scope of a comprehension must be (all by rfl) -/
structure CompSc (X : Cx) (scope : Scope) (T : List Str) (js : List Nat) : Prop where
  kind : scope.kind = .function
  cell : (scope.names.all fun y => decide (y.2 ≠ .cell)) = true
  loc : (scope.names.all fun y => decide (y.2 = .local → scope.names.lookup y.1 = some .local)) = true
  fr : (scope.names.all fun y => decide (y.2 = .free → (X.env.kindOf y.1 = some .cell ∨ X.env.kindOf y.1 = some .free))) = true
  seen : (js.all fun j => decide (scope.names.lookup (X.N.getD j (Str.ofString "")) = some .free)) = true

section
variable {X : Cx} {pins : List (Addr × Obj)} {σ : St} {H H2 H' : Hp} {s s2 : Shared} {scope : Scope} {T : List Str} {js : List Nat}
theorem CompSc.has (S : CompSc X scope T js) (I : Inv X pins σ H s) : ∀ y ∈ scope.names, y.2 = .free → ∃ c, X.env.cells.lookup y.1 = some c := fun y hy hf =>
  I.ok.has y.1 (of_decide_eq_true (List.all_eq_true.mp S.fr y hy) hf)

theorem comp_start {fp : List Addr} {D : Addr} {o : Obj} {h4 : Heap} {t4 : Nat} (S : CompSc X scope T js) (I : Inv X pins σ H s) (hc : X.calm = true) (hfp : ∀ b ∈ fp, FpOk X pins H b) (hob : ∀ b ∈ fp, ∃ o, s.heap.get? b = some o)
    (hD : s.heap.objs.size ≤ D) (hDo : h4.get? D = some o) (hod : ∀ v, o.data ≠ .cell v) {C : Addr} (hC : s.heap.objs.size ≤ C) (hDC : D ≠ C) (hk : ∀ b u, s.heap.get? b = some u → h4.get? b = some u) {m : Str → Option Value} (hm : h4.Ns C m) :
    Inv (X.comp scope T js C s H fp (X.pn ++ pins)) [(D, o)] (cells0 T.length js σ) H { s with heap := h4, toks := t4 } := by
  have hhas := S.has I
  have look : ∀ x c, (clOf X.env scope.names []).lookup x = some c → X.env.cells.lookup x = some c := fun x c e => clOf_lookup scope.names [] hhas (fun _ _ z => by simp at z) e
  have ltc : ∀ x c, X.env.cells.lookup x = some c → c < s.heap.objs.size := fun x c e => by obtain ⟨v, q⟩ := I.cell x c e; exact q.lt
  have ltp : ∀ p ∈ X.pn ++ pins, p.1 < s.heap.objs.size := fun p hp => Heap.lt_size (I.pin p hp).1
  have ltf : ∀ b ∈ fp, b < s.heap.objs.size := fun b hb => by obtain ⟨o, e⟩ := hob b hb; exact Heap.lt_size e
  have stk : ∀ b ∈ frs X.stack, b ≠ X.env.locals → b ∈ X.fs := fun b hb ne => (List.mem_cons.mp (I.stkSub b hb)).elim (fun z => absurd z ne) id
  have frC : H C = none := I.hok.fresh hC
  have frD : H D = none := I.hok.fresh hD
  refine ⟨⟨I.ok.mod, S.kind, I.ok.glob, I.ok.blt, hC, fun x y c h1 h2 => I.ok.inj x y c (look x c h1) (look y c h2), fun x hx => ?_, fun x c hf => (by cases hf), I.ok.hd, I.ok.frames, .inl rfl, fun b hb => ?_, I.bs, Nat.le_trans I.ok.bsz I.sz, fun b ob e hb => ?_, fun b hb hq => ?_, I.stack, I.stkFree⟩,
    rfl, I.bare, Un.kept hk, ⟨m, hm, fun i x v h1 h2 h3 => ?_⟩, fun x c e => ?_, frC, fun x c e => I.freeC x c (look x c e), fun p hp => ?_, I.hok.kept hk, ?_⟩
  · obtain ⟨k0, e0, hk0⟩ : ∃ k0, scope.names.lookup x = some k0 ∧ k0 = .free := by
      rcases hx with hx | hx
      · obtain ⟨k0, e0, q⟩ := lookup_relabel hx
        rcases q with q | q
        · exact absurd q.symm (of_decide_eq_true (List.all_eq_true.mp S.cell _ (PySem.mem_of_lookup e0)))
        · exact ⟨k0, e0, q.2⟩
      · obtain ⟨k0, e0, q⟩ := lookup_relabel hx
        rcases q with q | q
        · exact ⟨k0, e0, q.symm⟩
        · exact ⟨k0, e0, q.2⟩
    subst hk0
    exact clOf_has scope.names [] (.inl (PySem.mem_of_lookup e0))
  · refine ⟨Nat.ne_of_lt (Nat.lt_of_lt_of_le (ltf b hb) hC), fun x c e => (hfp b hb).2.2.2.2.1 x c (look x c e)⟩
  · obtain ⟨_, _, _, q, _⟩ := hfp b hb
    rcases q with q | q
    · exact I.ok.noex b ob e q
    · exact absurd (Nat.lt_of_lt_of_le (Heap.lt_size e) (Nat.le_trans I.ok.bsz q)) (Nat.lt_irrefl _)
  · obtain ⟨_, q1, q2, _⟩ := hfp b hb
    exact q2 (stk b hq q1)
  · -- the names that the block sees
    have h1' : (T ++ X.seen js)[i]? = some x := h1
    have hi : T.length ≤ i := by
      refine Nat.le_of_not_lt fun hlt => ?_
      unfold cells0 at h2
      rw [List.getElem?_append_left (by simpa using hlt), List.getElem?_replicate] at h2
      split at h2 <;> cases h2
    rw [List.getElem?_append_right hi] at h1'
    unfold cells0 at h2
    rw [List.getElem?_append_right (by simpa using hi), List.length_replicate] at h2
    unfold seenV at h2
    rw [List.getElem?_map] at h1' h2
    cases ej : js[i - T.length]? with
    | none => rw [ej] at h1'; cases h1'
    | some j =>
      rw [ej] at h1' h2
      have e1 : X.N.getD j (Str.ofString "") = x := Option.some.inj h1'
      have e2 : σ.getD j none = some v := Option.some.inj h2
      have hjf := of_decide_eq_true (List.all_eq_true.mp S.seen j (List.mem_of_getElem? ej))
      rw [e1] at hjf
      have eσ : σ[j]? = some (some v) := by
        rw [List.getD_eq_getElem?_getD] at e2
        cases q : σ[j]? with
        | none => rw [q] at e2; cases e2
        | some w => rw [q] at e2; exact congrArg some e2
      have hjl : j < X.N.length := by rw [← I.len]; exact (List.getElem?_eq_some_iff.mp eσ).1
      have eN : X.N[j]? = some x := by
        rw [List.getElem?_eq_getElem hjl]
        rw [List.getD_eq_getElem?_getD, List.getElem?_eq_getElem hjl] at e1
        exact congrArg some e1
      have kx := of_decide_eq_true (List.all_eq_true.mp S.fr _ (PySem.mem_of_lookup hjf)) rfl
      obtain ⟨m0, hn0, hl0⟩ := I.loc
      obtain ⟨u, ru, lk⟩ := hl0 j x v eN eσ (by rcases kx with q | q; exact .inr (.inl q); exact .inr (.inr q))
      refine ⟨u, ru, .inr ⟨?_, ?_⟩⟩
      · obtain ⟨k, hkx⟩ : ∃ k, (relabel scope X.env).names.lookup x = some k := by
          rcases h3 with q | q | q
          · exact ⟨_, q⟩
          · exact ⟨_, q⟩
          · exact ⟨_, q⟩
        obtain ⟨k0, e0, q⟩ := lookup_relabel hkx
        rw [hjf] at e0
        cases e0
        rcases q with q | q
        · subst q; exact .inr hkx
        · rw [q.1] at hkx; exact .inl hkx
      · rcases lk with ⟨kl, _⟩ | ⟨_, c, ec, zc⟩
        · rw [kl] at kx
          rcases kx with q | q <;> cases q
        · obtain ⟨c', ec'⟩ := clOf_has (env := X.env) scope.names [] (.inl (PySem.mem_of_lookup hjf))
          have e3 := look x c' ec'
          rw [ec] at e3
          cases e3
          refine ⟨c, ec', ?_⟩
          obtain ⟨oc, hoc, hd⟩ := zc
          exact ⟨oc, hk c oc hoc, hd⟩
  · obtain ⟨v, oc, hoc, hd⟩ := I.cell x c (look x c e)
    exact ⟨v, oc, hk c oc hoc, hd⟩
  · rcases List.mem_append.mp hp with hp | hp
    · obtain ⟨e, n, ne, nf, d⟩ := I.pin p hp
      refine ⟨hk p.1 p.2 e, n, Nat.ne_of_lt (Nat.lt_of_lt_of_le (ltp p hp) hC), fun z => nf (stk p.1 z ne), d⟩
    · obtain rfl : p = (D, o) := by simpa using hp
      refine ⟨hDo, frD, hDC, fun z => ?_, hod⟩
      obtain ⟨_, ob, e, _⟩ := I.stack.mem z
      exact absurd (Nat.lt_of_lt_of_le (Heap.lt_size e) hD) (Nat.lt_irrefl _)
  · show (cells0 T.length js σ).length = (T ++ X.seen js).length
    unfold cells0 seenV
    simp
end
end L2

namespace L2
open PySem PySem.Spec PyProof.Rows

section
variable {prog : Program} {w : World} {A : Around} {R : Result → Shared → Prop} {s : Shared}
theorem compLoop_gen {elt target iter : Expr} {ifs : List Expr} {scope : Scope} {pos : Pos} {it acc : Value} {env : Env} (I : Nat → Shared → Prop)
    (turn : ∀ n s, I n s → wpAny (model prog w) A (pyNext it) (fun r s₁ => match r with
      | none => R (.ok .next) s₁
      | some v => wpAny (model prog w) A (letOwnedTupleGo target it v) (fun _ s₁' => wpAny (model prog w) A (assign target env v) (fun _ s₂ =>
          wpAny (model prog w) A (forIn ifs true fun c r => if r = true then do let ok ← isTrue c env (eval c env); pure (ForInStep.yield ok) else pure (ForInStep.yield r)) (fun ok s₃ =>
            if ok = true then wpAny (model prog w) A (eval elt env) (fun x s₄ =>
              wpAny (model prog w) A (call (.builtin "list.append") [acc, x]) (fun _ s₅ => ∃ m, m < n ∧ I m s₅) (fun _ _ => False) s₄) (fun _ _ => False) s₃
            else ∃ m, m < n ∧ I m s₃) (fun _ _ => False) s₂) (fun _ _ => False) s₁') (fun _ _ => False) s₁) (fun _ _ => False) s)
    (n : Nat) (h : I n s) : codeAny (model prog w) A (.compLoop (.ListComp elt [⟨target, iter, ifs, 0⟩] scope pos) 0 it acc env) R s := by
  refine codeAny_loop rfl I (fun n s hI => ?_) n h
  show wpAny _ A ((compTurn (.ListComp elt [⟨target, iter, ifs, 0⟩] scope pos) 0 it acc env).onRaise (fun x => do noteFrame x env; theTreesLotGoes x)) _ _ s
  refine wpAny_noted (wpAny_noRaise ?_)
  rw [compTurn_list]
  refine wpAny_bind (wpAny_standAt (wpAny_bind (thn (turn n s hI) fun r s₁ h₁ => ?_)))
  cases r with
  | none => exact wpAny_pure h₁
  | some v =>
    refine wpAny_bind (thn h₁ fun _ s₁' h₁' => ?_)
    refine wpAny_bind (thn h₁' fun _ s₂ h₂ => wpAny_bind (thn h₂ fun ok s₃ h₃ => ?_))
    cases ok with
    | false => exact wpAny_pure ⟨rfl, h₃⟩
    | true => exact wpAny_bind (wpAny_bind (thn h₃ fun x s₄ h₄ => wpAny_bind (thn h₄ fun _ s₅ h₅ => wpAny_pure (wpAny_pure ⟨rfl, h₅⟩))))
end

/-! ### what stands in a block: tests and the element -/
abbrev TB := (V → Hp → Prop) → (Hp → Prop) → St → Hp → Prop
def PCB (X : Cx) (ifs : List Expr) (elt : Expr) (tb : TB) : Prop :=
  ∀ (pins : List (Addr × Obj)) (s : Shared) (σ : St) (H : Hp) (K : V → Hp → Prop) (N : Hp → Prop), Inv X pins σ H s → tb K N σ H →
    wpAny (model X.prog X.w) X.A (forIn ifs true fun c r => if r = true then do let ok ← isTrue c X.env (eval c X.env); pure (ForInStep.yield ok) else pure (ForInStep.yield r))
      (fun ok s3 => if ok = true then wpAny (model X.prog X.w) X.A (eval elt X.env) (fun u s4 => ∃ v H4, Inv X pins σ H4 s4 ∧ RelV v u ∧ K v H4) X.xe s3 else ∃ H3, Inv X pins σ H3 s3 ∧ N H3) X.xe s
def cbElt (te : TE) : TB := fun K _ σ H => te σ H K
def cbIf (tc : TT) (te : TE) : TB := fun K N σ H => tc σ H fun b H1 => if b = true then te σ H1 K else N H1
theorem pcb_elt {X : Cx} {elt : Expr} {te : TE} (he : PE X elt te) : PCB X [] elt (cbElt te) := by
  intro pins s σ H K N I h
  refine wpAny_tests_nil ?_
  rw [if_pos rfl]
  exact he pins s σ H K I h
theorem pcb_if {X : Cx} {c elt : Expr} {tc : TT} {te : TE} (hc : PT X c tc) (he : PE X elt te) : PCB X [c] elt (cbIf tc te) := by
  intro pins s σ H K N I h
  refine wpAny_tests_one (thn (hc pins s σ H _ I h) fun b s1 ⟨H1, I1, q1⟩ => ?_)
  cases b with
  | true =>
    rw [if_pos rfl] at q1 ⊢
    exact he pins s1 σ H1 K I1 q1
  | false =>
    rw [if_neg Bool.false_ne_true] at q1 ⊢
    exact ⟨H1, I1, q1⟩

/-- the reading: W by the turn, a measure, the items so far, the heap (the list itself is not in it) -/
def CompW (nT : Nat) (js : List Nat) (J : It) (g : TG) (tb : TB) (σ : St) (H1 : Hp) (Q : VK) : Prop :=
  ∃ W : Nat → Nat → List V → Hp → Prop, (∃ m, W 0 m [] H1) ∧ ∀ i m ys H2, W i m ys H2 →
    (J.stop i H2 ∧ ys.length ≤ sizeLine ∧ ∀ l, H2 l = none → Q (.ref l) (upd H2 l (.lst ys))) ∨
    (J.go i H2 ∧ ys.length < sizeLine ∧ ∃ N : List V → Hp → Prop, (∀ ys' H', N ys' H' → ∃ m', m' < m ∧ W (i + 1) m' ys' H') ∧ ∀ x H3, J.yld i H2 x H3 → g x (cells0 nT js σ) H3 fun σ4 H4 => σ4.drop nT = seenV js σ ∧
       tb (fun v H5 => N (ys ++ [v]) H5) (fun H5 => N ys H5) σ4 H4)
def tComp (nT : Nat) (js : List Nat) (wi : TI) (g : TG) (tb : TB) : TE := fun σ H Q => wi σ H fun J H1 => CompW nT js J g tb σ H1 Q

def lobj (its : List Value) (n : Nat) : Obj := { cls := .type "list", data := .seq its.toArray n }

section
variable {X : Cx} {pins : List (Addr × Obj)} {σ : St} {H2 : Hp} {s2 : Shared} {scope : Scope} {T : List Str} {js : List Nat}
theorem Un.track {fs ex : List Addr} {H H' : Hp} {h h' : Heap} {D : Addr} {o : HO} (u : Un fs ex H H' h h') (hD : h.objs.size ≤ D) (hn : H' D = none) : Un fs ex H (upd H' D o) h h' where
  keep := u.keep
  slot := u.slot
  free := fun b ob e n hx => by rw [upd_ne (Nat.ne_of_lt (Nat.lt_of_lt_of_le (Heap.lt_size e) hD))]; exact u.free b ob e n hx
  there := u.there
  tups := fun b xs e => by have q := u.tups b xs e; rw [upd_ne (ne_of_none q hn)]; exact q
  frzs := fun b ob w e => by have q := u.frzs b ob w e; rw [upd_ne (ne_of_none q hn)]; exact q
  tbls := fun b ps e => by obtain ⟨m, q⟩ := u.tbls b ps e; exact ⟨m, by rw [upd_ne (ne_of_none q hn)]; exact q⟩
theorem HOk.track {P : Program} {w : World} {H : Hp} {h : Heap} {D : Addr} {o : HO} (x : HOk P w H h) (hn : H D = none) (new : ObjOk P w (upd H D o) h D o) : HOk P w (upd H D o) h := fun b u e => by
  by_cases hb : b = D
  · subst hb; rw [upd_same] at e; cases e; exact new
  · rw [upd_ne hb] at e
    exact (x b u e).stay (fun c v _ q => q) (fun c q => by rw [upd_ne (ne_of_none q hn)]; exact q) fun c xs q => by rw [upd_ne (ne_of_none q hn)]; exact q

/-- the accumulated list (pinned) gets one item more -/
theorem acc_append {XC : Cx} {D : Addr} {its : List Value} {n : Nat} {σc : St} {H : Hp} {s : Shared} {u : Value} (I : Inv XC [(D, lobj its n)] σc H s) (hD : XC.s₀.heap.objs.size ≤ D) (hc : ∀ x c, XC.env.cells.lookup x = some c → c ≠ D)
    (hp : ∀ p ∈ XC.pn, p.1 ≠ D) (hz : its.length < sizeLine) :
    wpAny (model XC.prog XC.w) XC.A (call (.builtin "list.append") [.ref D, u]) (fun _ s5 => ∃ n', Inv XC [(D, lobj (its ++ [u]) n')] σc H s5 ∧ ∀ b o, b ≠ D → s.heap.get? b = some o → s5.heap.get? b = some o) (fun _ _ => False) s := by
  obtain ⟨e, hn, hL, hf, hd⟩ := I.pin (D, lobj its n) (List.mem_append_right _ (List.mem_singleton.mpr rfl))
  refine call_meets F.slot_list_append ⟨_, e, rfl⟩ F.entry_list_append (F.args_list_append_2 _ _) (PySem.list_append D its.toArray n u (by rw [List.size_toArray]; omega)) ⟨e, ?_⟩
  have q := PySem.IsL.update e (·.push u)
  have I0 : Inv XC [] σc H s := I.pins_of fun p hp => absurd hp (by simp)
  have k : ∀ b o, b ≠ D → s.heap.get? b = some o → (s.heap.update D (Obj.mapSeq (·.push u))).get? b = some o := fun b o hb e' => (Heap.get?_update_other s.heap (Obj.mapSeq (·.push u)) (Ne.symm hb)).trans e'
  have I1 : Inv XC [] σc H { s with heap := s.heap.update D (Obj.mapSeq (·.push u)) } :=
    I0.turned (it := D) (t' := s.toks) k hn hL (.inr hD) hc (fun p hp' => hp p (by simpa using hp'))
  refine ⟨(if ((its ++ [u]).toArray.size == its.toArray.size) = true then n else n + 1), I1.pins_of fun p hp' => ?_, k⟩
  obtain rfl : p = (D, lobj (its ++ [u]) (if ((its ++ [u]).toArray.size == its.toArray.size) = true then n else n + 1)) := by simpa using hp'
  refine ⟨?_, hn, hL, hf, fun v z => by cases z⟩
  have q' : (its.toArray.push u) = (its ++ [u]).toArray := by simp
  rw [q'] at q
  exact q

theorem comp_block {tg iter elt : Expr} {ifs : List Expr} {pos : Pos} {g : TG} {tb : TB} {it : Addr} {fp : List Addr} {tn : Nat → Heap → Prop} {J : It} {E : Value → Shared → Prop} {RR : Value → Addr → Result → Shared → Prop}
    (S : CompSc X scope T js) (hc : X.calm = true) (I : Inv X pins σ H2 s2) (TT : Turn X.prog X.w X.K tg J fp it tn) (st : tn 0 s2.heap) (hfp : ∀ b ∈ fp, FpOk X pins H2 b)
    (hg : ∀ C s₀ H₀ ex pn, PG (X.comp scope T js C s₀ H₀ ex pn) tg g) (hb : ∀ C s₀ H₀ ex pn, PCB (X.comp scope T js C s₀ H₀ ex pn) ifs elt tb) {Q : VK}
    (W : Nat → Nat → List V → Hp → Prop) (w0 : ∃ m, W 0 m [] H2)
    (turn : ∀ i m ys H2, W i m ys H2 →
      (J.stop i H2 ∧ ys.length ≤ sizeLine ∧ ∀ l, H2 l = none → Q (.ref l) (upd H2 l (.lst ys))) ∨
      (J.go i H2 ∧ ys.length < sizeLine ∧ ∃ N : List V → Hp → Prop, (∀ ys' H', N ys' H' → ∃ m', m' < m ∧ W (i + 1) m' ys' H') ∧ ∀ x H3, J.yld i H2 x H3 → g x (cells0 T.length js σ) H3 fun σ4 H4 => σ4.drop T.length = seenV js σ ∧
        tb (fun v H5 => N (ys ++ [v]) H5) (fun H5 => N ys H5) σ4 H4))
    (hRR : ∀ D C s' H' m, s2.heap.objs.size ≤ C → D ≠ C → s'.heap.Ns C m → H' C = none → Inv X pins σ H' s' → Q (.ref D) H' → RR (.ref D) C (.ok .next) s') :
    wpAny (model X.prog X.w) X.A (newList []) (fun acc s₃ => wpAny (model X.prog X.w) X.A (newFunctionEnv scope X.env.globals (clOf X.env scope.names []) [] X.env.qual none .none (some X.env)) (fun cenv s₄ =>
      codeAny (model X.prog X.w) X.A (.compStart (.ListComp elt [⟨tg, iter, ifs, 0⟩] scope pos) 0 (.ref it) acc { cenv with scope := relabel scope X.env }) (RR acc cenv.locals) s₄) E s₃) E s2 := by
  have ob : ∀ b ∈ fp, ∃ o, s2.heap.get? b = some o := fun b hb => by obtain ⟨o, e, _⟩ := TT.obj 0 _ st b hb; exact ⟨o, e⟩
  have ltf : ∀ b ∈ fp, b < s2.heap.objs.size := fun b hb => by obtain ⟨o, e⟩ := ob b hb; exact Heap.lt_size e
  have hcell : ∀ y ∈ scope.names, y.2 ≠ .cell := fun y hy => of_decide_eq_true (List.all_eq_true.mp S.cell y hy)
  refine wpAny_newObj_type (wpAny_newFunctionEnv hcell (by intro y hy; simp at hy) (fun h₁ hns₁ hsb₁ => ?_) S.kind)
  dsimp only at hns₁ hsb₁ ⊢
  generalize hHH : s2.heap.push { cls := .type "list", dict := none, data := .seq ([] : List Value).toArray } = HH at hns₁ hsb₁ ⊢
  have hC : HH.objs.size = s2.heap.objs.size + 1 := by rw [← hHH, Heap.size_push]
  have hDC : s2.heap.objs.size ≠ HH.objs.size := by rw [hC]; exact Nat.ne_of_lt (Nat.lt_succ_self _)
  have hCle : s2.heap.objs.size ≤ HH.objs.size := by rw [hC]; exact Nat.le_succ _
  have below : ∀ b, b < s2.heap.objs.size → b ≠ HH.objs.size := fun b hb => by rw [hC]; exact Nat.ne_of_lt (Nat.lt_succ_of_lt hb)
  have old : ∀ b o, s2.heap.get? b = some o → h₁.get? b = some o := fun b o e => hsb₁.extBut b o (below b (Heap.lt_size e)) (Heap.get?_push_of_some _ (hHH ▸ Heap.get?_push_of_some _ e))
  have hacc : h₁.get? s2.heap.objs.size = some (lobj [] 0) := hsb₁.extBut _ _ hDC (Heap.get?_push_of_some _ (hHH ▸ Heap.get?_push_size _ rfl))
  generalize hCC : HH.objs.size = C at *
  generalize hDD : s2.heap.objs.size = D at *
  have I4 : ∀ t4, Inv (X.comp scope T js C s2 H2 fp (X.pn ++ pins)) [(D, lobj [] 0)] (cells0 T.length js σ) H2 { s2 with heap := h₁, toks := t4 } := fun t4 =>
    comp_start S I hc hfp ob (Nat.le_of_eq hDD) hacc (fun v z => by cases z) (by rw [hDD]; exact hCle) hDC old hns₁
  have look : ∀ x c, (clOf X.env scope.names []).lookup x = some c → X.env.cells.lookup x = some c := fun x c e => clOf_lookup scope.names [] (S.has I) (fun _ _ z => by simp at z) e
  have ltc : ∀ x c, X.env.cells.lookup x = some c → c < D := fun x c e => by obtain ⟨v, q⟩ := I.cell x c e; rw [← hDD]; exact q.lt
  have ltp : ∀ p ∈ X.pn ++ pins, p.1 < D := fun p hp => by rw [← hDD]; exact Heap.lt_size (I.pin p hp).1
  have stat : ∀ {H' : Hp} {o : Obj}, (∀ b ∈ fp, H' b = none) → ∀ b ∈ fp, FpOk (X.comp scope T js C s2 H2 fp (X.pn ++ pins)) [(D, o)] H' b := fun hn b hb => by
    obtain ⟨_, q1, q2, q3, q4, q5⟩ := hfp b hb
    have lb : b < D := ltf b hb
    refine ⟨hn b hb, Nat.ne_of_lt (Nat.lt_of_lt_of_le lb hCle), fun z => ?_, .inl hb, fun x c e => q4 x c (look x c e), fun p hp => ?_⟩
    · exact (List.mem_cons.mp (I.stkSub b z)).elim q1 q2
    · rcases List.mem_append.mp hp with hp | hp
      · exact q5 p hp
      · obtain rfl : p = (D, _) := by simpa using hp
        exact Nat.ne_of_gt lb
  have loop : ∀ t4, codeAny (model X.prog X.w) X.A (.compLoop (.ListComp elt [⟨tg, iter, ifs, 0⟩] scope pos) 0 (.ref it) (.ref D) (compEnvC scope (clOf X.env scope.names []) C X.env)) (RR (.ref D) C) { s2 with heap := h₁, toks := t4 } := by
    intro t4
    obtain ⟨m0, w0⟩ := w0
    refine compLoop_gen (fun n s' => ∃ i ys H' its nn, Inv (X.comp scope T js C s2 H2 fp (X.pn ++ pins)) [(D, lobj its nn)] (cells0 T.length js σ) H' s' ∧ Vals ys its ∧ tn i s'.heap ∧ (∀ b ∈ fp, H' b = none) ∧ W i n ys H') ?_ m0
      ⟨0, [], H2, [], 0, I4 t4, .nil, TT.keep _ _ _ st fun b hb o e => old b o e, fun b hb => (hfp b hb).1, w0⟩
    rintro n s3 ⟨i, ys, H3, its, nn, I3, v3, st3, fr3, w3⟩
    rcases turn i n ys H3 w3 with ⟨stop, hz, q⟩ | ⟨go, hz, N, hN, step⟩
    · refine thn (TT.done (X.comp scope T js C s2 H2 fp (X.pn ++ pins)) rfl rfl rfl hc i _ s3 _ H3 _ I3 (stat fr3) st3 stop) fun r s4 ⟨hr, I5⟩ => ?_
      subst hr
      obtain ⟨e, hn, hL, hf, hd⟩ := I5.pin (D, lobj its nn) (List.mem_append_right _ (List.mem_singleton.mpr rfl))
      have hH : HOk X.prog X.w (upd H3 D (.lst ys)) s4.heap := I5.hok.track hn ⟨hz, its, nn, v3, e⟩
      have hU : Un (frs X.stack) fp H2 (upd H3 D (.lst ys)) s2.heap s4.heap := Un.track I5.base (Nat.le_of_eq hDD) hn
      have IX : Inv X pins σ (upd H3 D (.lst ys)) s4 := I.call' (ch := fp) I5.os hU hH I5.bare fun b hb => by
        obtain ⟨_, q1, q2, q3, q4, q5⟩ := hfp b hb
        exact ⟨q3, q1, q4, q5⟩
      obtain ⟨m, hm, _⟩ := I5.loc
      exact hRR D C s4 _ m hCle hDC hm (by rw [upd_ne (Ne.symm hDC)]; exact I5.free) IX (q D hn)
    · refine thn (TT.item (X.comp scope T js C s2 H2 fp (X.pn ++ pins)) rfl rfl rfl hc i _ s3 _ H3 _ I3 (stat fr3) st3 go) fun r s4 ⟨u, hr, h4⟩ => ?_
      subst hr
      refine thn h4 fun _ s5 ⟨x, H5, I5, r5, y5, st5, fr5⟩ => ?_
      have I5' := I5.pinned (stat fr5) (TT.obj _ _ st5)
      refine thn (hg C s2 H2 fp (X.pn ++ pins) _ s5 _ H5 x u _ I5' r5 (step x H5 y5)) fun _ s6 ⟨σ6, H6, I6, dr, q6⟩ => ?_
      have I6' : Inv (X.comp scope T js C s2 H2 fp (X.pn ++ pins)) ([(D, lobj its nn)] ++ pinsAt fp s5.heap) σ6 H6 s6 := I6
      refine thn (hb C s2 H2 fp (X.pn ++ pins) _ s6 σ6 H6 _ _ I6' q6) fun ok s7 q7 => ?_
      have back : ∀ {o : Obj} {s8 : Shared} {H8 : Hp}, Inv (X.comp scope T js C s2 H2 fp (X.pn ++ pins)) ([(D, o)] ++ pinsAt fp s5.heap) σ6 H8 s8 → Inv (X.comp scope T js C s2 H2 fp (X.pn ++ pins)) [(D, o)] (cells0 T.length js σ) H8 s8 ∧ tn (i + 1) s8.heap ∧ ∀ b ∈ fp, H8 b = none := fun {o s8 H8} I8 => by
        refine ⟨I8.unpinned.weak ?_ fun j v e => ?_, TT.keep _ _ _ st5 fun b hb o' e => (I8.pin (b, o') (List.mem_append_right _ (List.mem_append_right _ (mem_pinsAt hb e)))).1, fun b hb => ?_⟩
        · rw [I8.len]
          show (cells0 T.length js σ).length = (T ++ X.seen js).length
          unfold cells0 seenV
          simp
        · unfold cells0 at e
          by_cases hj : j < T.length
          · rw [List.getElem?_append_left (by simpa using hj), List.getElem?_replicate] at e
            split at e <;> cases e
          · rw [List.getElem?_append_right (by simpa using hj), List.length_replicate, ← dr, List.getElem?_drop] at e
            rw [show T.length + (j - T.length) = j by omega] at e
            exact e
        · obtain ⟨o', e, d⟩ := TT.obj _ _ st5 b hb
          exact (I8.pin (b, o') (List.mem_append_right _ (List.mem_append_right _ (mem_pinsAt hb e)))).2.1
      cases ok with
      | false =>
        rw [if_neg Bool.false_ne_true] at q7 ⊢
        obtain ⟨H7, I7, n7⟩ := q7
        obtain ⟨m', hm', w7⟩ := hN _ _ n7
        obtain ⟨J1, J2, J3⟩ := back I7
        exact ⟨m', hm', i + 1, ys, H7, its, nn, J1, v3, J2, J3, w7⟩
      | true =>
        rw [if_pos rfl] at q7 ⊢
        refine thn q7 fun u7 s8 ⟨v, H8, I8, r8, n8⟩ => ?_
        obtain ⟨m', hm', w8⟩ := hN _ _ n8
        obtain ⟨J1, J2, J3⟩ := back I8
        have lz : its.length < sizeLine := by rw [← v3.length]; exact hz
        refine thn (acc_append (XC := X.comp scope T js C s2 H2 fp (X.pn ++ pins)) (u := u7) J1 (Nat.le_of_eq hDD) (fun x c e => Nat.ne_of_lt (ltc x c (look x c e))) (fun p hp => Nat.ne_of_lt (ltp p hp)) lz) fun _ s9 ⟨n', I9, k9⟩ => ?_
        refine ⟨m', hm', i + 1, ys ++ [v], H8, its ++ [u7], n', I9, v3.append (.cons r8 .nil), TT.keep _ _ _ J2 fun b hb o e => k9 b o (Nat.ne_of_lt (ltf b hb)) e, J3, w8⟩
  exact codeAny_compStart_list (loop _) (TT.self _ 0 _ _ _ (TT.keep _ _ _ st fun b hb o e => old b o e) (loop _))

theorem CompSc.names (S : CompSc X scope T js) : ∀ y ∈ scope.names, y.2 = .local → scope.names.lookup y.1 = some .local := fun y hy => of_decide_eq_true (List.all_eq_true.mp S.loc y hy)

/-- the block's own dict goes -/
theorem Inv.dropC {C : Addr} {H' : Hp} {s s' : Shared} {h' : Heap} (I : Inv X pins σ H2 s) (hC : s.heap.objs.size ≤ C) (I' : Inv X pins σ H' s') (hn : H' C = none) (hs : Heap.SameBut C s'.heap h') : Inv X pins σ H' { s' with heap := h' } := by
  refine I'.turned (it := C) (t' := s'.toks) (fun b o hb e => (hs.2 b hb).trans e) hn (Nat.ne_of_gt (Nat.lt_of_lt_of_le I.lt hC)) (.inr (Nat.le_trans I.sz hC)) (fun x c e => ?_) fun p hp => ?_
  · obtain ⟨v, q⟩ := I.cell x c e
    exact Nat.ne_of_lt (Nat.lt_of_lt_of_le q.lt hC)
  · exact Nat.ne_of_lt (Nat.lt_of_lt_of_le (Heap.lt_size (I.pin p hp).1) hC)

/-- [elt for tg in iter (if ..)] -/
theorem pe_comp {tg iter elt : Expr} {ifs : List Expr} {pos : Pos} {wi : TI} {g : TG} {tb : TB} (T : List Str) (js : List Nat) (S : CompSc X scope T js) (hc : X.calm = true) (hi : PI X tg iter wi)
    (hg : ∀ C s₀ H₀ ex pn, PG (X.comp scope T js C s₀ H₀ ex pn) tg g) (hb : ∀ C s₀ H₀ ex pn, PCB (X.comp scope T js C s₀ H₀ ex pn) ifs elt tb)
    (hs : ∀ x, foldedSetIterable iter X.env x = pure x := by intro _; rfl) : PE X (.ListComp elt [⟨tg, iter, ifs, 0⟩] scope pos) (tComp T.length js wi g tb) := by
  intro pins s σ H Q I h
  rw [eval_ListComp]
  refine wpAny_comprehension_free (use := none) rfl hs (closureFor_clOf (S.has I)) S.kind S.names (thn (hi pins s σ H _ I h) fun v s1 h1 => thn h1 fun itv s2 h2 => ?_)
  obtain ⟨it, fp, tn, J, H2, e, I2, TT, st2, f2, W, w0, turn⟩ := h2
  subst e
  refine comp_block (RR := fun acc C => compPost (model X.prog X.w) X.A X.xe none (EP X pins σ Q) acc C) S hc I2 TT st2 f2 hg hb W w0 turn fun D C s' H' m hC hDC hm hn I' q => ?_
  exact ⟨m, hm, fun h' hs' => ⟨.ref D, H', I2.dropC hC I' hn hs', rfl, q⟩⟩

/-- x = [elt for tg in iter (if ..)], x a plain local on the same line: the store comes ahead of the block's end -/
theorem ps_setComp {tg iter elt : Expr} {ifs : List Expr} {pos pos' spos : Pos} {wi : TI} {g : TG} {tb : TB} {i : Nat} {x : Str} (T : List Str) (js : List Nat) (hN : X.N.Nodup) (hxi : X.N[i]? = some x) (hx : X.env.scope.names.lookup x = some .local)
    (S : CompSc X scope T js) (hc : X.calm = true) (hi : PI X tg iter wi)
    (hg : ∀ C s₀ H₀ ex pn, PG (X.comp scope T js C s₀ H₀ ex pn) tg g) (hb : ∀ C s₀ H₀ ex pn, PCB (X.comp scope T js C s₀ H₀ ex pn) ifs elt tb)
    (hsw : swapsWith (.ListComp elt [⟨tg, iter, ifs, 0⟩] scope pos) (some (.Name x pos')) spos.line X.env = pure true := by rfl)
    (hs : ∀ x, foldedSetIterable iter X.env x = pure x := by intro _; rfl) : PS X (.Assign [.Name x pos'] (.ListComp elt [⟨tg, iter, ifs, 0⟩] scope pos) spos) (tAsg (tComp T.length js wi g tb) (gName i)) := by
  intro pins s σ H D0 I h
  rw [exec_Assign_Name_used _ _ _ _ hsw]
  refine wpAny_bind (wpAny_standAt (wpAny_bind ?_))
  show wpAny _ X.A (do let _ ← comprehension (.ListComp elt [⟨tg, iter, ifs, 0⟩] scope pos) scope X.env _ (newList []) false (eval iter X.env) (some (assign (.Name x pos') X.env))) _ _ s
  refine wpAny_bind (thn (wpAny_comprehension_free (use := some (assign (.Name x pos') X.env)) (Q := fun _ s' => SP X pins D0 .next s') rfl hs (closureFor_clOf (S.has I)) S.kind S.names (thn (hi pins s σ H _ I h) fun v s1 h1 => thn h1 fun itv s2 h2 => ?_)) fun _ s' hq => wpAny_pure (wpAny_pure hq))
  obtain ⟨it, fp, tn, J, H2, e, I2, TT, st2, f2, W, w0, turn⟩ := h2
  subst e
  refine comp_block (Q := fun x H1 => gName i x σ H1 D0.nx) (RR := fun acc C => compPost (model X.prog X.w) X.A X.xe (some (assign (.Name x pos') X.env)) (fun _ s' => SP X pins D0 .next s') acc C) S hc I2 TT st2 f2 hg hb W w0 turn fun D C s' H' m hC hDC hm hn I' q => ?_
  show wpAny _ X.A (assign (.Name x pos') X.env (.ref D)) _ _ _
  have nC : X.env.locals ≠ C := Nat.ne_of_lt (Nat.lt_of_lt_of_le I2.lt hC)
  refine wpAny_assign_Name (store_ok2 I' hN hxi (.inl hx) (v := .ref D) rfl (fun s3 I3 hs3 => ?_) (.inr hx))
  obtain ⟨a, sb, ha⟩ := hs3
  have na : C ≠ a := by
    rcases ha with z | z
    · rw [z]; exact Ne.symm nC
    · obtain ⟨v, q⟩ := I2.cell x a z
      exact Ne.symm (Nat.ne_of_lt (Nat.lt_of_lt_of_le q.lt hC))
  refine ⟨m, hm.sameBut sb na, fun h' hs' => ⟨_, H', ?_, q⟩⟩
  refine I3.turned (it := C) (t' := s3.toks) (fun b o hb e => (hs'.2 b hb).trans e) hn (Ne.symm nC) (.inr (Nat.le_trans I2.sz hC)) (fun x c e => ?_) fun p hp => ?_
  · obtain ⟨v, q⟩ := I2.cell x c e
    exact Nat.ne_of_lt (Nat.lt_of_lt_of_le q.lt hC)
  · exact Nat.ne_of_lt (Nat.lt_of_lt_of_le (Heap.lt_size (I2.pin p hp).1) hC)
end

/-! ### the forms one uses -/
section
variable {nT : Nat} {js : List Nat} {g : TG} {tb : TB} {Q : VK} {σ : St} {H : Hp}
theorem comp_range {lo : Int} {n : Nat} (Pv : Nat → List V → Hp → Prop) (h0 : Pv 0 [] H) (hz : n ≤ sizeLine) (hlen : ∀ i ys H, Pv i ys H → ys.length ≤ i)
    (hs : ∀ i ys H, i < n → Pv i ys H → g (.int (lo + i)) (cells0 nT js σ) H fun σ4 H4 => σ4.drop nT = seenV js σ ∧ tb (fun v H5 => Pv (i + 1) (ys ++ [v]) H5) (fun H5 => Pv (i + 1) ys H5) σ4 H4)
    (hd : ∀ ys H, Pv n ys H → ∀ l, H l = none → Q (.ref l) (upd H l (.lst ys))) :
    CompW nT js (Itr lo n) g tb σ H Q := by
  refine ⟨fun i m ys H => m = n - i ∧ i ≤ n ∧ Pv i ys H, ⟨n, by simp, Nat.zero_le _, h0⟩, ?_⟩
  rintro i m ys H2 ⟨rfl, hi, p⟩
  have hl := hlen i ys H2 p
  by_cases hlt : i < n
  · refine .inr ⟨hlt, by omega, Pv (i + 1), fun ys' H' p' => ⟨n - (i + 1), by omega, rfl, hlt, p'⟩, fun x H3 y => ?_⟩
    obtain ⟨e, y⟩ := y
    subst e y
    exact hs i ys _ hlt p
  · have e : i = n := by omega
    subst e
    exact .inl ⟨Nat.le_refl _, by omega, hd ys H2 p⟩
theorem comp_list {K : PySem.W.Frag} {a : Addr} {xs : List V} (Pv : Nat → List V → Hp → Prop) (h0 : Pv 0 [] H) (hz : xs.length ≤ sizeLine) (hlen : ∀ i ys H, Pv i ys H → ys.length ≤ i) (hl : ∀ i ys H, i ≤ xs.length → Pv i ys H → SqL K H a xs)
    (hs : ∀ i x ys H, xs[i]? = some x → Pv i ys H → g x (cells0 nT js σ) H fun σ4 H4 => σ4.drop nT = seenV js σ ∧ tb (fun v H5 => Pv (i + 1) (ys ++ [v]) H5) (fun H5 => Pv (i + 1) ys H5) σ4 H4)
    (hd : ∀ ys H, Pv xs.length ys H → ∀ l, H l = none → Q (.ref l) (upd H l (.lst ys))) :
    CompW nT js (Itl K a) g tb σ H Q := by
  refine ⟨fun i m ys H => m = xs.length - i ∧ i ≤ xs.length ∧ Pv i ys H, ⟨xs.length, by simp, Nat.zero_le _, h0⟩, ?_⟩
  rintro i m ys H2 ⟨rfl, hi, p⟩
  have hl' := hlen i ys H2 p
  have q := hl i ys H2 hi p
  by_cases hlt : i < xs.length
  · refine .inr ⟨⟨xs, xs[i], q, by simp [hlt]⟩, by omega, Pv (i + 1), fun ys' H' p' => ⟨xs.length - (i + 1), by omega, rfl, hlt, p'⟩, fun x H3 y => ?_⟩
    obtain ⟨e, y⟩ := y
    subst e
    exact hs i x ys _ (y xs q) p
  · have e : i = xs.length := by omega
    subst e
    exact .inl ⟨⟨xs, q, Nat.le_refl _⟩, by omega, hd ys H2 p⟩
theorem comp_tup {K : PySem.W.Frag} {a : Addr} {xs : List V} (Pv : Nat → List V → Hp → Prop) (h0 : Pv 0 [] H) (hz : xs.length ≤ sizeLine) (hlen : ∀ i ys H, Pv i ys H → ys.length ≤ i) (hl : ∀ i ys H, i ≤ xs.length → Pv i ys H → SqT K H a xs)
    (hs : ∀ i x ys H, xs[i]? = some x → Pv i ys H → g x (cells0 nT js σ) H fun σ4 H4 => σ4.drop nT = seenV js σ ∧ tb (fun v H5 => Pv (i + 1) (ys ++ [v]) H5) (fun H5 => Pv (i + 1) ys H5) σ4 H4)
    (hd : ∀ ys H, Pv xs.length ys H → ∀ l, H l = none → Q (.ref l) (upd H l (.lst ys))) :
    CompW nT js (Itt K a) g tb σ H Q := by
  refine ⟨fun i m ys H => m = xs.length - i ∧ i ≤ xs.length ∧ Pv i ys H, ⟨xs.length, by simp, Nat.zero_le _, h0⟩, ?_⟩
  rintro i m ys H2 ⟨rfl, hi, p⟩
  have hl' := hlen i ys H2 p
  have q := hl i ys H2 hi p
  by_cases hlt : i < xs.length
  · refine .inr ⟨⟨xs, xs[i], q, by simp [hlt]⟩, by omega, Pv (i + 1), fun ys' H' p' => ⟨xs.length - (i + 1), by omega, rfl, hlt, p'⟩, fun x H3 y => ?_⟩
    obtain ⟨e, y⟩ := y
    subst e
    exact hs i x ys _ (y xs q) p
  · have e : i = xs.length := by omega
    subst e
    exact .inl ⟨⟨xs, q, Nat.le_refl _⟩, by omega, hd ys H2 p⟩
end
end L2

namespace L2
open PySem PySem.Spec PyProof.Rows

section
variable {X : Cx}
/-! ### isinstance, all, any -/
def clsV : V → Value
  | .ty n => .type n
  | .ref a => .ref a
  | _ => .none
theorem call_isinst : CallR X (.builtin "isinstance") (fun xs H Q => ∃ x c t b, xs = [x, c] ∧ (∀ u, RelV c u → u = clsV c) ∧ TyOf X.K H x t ∧ PySem.W.kitOne X.K t (clsV c) = some b ∧ Q (.bl b) H) := by
  intro pins s σ H xs us Q I r h
  obtain ⟨x, c, t, b, rfl, hcv, ty, e, q⟩ := h
  obtain ⟨u, u', rfl, r1, r2⟩ := r.two
  obtain rfl := hcv u' r2
  exact isinst_ok I r1 ty e fun tk => ⟨.bl b, H, I.tok tk, rfl, q⟩
theorem bools_of : ∀ {bs : List Bool} {us : List Value}, Vals (bs.map V.bl) us → LSm.BoolsAre us bs
  | [], _, .nil => .nil
  | b :: bs, _, .cons r t => by
    cases (show _ = Value.bool b from r)
    exact .cons b (bools_of t)
theorem call_all (hc : X.calm = true) : CallR X (.builtin "all") (fun xs H Q => ∃ p, ∃ bs : List Bool, xs = [.ref p] ∧ SqL X.K H p (bs.map V.bl) ∧ Q (.bl (bs.all id)) H) := by
  intro pins s σ H xs us Q I r h
  obtain ⟨p, bs, rfl, hq, q⟩ := h
  obtain ⟨u, rfl, r1⟩ := r.one
  cases r1
  obtain ⟨its, rv, pl, hz⟩ := I.list hq
  have hb := bools_of rv
  have hl := pl.isList
  have hh := I.ok.hd hc
  have hlt : p < s.heap.objs.size := by obtain ⟨_, e, _⟩ := hl; exact Heap.lt_size e
  refine call_all_walk (wpAny_pyIter_list hl ?_)
  refine ⟨s.heap.objs.size, [s.heap.objs.size, p], [s.heap.objs.size], its.toArray.size, _, _, fun i => (bs[i]?).getD true, rfl, Walks.list (A := X.A.in1) hh _ p (Nat.ne_of_lt hlt) its.toArray,
    ⟨⟨_, Heap.get?_push_size _ rfl, rfl, rfl⟩, hl.push _⟩, fun i v s' Q' E' hP hQ => ?_, fun h' tk hk => ?_⟩
  · obtain ⟨b, e, rfl⟩ := hb.get i v (by simpa using hP)
    simp only [e, Option.getD_some] at hQ
    exact wpAny_truthy_bool hQ
  · have e : ((List.range its.toArray.size).all fun i => (bs[i]?).getD true) = bs.all id := by
      rw [List.size_toArray, hb.length]; exact LSm.range_all bs
    rw [e]
    exact ⟨.bl _, H, I.kept (h' := h') (t' := tk) (LSm.kept_iter hk), rfl, q⟩
theorem call_any (hc : X.calm = true) : CallR X (.builtin "any") (fun xs H Q => ∃ p, ∃ bs : List Bool, xs = [.ref p] ∧ SqL X.K H p (bs.map V.bl) ∧ Q (.bl (bs.any id)) H) := by
  intro pins s σ H xs us Q I r h
  obtain ⟨p, bs, rfl, hq, q⟩ := h
  obtain ⟨u, rfl, r1⟩ := r.one
  cases r1
  obtain ⟨its, rv, pl, hz⟩ := I.list hq
  have hb := bools_of rv
  have hl := pl.isList
  have hh := I.ok.hd hc
  have hlt : p < s.heap.objs.size := by obtain ⟨_, e, _⟩ := hl; exact Heap.lt_size e
  refine call_any_walk (wpAny_pyIter_list hl ?_)
  refine ⟨s.heap.objs.size, [s.heap.objs.size, p], [s.heap.objs.size], its.toArray.size, _, _, fun i => (bs[i]?).getD false, rfl, Walks.list (A := X.A.in1) hh _ p (Nat.ne_of_lt hlt) its.toArray,
    ⟨⟨_, Heap.get?_push_size _ rfl, rfl, rfl⟩, hl.push _⟩, fun i v s' Q' E' hP hQ => ?_, fun h' tk hk => ?_⟩
  · obtain ⟨b, e, rfl⟩ := hb.get i v (by simpa using hP)
    simp only [e, Option.getD_some] at hQ
    exact wpAny_truthy_bool hQ
  · have e : ((List.range its.toArray.size).any fun i => (bs[i]?).getD false) = bs.any id := by
      rw [List.size_toArray, hb.length]; exact LSm.range_any bs
    rw [e]
    exact ⟨.bl _, H, I.kept (h' := h') (t' := tk) (LSm.kept_iter hk), rfl, q⟩
end

/-! ### plain data, and == at any depth -/
inductive Dt where
  | non | bl (b : Bool) | int (i : Int) | str (x : Str) | lst (xs : List Dt) | tup (xs : List Dt)
mutual
def IsD (H : Hp) : Dt → V → Prop
  | .non, v => v = .non
  | .bl b, v => v = .bl b
  | .int i, v => v = .int i
  | .str x, v => v = .str x
  | .lst ds, v => ∃ a xs, v = .ref a ∧ H a = some (.lst xs) ∧ IsDs H ds xs
  | .tup ds, v => ∃ a xs, v = .ref a ∧ H a = some (.tup xs) ∧ IsDs H ds xs
def IsDs (H : Hp) : List Dt → List V → Prop
  | [], xs => xs = []
  | d :: ds, xs => ∃ x r, xs = x :: r ∧ IsD H d x ∧ IsDs H ds r
end
mutual
def eqD : Dt → Dt → Bool
  | .non, .non => true
  | .bl a, .bl b => a == b
  | .bl a, .int b => (if a then 1 else 0) == b
  | .int a, .bl b => a == (if b then 1 else 0)
  | .int a, .int b => a == b
  | .str a, .str b => a == b
  | .lst as, .lst bs => eqDs as bs
  | .tup as, .tup bs => eqDs as bs
  | _, _ => false
def eqDs : List Dt → List Dt → Bool
  | [], [] => true
  | a :: as, b :: bs => eqD a b && eqDs as bs
  | _, _ => false
end
mutual
def depthD : Dt → Nat
  | .lst ds => depthDs ds + 1
  | .tup ds => depthDs ds + 1
  | _ => 0
def depthDs : List Dt → Nat
  | [] => 0
  | d :: ds => max (depthD d) (depthDs ds)
end
mutual
theorem eqD_refl : ∀ d : Dt, eqD d d = true
  | .non => by unfold eqD; rfl
  | .bl b => by unfold eqD; simp
  | .int b => by unfold eqD; simp
  | .str b => by unfold eqD; simp
  | .lst ds => by unfold eqD; exact eqDs_refl ds
  | .tup ds => by unfold eqD; exact eqDs_refl ds
theorem eqDs_refl : ∀ ds : List Dt, eqDs ds ds = true
  | [] => by unfold eqDs; rfl
  | d :: ds => by unfold eqDs; rw [eqD_refl d, eqDs_refl ds]; rfl
end
theorem IsDs.length {H : Hp} : ∀ {ds : List Dt} {xs : List V}, IsDs H ds xs → ds.length = xs.length
  | [], xs, h => by unfold IsDs at h; rw [h]; rfl
  | d :: ds, xs, h => by
    unfold IsDs at h
    obtain ⟨x, r, rfl, _, h⟩ := h
    simp [IsDs.length h]
theorem IsDs.get {H : Hp} : ∀ {ds : List Dt} {xs : List V} {i : Nat} {d : Dt}, IsDs H ds xs → ds[i]? = some d → ∃ x, xs[i]? = some x ∧ IsD H d x
  | [], xs, i, d, h, e => by simp at e
  | d' :: ds, xs, i, d, h, e => by
    unfold IsDs at h
    obtain ⟨x, r, rfl, hx, h⟩ := h
    cases i with
    | zero => simp at e; subst e; exact ⟨x, rfl, hx⟩
    | succ i => obtain ⟨y, e1, e2⟩ := IsDs.get (i := i) (d := d) h (by simpa using e); exact ⟨y, by simpa using e1, e2⟩
theorem IsDs.get' {H : Hp} {ds : List Dt} {xs : List V} {i : Nat} {x : V} (h : IsDs H ds xs) (e : xs[i]? = some x) : ∃ d, ds[i]? = some d ∧ IsD H d x := by
  have hi : i < ds.length := by rw [h.length]; exact (List.getElem?_eq_some_iff.mp e).1
  obtain ⟨y, e1, e2⟩ := h.get (List.getElem?_eq_getElem hi)
  rw [e] at e1
  cases e1
  exact ⟨_, List.getElem?_eq_getElem hi, e2⟩
mutual
theorem IsD.inj {H : Hp} : ∀ {d d' : Dt} {v : V}, IsD H d v → IsD H d' v → d = d'
  | .non, d', v, h, h' => by unfold IsD at h; subst h; cases d' <;> unfold IsD at h' <;> first | rfl | (cases h'; done) | (obtain ⟨_, _, z, _⟩ := h'; exact nomatch z)
  | .bl b, d', v, h, h' => by unfold IsD at h; subst h; cases d' <;> unfold IsD at h' <;> first | (cases h'; rfl) | (cases h'; done) | (obtain ⟨_, _, z, _⟩ := h'; exact nomatch z)
  | .int b, d', v, h, h' => by unfold IsD at h; subst h; cases d' <;> unfold IsD at h' <;> first | (cases h'; rfl) | (cases h'; done) | (obtain ⟨_, _, z, _⟩ := h'; exact nomatch z)
  | .str b, d', v, h, h' => by unfold IsD at h; subst h; cases d' <;> unfold IsD at h' <;> first | (cases h'; rfl) | (cases h'; done) | (obtain ⟨_, _, z, _⟩ := h'; exact nomatch z)
  | .lst ds, d', v, h, h' => by
    unfold IsD at h
    obtain ⟨a, xs, rfl, ha, hs⟩ := h
    cases d' <;> unfold IsD at h'
    case lst ds' =>
      obtain ⟨b, ys, e, hb, hs'⟩ := h'
      cases e
      rw [ha] at hb
      cases hb
      rw [IsDs.inj hs hs']
    case tup ds' =>
      obtain ⟨b, ys, e, hb, hs'⟩ := h'
      cases e
      rw [ha] at hb
      cases hb
    all_goals cases h'
  | .tup ds, d', v, h, h' => by
    unfold IsD at h
    obtain ⟨a, xs, rfl, ha, hs⟩ := h
    cases d' <;> unfold IsD at h'
    case tup ds' =>
      obtain ⟨b, ys, e, hb, hs'⟩ := h'
      cases e
      rw [ha] at hb
      cases hb
      rw [IsDs.inj hs hs']
    case lst ds' =>
      obtain ⟨b, ys, e, hb, hs'⟩ := h'
      cases e
      rw [ha] at hb
      cases hb
    all_goals cases h'
theorem IsDs.inj {H : Hp} : ∀ {ds ds' : List Dt} {xs : List V}, IsDs H ds xs → IsDs H ds' xs → ds = ds'
  | [], ds', xs, h, h' => by
    unfold IsDs at h; subst h
    cases ds' <;> unfold IsDs at h'
    · rfl
    · obtain ⟨_, _, e, _⟩ := h'; cases e
  | d :: ds, ds', xs, h, h' => by
    unfold IsDs at h
    obtain ⟨x, r, rfl, hx, hr⟩ := h
    cases ds' with
    | nil => unfold IsDs at h'; cases h'
    | cons d' ds' =>
      unfold IsDs at h'
      obtain ⟨y, r', e, hy, hr'⟩ := h'
      cases e
      rw [IsD.inj hx hy, IsDs.inj hr hr']
end
mutual
theorem IsD.mono {H H' : Hp} (e : Same H H') : ∀ {d : Dt} {v : V}, IsD H d v → IsD H' d v
  | .non, v, h => by unfold IsD at h ⊢; exact h
  | .bl _, v, h => by unfold IsD at h ⊢; exact h
  | .int _, v, h => by unfold IsD at h ⊢; exact h
  | .str _, v, h => by unfold IsD at h ⊢; exact h
  | .lst ds, v, h => by unfold IsD at h ⊢; obtain ⟨a, xs, h1, h2, h3⟩ := h; exact ⟨a, xs, h1, e _ _ h2, IsDs.mono e h3⟩
  | .tup ds, v, h => by unfold IsD at h ⊢; obtain ⟨a, xs, h1, h2, h3⟩ := h; exact ⟨a, xs, h1, e _ _ h2, IsDs.mono e h3⟩
theorem IsDs.mono {H H' : Hp} (e : Same H H') : ∀ {ds : List Dt} {xs : List V}, IsDs H ds xs → IsDs H' ds xs
  | [], xs, h => by unfold IsDs at h ⊢; exact h
  | d :: ds, xs, h => by unfold IsDs at h ⊢; obtain ⟨x, r, h1, h2, h3⟩ := h; exact ⟨x, r, h1, IsD.mono e h2, IsDs.mono e h3⟩
end
theorem eqDs_range : ∀ (as bs : List Dt), as.length = bs.length → eqDs as bs = (List.range as.length).all fun i => match as[i]?, bs[i]? with | some a, some b => eqD a b | _, _ => false
  | [], [], _ => by unfold eqDs; rfl
  | a :: as, b :: bs, h => by
    unfold eqDs
    rw [eqDs_range as bs (by simpa using h), List.length_cons, List.range_succ_eq_map, List.all_cons, List.all_map]
    rfl
  | [], _ :: _, h => by simp at h
  | _ :: _, [], h => by simp at h
theorem eqDs_len : ∀ (as bs : List Dt), as.length ≠ bs.length → eqDs as bs = false
  | [], [], h => absurd rfl h
  | a :: as, b :: bs, h => by
    unfold eqDs
    rw [eqDs_len as bs (by simpa using h), Bool.and_false]
  | [], _ :: _, _ => by unfold eqDs; rfl
  | _ :: _, [], _ => by unfold eqDs; rfl
section
variable {X : Cx} {pins : List (Addr × Obj)} {σ : St} {H : Hp} {s : Shared}
def eqIx (as bs : List Dt) (i : Nat) : Bool := match as[i]?, bs[i]? with | some a, some b => eqD a b | _, _ => false
theorem rc_lists (I : Inv X pins σ H s) {A : Around} {l b : Addr} {xs ys : List V} {ds es : List Dt} (hl : H l = some (.lst xs)) (hb : H b = some (.lst ys)) (h1 : IsDs H ds xs) (h2 : IsDs H es ys) (hu : A.units < cLine)
    (he : ∀ us ws, Vals xs us → Vals ys ws → ∀ (j : Nat) d e u w, ds[j]? = some d → es[j]? = some e → us[j]? = some u → ws[j]? = some w → SeqAt.EqAt A.in1 s u w (eqD d e)) : SeqAt.RcAt A s (.ref l) (.ref b) (eqDs ds es) := by
  obtain ⟨us, r1, p1, _⟩ := I.list (SqL.of (K := X.K) hl)
  obtain ⟨ws, r2, p2, _⟩ := I.list (SqL.of (K := X.K) hb)
  have n1 : us.length = ds.length := by rw [← r1.length, h1.length]
  have n2 : ws.length = es.length := by rw [← r2.length, h2.length]
  by_cases hsz : ds.length = es.length
  · have q := SeqAt.RcAt.lists (e := eqIx ds es) p1.isList p2.isList (by simp [n1, n2, hsz]) hu (fun j q1 q2 => by
      have j1 : j < us.length := by simpa using q1
      have j2 : j < ws.length := by simpa using q2
      have g1 : ds[j]? = some ds[j] := List.getElem?_eq_getElem (by omega)
      have g2 : es[j]? = some es[j] := List.getElem?_eq_getElem (by omega)
      have z := he us ws r1 r2 j _ _ us[j] ws[j] g1 g2 (List.getElem?_eq_getElem j1) (List.getElem?_eq_getElem j2)
      have ez : eqIx ds es j = eqD ds[j] es[j] := by unfold eqIx; rw [g1, g2]
      rw [ez]
      simpa using z)
    rw [eqDs_range ds es hsz]
    rw [List.size_toArray, n1] at q
    exact q
  · rw [eqDs_len ds es hsz]
    exact SeqAt.RcAt.lists_lengths p1.isList p2.isList (by simpa [n1, n2] using hsz) hu
theorem rc_tuples (I : Inv X pins σ H s) {A : Around} {l b : Addr} {xs ys : List V} {ds es : List Dt} (hl : H l = some (.tup xs)) (hb : H b = some (.tup ys)) (h1 : IsDs H ds xs) (h2 : IsDs H es ys) (hu : A.units < cLine)
    (he : ∀ us ws, Vals xs us → Vals ys ws → ∀ (j : Nat) d e u w, ds[j]? = some d → es[j]? = some e → us[j]? = some u → ws[j]? = some w → SeqAt.EqAt A.in1 s u w (eqD d e)) : SeqAt.RcAt A s (.ref l) (.ref b) (eqDs ds es) := by
  obtain ⟨us, r1, p1, _⟩ := I.tuple (SqT.of (K := X.K) hl)
  obtain ⟨ws, r2, p2, _⟩ := I.tuple (SqT.of (K := X.K) hb)
  have n1 : us.length = ds.length := by rw [← r1.length, h1.length]
  have n2 : ws.length = es.length := by rw [← r2.length, h2.length]
  have q := SeqAt.RcAt.tuples (e := eqIx ds es) (show s.heap.IsTuple l us.toArray from p1) (show s.heap.IsTuple b ws.toArray from p2) hu (fun j q1 q2 => by
      have j1 : j < us.length := by simpa using q1
      have j2 : j < ws.length := by simpa using q2
      have g1 : ds[j]? = some ds[j] := List.getElem?_eq_getElem (by omega)
      have g2 : es[j]? = some es[j] := List.getElem?_eq_getElem (by omega)
      have z := he us ws r1 r2 j _ _ us[j] ws[j] g1 g2 (List.getElem?_eq_getElem j1) (List.getElem?_eq_getElem j2)
      have ez : eqIx ds es j = eqD ds[j] es[j] := by unfold eqIx; rw [g1, g2]
      rw [ez]
      simpa using z)
  rw [List.size_toArray, List.size_toArray, n1, n2] at q
  by_cases hsz : ds.length = es.length
  · rw [← hsz, Nat.min_self] at q
    rw [eqDs_range ds es hsz]
    have e1 : (ds.length == ds.length) = true := beq_self_eq_true _
    rw [e1, Bool.and_true] at q
    exact q
  · rw [eqDs_len ds es hsz]
    have e0 : (ds.length == es.length) = false := beq_eq_false_iff_ne.mpr hsz
    rw [e0, Bool.and_false] at q
    exact q
theorem depthDs_mem : ∀ {ds : List Dt} {j : Nat} {d : Dt}, ds[j]? = some d → depthD d ≤ depthDs ds
  | [], j, d, h => by simp at h
  | d' :: ds, j, d, h => by
    unfold depthDs
    cases j with
    | zero => simp at h; subst h; exact Nat.le_max_left _ _
    | succ j => exact Nat.le_trans (depthDs_mem (j := j) (by simpa using h)) (Nat.le_max_right _ _)
theorem IsDs.rel {H : Hp} {ds : List Dt} {xs : List V} {us : List Value} {j : Nat} {d : Dt} {u : Value} (h : IsDs H ds xs) (r : Vals xs us) (g : ds[j]? = some d) (g' : us[j]? = some u) : ∃ x, IsD H d x ∧ RelV x u := by
  obtain ⟨x, e, hx⟩ := h.get g
  obtain ⟨u', e', ru⟩ := r.get e
  rw [g'] at e'
  cases e'
  exact ⟨x, hx, ru⟩
def flatD : Dt → V
  | .non => .non
  | .bl b => .bl b
  | .int i => .int i
  | .str x => .str x
  | _ => .ref 0
def isFlat : Dt → Bool
  | .lst _ => false
  | .tup _ => false
  | _ => true
theorem IsD.flat {H : Hp} {d : Dt} {v : V} (h : IsD H d v) (f : isFlat d = true) : v = flatD d := by
  cases d with
  | lst _ => cases f
  | tup _ => cases f
  | _ => unfold IsD at h; exact h
theorem eqD_flat {d e : Dt} (f : isFlat d = true) (g : isFlat e = true) : eqD d e = eqV (flatD d) (flatD e) := by
  cases d <;> first | cases f | skip
  all_goals cases e <;> first | cases g | skip
  all_goals (unfold eqD; rfl)
theorem flat_flat {d : Dt} (f : isFlat d = true) : flatV (flatD d) = true := by
  cases d <;> first | rfl | cases f
/-- a list or a tuple against a flat value -/
theorem eqD_seq_flat {d e : Dt} (f : isFlat d = false) (g : isFlat e = true) : eqD d e = false := by
  cases d <;> first | cases f | skip
  all_goals cases e <;> first | cases g | skip
  all_goals (unfold eqD; rfl)
theorem eqD_flat_seq {d e : Dt} (f : isFlat d = true) (g : isFlat e = false) : eqD d e = false := by
  cases d <;> first | cases f | skip
  all_goals cases e <;> first | cases g | skip
  all_goals (unfold eqD; rfl)
theorem eqAt_lst_flat {A : Around} {a : Addr} {items : Array Value} (hl : s.heap.IsList a items) (hu : A.units < cLine) {x : V} {w : Value} (fx : flatV x = true) (r : RelV x w) : SeqAt.EqAt A s (.ref a) w false := by
  cases x with
  | non => obtain rfl : w = Value.none := r; exact SeqAt.EqAt.list_none hl hu
  | bl b => obtain rfl : w = Value.bool b := r; exact SeqAt.EqAt.list_bool b hl hu
  | int b => obtain ⟨t, rfl⟩ := r; exact SeqAt.EqAt.list_int b t hl hu
  | str b => obtain ⟨t, rfl⟩ := r; exact SeqAt.EqAt.list_str b t hl hu
  | _ => exact absurd (show false = true from fx) Bool.false_ne_true
theorem eqAt_tup_flat {A : Around} {a : Addr} {items : Array Value} (hl : s.heap.IsTuple a items) (hu : A.units < cLine) {x : V} {w : Value} (fx : flatV x = true) (r : RelV x w) : SeqAt.EqAt A s (.ref a) w false := by
  cases x with
  | non => obtain rfl : w = Value.none := r; exact SeqAt.EqAt.tuple_none hl hu
  | bl b => obtain rfl : w = Value.bool b := r; exact SeqAt.EqAt.tuple_bool b hl hu
  | int b => obtain ⟨t, rfl⟩ := r; exact SeqAt.EqAt.tuple_int b t hl hu
  | str b => obtain ⟨t, rfl⟩ := r; exact SeqAt.EqAt.tuple_str b t hl hu
  | _ => exact absurd (show false = true from fx) Bool.false_ne_true
theorem eqAt_flat_lst {A : Around} {a : Addr} {items : Array Value} (hl : s.heap.IsList a items) (hu : A.units < cLine) {x : V} {w : Value} (fx : flatV x = true) (r : RelV x w) : SeqAt.EqAt A s w (.ref a) false := by
  cases x with
  | non => obtain rfl : w = Value.none := r; exact SeqAt.EqAt.none_list hl hu
  | bl b => obtain rfl : w = Value.bool b := r; exact SeqAt.EqAt.bool_list b hl hu
  | int b => obtain ⟨t, rfl⟩ := r; exact SeqAt.EqAt.int_list b t hl hu
  | str b => obtain ⟨t, rfl⟩ := r; exact SeqAt.EqAt.str_list b t hl hu
  | _ => exact absurd (show false = true from fx) Bool.false_ne_true
theorem eqAt_flat_tup {A : Around} {a : Addr} {items : Array Value} (hl : s.heap.IsTuple a items) (hu : A.units < cLine) {x : V} {w : Value} (fx : flatV x = true) (r : RelV x w) : SeqAt.EqAt A s w (.ref a) false := by
  cases x with
  | non => obtain rfl : w = Value.none := r; exact SeqAt.EqAt.none_tuple hl hu
  | bl b => obtain rfl : w = Value.bool b := r; exact SeqAt.EqAt.bool_tuple b hl hu
  | int b => obtain ⟨t, rfl⟩ := r; exact SeqAt.EqAt.int_tuple b t hl hu
  | str b => obtain ⟨t, rfl⟩ := r; exact SeqAt.EqAt.str_tuple b t hl hu
  | _ => exact absurd (show false = true from fx) Bool.false_ne_true
/-- the two kinds of sequences -/
theorem IsD.seq {H : Hp} {d : Dt} {v : V} (h : IsD H d v) (f : isFlat d = false) : (∃ ds a xs, d = .lst ds ∧ v = .ref a ∧ H a = some (.lst xs) ∧ IsDs H ds xs) ∨ (∃ ds a xs, d = .tup ds ∧ v = .ref a ∧ H a = some (.tup xs) ∧ IsDs H ds xs) := by
  cases d with
  | lst ds => unfold IsD at h; obtain ⟨a, xs, h1, h2, h3⟩ := h; exact .inl ⟨ds, a, xs, rfl, h1, h2, h3⟩
  | tup ds => unfold IsD at h; obtain ⟨a, xs, h1, h2, h3⟩ := h; exact .inr ⟨ds, a, xs, rfl, h1, h2, h3⟩
  | _ => cases f
theorem eqD_ll (as bs : List Dt) : eqD (.lst as) (.lst bs) = eqDs as bs := by unfold eqD; rfl
theorem eqD_tt (as bs : List Dt) : eqD (.tup as) (.tup bs) = eqDs as bs := by unfold eqD; rfl
theorem eqD_lt (as bs : List Dt) : eqD (.lst as) (.tup bs) = false := by unfold eqD; rfl
theorem eqD_tl (as bs : List Dt) : eqD (.tup as) (.lst bs) = false := by unfold eqD; rfl
theorem depth_l (ds : List Dt) : depthD (.lst ds) = depthDs ds + 1 := by unfold depthD; rfl
theorem depth_t (ds : List Dt) : depthD (.tup ds) = depthDs ds + 1 := by unfold depthD; rfl
theorem eqAt_D (I : Inv X pins σ H s) : ∀ (n : Nat) (d e : Dt) (v x : V) (u w : Value) (A : Around), depthD d ≤ n → IsD H d v → IsD H e x → RelV v u → RelV x w → A.units + n < cLine → SeqAt.EqAt A s u w (eqD d e) := by
  intro n
  induction n with
  | zero =>
    intro d e v x u w A hd h1 h2 r1 r2 hu
    have hu0 : A.units < cLine := by omega
    have fd : isFlat d = true := by
      cases d with
      | lst ds => rw [depth_l] at hd; omega
      | tup ds => rw [depth_t] at hd; omega
      | _ => rfl
    obtain rfl := h1.flat fd
    cases fe : isFlat e with
    | true =>
      obtain rfl := h2.flat fe
      rw [eqD_flat fd fe]
      exact eqAt_V r1 r2 (flat_flat fd) (flat_flat fe)
    | false =>
      rw [eqD_flat_seq fd fe]
      rcases h2.seq fe with ⟨es, b, ys, rfl, rfl, hb, hs2⟩ | ⟨es, b, ys, rfl, rfl, hb, hs2⟩
      · obtain rfl : w = Value.ref b := r2
        obtain ⟨ws, _, p2, _⟩ := I.list (SqL.of (K := X.K) hb)
        exact eqAt_flat_lst p2.isList hu0 (flat_flat fd) r1
      · obtain rfl : w = Value.ref b := r2
        obtain ⟨ws, _, p2, _⟩ := I.tuple (SqT.of (K := X.K) hb)
        exact eqAt_flat_tup (show s.heap.IsTuple b ws.toArray from p2) hu0 (flat_flat fd) r1
  | succ n ih =>
    intro d e v x u w A hd h1 h2 r1 r2 hu
    have hu0 : A.units < cLine := by omega
    have hin : A.in1.units + n < cLine := by show A.units + 1 + n < cLine; omega
    cases fd : isFlat d with
    | true =>
      obtain rfl := h1.flat fd
      cases fe : isFlat e with
      | true =>
        obtain rfl := h2.flat fe
        rw [eqD_flat fd fe]
        exact eqAt_V r1 r2 (flat_flat fd) (flat_flat fe)
      | false =>
        rw [eqD_flat_seq fd fe]
        rcases h2.seq fe with ⟨es, b, ys, rfl, rfl, hb, hs2⟩ | ⟨es, b, ys, rfl, rfl, hb, hs2⟩
        · obtain rfl : w = Value.ref b := r2
          obtain ⟨ws, _, p2, _⟩ := I.list (SqL.of (K := X.K) hb)
          exact eqAt_flat_lst p2.isList hu0 (flat_flat fd) r1
        · obtain rfl : w = Value.ref b := r2
          obtain ⟨ws, _, p2, _⟩ := I.tuple (SqT.of (K := X.K) hb)
          exact eqAt_flat_tup (show s.heap.IsTuple b ws.toArray from p2) hu0 (flat_flat fd) r1
    | false =>
      have h1' := h1
      have h2' := h2
      rcases h1.seq fd with ⟨ds, a, xs, rfl, rfl, ha, hs⟩ | ⟨ds, a, xs, rfl, rfl, ha, hs⟩
      · obtain rfl : u = Value.ref a := r1
        obtain ⟨us, _, p1, _⟩ := I.list (SqL.of (K := X.K) ha)
        cases fe : isFlat e with
        | true =>
          obtain rfl := h2.flat fe
          rw [eqD_seq_flat fd fe]
          exact eqAt_lst_flat p1.isList hu0 (flat_flat fe) r2
        | false =>
          rcases h2.seq fe with ⟨es, b, ys, rfl, rfl, hb, hs2⟩ | ⟨es, b, ys, rfl, rfl, hb, hs2⟩
          · obtain rfl : w = Value.ref b := r2
            by_cases hab : a = b
            · subst hab
              rw [IsD.inj h1' h2', eqD_refl]
              exact SeqAt.EqAt.same _
            · rw [eqD_ll]
              refine SeqAt.EqAt.of_refs hab (rc_lists I ha hb hs hs2 hu0 fun us ws k1 k2 j d e u w g1 g2 g3 g4 => ?_)
              obtain ⟨x1, q1, q2⟩ := hs.rel k1 g1 g3
              obtain ⟨x2, q3, q4⟩ := hs2.rel k2 g2 g4
              exact ih d e x1 x2 u w A.in1 (by have := depthDs_mem g1; rw [depth_l] at hd; omega) q1 q3 q2 q4 hin
          · obtain rfl : w = Value.ref b := r2
            obtain ⟨ws, _, p2, _⟩ := I.tuple (SqT.of (K := X.K) hb)
            rw [eqD_lt]
            exact SeqAt.EqAt.list_tuple p1.isList (show s.heap.IsTuple b ws.toArray from p2) hu0
      · obtain rfl : u = Value.ref a := r1
        obtain ⟨us, _, p1, _⟩ := I.tuple (SqT.of (K := X.K) ha)
        cases fe : isFlat e with
        | true =>
          obtain rfl := h2.flat fe
          rw [eqD_seq_flat fd fe]
          exact eqAt_tup_flat (show s.heap.IsTuple a us.toArray from p1) hu0 (flat_flat fe) r2
        | false =>
          rcases h2.seq fe with ⟨es, b, ys, rfl, rfl, hb, hs2⟩ | ⟨es, b, ys, rfl, rfl, hb, hs2⟩
          · obtain rfl : w = Value.ref b := r2
            obtain ⟨ws, _, p2, _⟩ := I.list (SqL.of (K := X.K) hb)
            rw [eqD_tl]
            exact SeqAt.EqAt.tuple_list (show s.heap.IsTuple a us.toArray from p1) p2.isList hu0
          · obtain rfl : w = Value.ref b := r2
            by_cases hab : a = b
            · subst hab
              rw [IsD.inj h1' h2', eqD_refl]
              exact SeqAt.EqAt.same _
            · rw [eqD_tt]
              refine SeqAt.EqAt.of_refs hab (rc_tuples I ha hb hs hs2 hu0 fun us ws k1 k2 j d e u w g1 g2 g3 g4 => ?_)
              obtain ⟨x1, q1, q2⟩ := hs.rel k1 g1 g3
              obtain ⟨x2, q3, q4⟩ := hs2.rel k2 g2 g4
              exact ih d e x1 x2 u w A.in1 (by have := depthDs_mem g1; rw [depth_t] at hd; omega) q1 q3 q2 q4 hin

/-! ### == and != of lists and tuples -/
def rEqD : R2 := fun x y H Q => ∃ d e, IsD H d x ∧ IsD H e y ∧ isFlat d = false ∧ isFlat e = false ∧ depthD d ≤ 20 ∧ Q (.bl (eqD d e)) H
def rNeD : R2 := fun x y H Q => ∃ d e, IsD H d x ∧ IsD H e y ∧ isFlat d = false ∧ isFlat e = false ∧ depthD d ≤ 20 ∧ Q (.bl (!eqD d e)) H
theorem rcAt_D (I : Inv X pins σ H s) {d e : Dt} {v x : V} {u w : Value} {A : Around} (h1 : IsD H d v) (h2 : IsD H e x) (fd : isFlat d = false) (fe : isFlat e = false) (r1 : RelV v u) (r2 : RelV x w) (hd : depthD d ≤ 20) (hu : A.units + 20 < cLine) : SeqAt.RcAt A s u w (eqD d e) := by
  have hu0 : A.units < cLine := by omega
  have hin : A.in1.units + 19 < cLine := by show A.units + 1 + 19 < cLine; omega
  rcases h1.seq fd with ⟨ds, a, xs, rfl, rfl, ha, hs⟩ | ⟨ds, a, xs, rfl, rfl, ha, hs⟩
  · obtain rfl : u = Value.ref a := r1
    obtain ⟨us, _, p1, _⟩ := I.list (SqL.of (K := X.K) ha)
    rcases h2.seq fe with ⟨es, b, ys, rfl, rfl, hb, hs2⟩ | ⟨es, b, ys, rfl, rfl, hb, hs2⟩
    · obtain rfl : w = Value.ref b := r2
      rw [eqD_ll]
      refine rc_lists I ha hb hs hs2 hu0 fun us ws k1 k2 j d e u w g1 g2 g3 g4 => ?_
      obtain ⟨x1, q1, q2⟩ := hs.rel k1 g1 g3
      obtain ⟨x2, q3, q4⟩ := hs2.rel k2 g2 g4
      exact eqAt_D I 19 d e x1 x2 u w A.in1 (by have := depthDs_mem g1; rw [depth_l] at hd; omega) q1 q3 q2 q4 hin
    · obtain rfl : w = Value.ref b := r2
      obtain ⟨ws, _, p2, _⟩ := I.tuple (SqT.of (K := X.K) hb)
      rw [eqD_lt]
      exact SeqAt.RcAt.list_tuple p1.isList (show s.heap.IsTuple b ws.toArray from p2) hu0
  · obtain rfl : u = Value.ref a := r1
    obtain ⟨us, _, p1, _⟩ := I.tuple (SqT.of (K := X.K) ha)
    rcases h2.seq fe with ⟨es, b, ys, rfl, rfl, hb, hs2⟩ | ⟨es, b, ys, rfl, rfl, hb, hs2⟩
    · obtain rfl : w = Value.ref b := r2
      obtain ⟨ws, _, p2, _⟩ := I.list (SqL.of (K := X.K) hb)
      rw [eqD_tl]
      exact SeqAt.RcAt.tuple_list (show s.heap.IsTuple a us.toArray from p1) p2.isList hu0
    · obtain rfl : w = Value.ref b := r2
      rw [eqD_tt]
      refine rc_tuples I ha hb hs hs2 hu0 fun us ws k1 k2 j d e u w g1 g2 g3 g4 => ?_
      obtain ⟨x1, q1, q2⟩ := hs.rel k1 g1 g3
      obtain ⟨x2, q3, q4⟩ := hs2.rel k2 g2 g4
      exact eqAt_D I 19 d e x1 x2 u w A.in1 (by have := depthDs_mem g1; rw [depth_t] at hd; omega) q1 q3 q2 q4 hin
end
section
variable {X : Cx}
theorem op_eqD (hu : X.A.units + 20 < cLine) : OpR X (compareOp .Eq) rEqD := by
  intro pins s σ H x y v u Q I rx ry h
  obtain ⟨d, e, h1, h2, s1, s2, hd, q⟩ := h
  exact rcAt_D I h1 h2 s1 s2 rx ry hd hu X.prog X.w X.xe _ ⟨.bl (eqD d e), H, I, rfl, q⟩
end
end L2

namespace L2
open PySem PySem.Spec PyProof.Rows

/-! ### the names of builtins that the module leaves alone -/
structure Bt (mg : Str → Option Value) : Prop where
  len : mg "len" = none
  range : mg "range" = none
  isinstance : mg "isinstance" = none
  all : mg "all" = none
  any : mg "any" = none
  sum : mg "sum" = none
  min : mg "min" = none
  max : mg "max" = none
  int : mg "int" = none
  bool : mg "bool" = none
  tuple : mg "tuple" = none
  list : mg "list" = none
  reversed : mg "reversed" = none
theorem bt_len : bootBuiltins "len" = some (.builtin "len") := by decide +kernel
theorem bt_isinstance : bootBuiltins "isinstance" = some (.builtin "isinstance") := by decide +kernel
theorem bt_all : bootBuiltins "all" = some (.builtin "all") := by decide +kernel
theorem bt_any : bootBuiltins "any" = some (.builtin "any") := by decide +kernel
theorem bt_sum : bootBuiltins "sum" = some (.builtin "sum") := by decide +kernel
theorem bt_min : bootBuiltins "min" = some (.builtin "min") := by decide +kernel
theorem bt_max : bootBuiltins "max" = some (.builtin "max") := by decide +kernel
theorem bt_int : bootBuiltins "int" = some (.type "int") := by decide +kernel
theorem bt_bool : bootBuiltins "bool" = some (.type "bool") := by decide +kernel
theorem bt_tuple : bootBuiltins "tuple" = some (.type "tuple") := by decide +kernel
theorem bt_list : bootBuiltins "list" = some (.type "list") := by decide +kernel

/-! ### a def by its name -/
structure Callee (P : Program) (w : World) (K : PySem.W.Frag) (mg : Str → Option Value) (base : Heap) (CX : CXT) (x : Str) (k : Nat) (ps : List Str) (sp : Sp) : Prop where
  ex : ∃ f fd, mg x = some (.ref f) ∧ PySem.W.keepIn K (.ref f) = true ∧ Binds K fd ps [] ∧ FnOk P w K mg base CX k f fd ps sp
section
variable {X : Cx} {CX : CXT} {j k : Nat} {ps : List Str} {sp : Sp} {x : Str} {p pos : Pos} {e : Expr} {es : List Expr} {t : TA}
def CXNo (CX : CXT) : Prop := ∀ outer H s e s', ¬ CX outer H s E0 e s'
theorem cxno0 : CXNo CX0 := fun _ _ _ _ _ h => h
theorem passNo (h : CXNo CX) : Passes CX X E0 := fun _ _ H s e s' _ q => (h _ H s e s' q).elim
theorem pe_cal (c : Callee X.prog X.w X.K X.mg X.base CX x k ps sp) (hr : Room j X.A) (ha : PA X (e :: es) t) (hk : k ≤ j := by decide) (hx : CXNo CX := by exact cxno0) (hg : Gl X x := by rfl)
    (hdb : (x == ("__debug__" : Str)) = false := by decide) (he : starEach (e :: es) X.env = (false, eval e X.env) :: starEach es X.env := by rfl) (hpl : (backTo pos (starEach es X.env)).any (·.1) = false := by rfl) :
    PE X (.Call (.Name x p) (e :: es) [] pos) (tCall sp [] E0 t) := by
  obtain ⟨f, fd, hm, hkp, hb, F⟩ := c.ex
  exact pe_call F (hr.mono hk) hg hm hkp hb .nil (passNo hx) ha hdb he hpl
end

/-! ### heaps -/
theorem same_upd {H : Hp} {l : Addr} {o : HO} (h : H l = none) : Same H (upd H l o) := fun b u e => by rw [upd_ne (ne_of_none e h)]; exact e
theorem same_upd' {H H' : Hp} {l : Addr} {o : HO} (s : Same H H') (h : H l = none) : Same H (upd H' l o) := fun b u e => by rw [upd_ne (ne_of_none e h)]; exact s b u e
theorem SqL.ints {K : PySem.W.Frag} {H H' : Hp} {a : Addr} {xs : List V} (h : SqL K H a xs) (s : Same H H') : SqL K H' a xs := s.seq h
theorem map_get {ns : List Int} {i : Nat} {x : V} (h : (ns.map V.int)[i]? = some x) : ∃ z, ns[i]? = some z ∧ x = .int z := by
  rw [List.getElem?_map] at h
  cases e : ns[i]? with
  | none => rw [e] at h; cases h
  | some z => rw [e] at h; exact ⟨z, rfl, (Option.some.inj h).symm⟩
theorem pz {j : Int} (h : decide (0 < j) = true) : 0 < j := of_decide_eq_true h
theorem dec_int1 {z y : Int} : (decide (V.int z = V.int y) = true) ↔ z = y := by
  constructor
  · intro h; have := of_decide_eq_true h; cases this; rfl
  · intro h; subst h; exact decide_eq_true rfl
/-! ### a statement and the rest, by what holds between them -/
def tJoin (t u : TS) : TS := fun D σ H => ∃ J : St → Hp → Prop, t { D with nx := J } σ H ∧ ∀ σ' H', J σ' H' → u D σ' H'
theorem pss_join {X : Cx} {st : Stmt} {rest : List Stmt} {t u : TS} (h1 : PS X st t) (h2 : PSs X rest u) : PSs X (st :: rest) (tJoin t u) := by
  intro pins s σ H D I h
  obtain ⟨J, h, hj⟩ := h
  refine wpAny_execs_cons (thn (h1 pins s σ H _ I h) fun f s1 q => ?_)
  cases f with
  | next => obtain ⟨σ1, H1, I1, q1⟩ := q; exact h2 pins s1 σ1 H1 D I1 (hj σ1 H1 q1)
  | brk => exact q
  | cont => exact q
  | ret v => exact q

/-! ### lists of ints as data -/
theorem isDs_ints {H : Hp} : ∀ ns : List Int, IsDs H (ns.map Dt.int) (ns.map V.int)
  | [] => by unfold IsDs; rfl
  | n :: r => by
    show IsDs H (Dt.int n :: r.map Dt.int) (V.int n :: r.map V.int)
    unfold IsDs
    exact ⟨_, _, rfl, by unfold IsD; rfl, isDs_ints r⟩
theorem depth_ints : ∀ ns : List Int, depthDs (ns.map Dt.int) = 0
  | [] => by unfold depthDs; rfl
  | n :: r => by
    show depthDs (Dt.int n :: r.map Dt.int) = 0
    unfold depthDs
    rw [depth_ints r]
    unfold depthD
    rfl
theorem isD_lstI {H : Hp} {a : Addr} {ns : List Int} (h : H a = some (.lst (ns.map V.int))) : IsD H (.lst (ns.map Dt.int)) (.ref a) := by unfold IsD; exact ⟨a, _, rfl, h, isDs_ints ns⟩
theorem isD_tupI {H : Hp} {a : Addr} {ns : List Int} (h : H a = some (.tup (ns.map V.int))) : IsD H (.tup (ns.map Dt.int)) (.ref a) := by unfold IsD; exact ⟨a, _, rfl, h, isDs_ints ns⟩
theorem depth_lstI (ns : List Int) : depthD (.lst (ns.map Dt.int)) ≤ 20 := by unfold depthD; rw [depth_ints]; decide
theorem depth_tupI (ns : List Int) : depthD (.tup (ns.map Dt.int)) ≤ 20 := by unfold depthD; rw [depth_ints]; decide
theorem units20 {k : Nat} {A : Around} (hr : Room k A) : A.units + 20 < cLine := by have := hr.units; omega
end L2

namespace L2
open PySem PySem.Spec PyProof.Rows

/-! ### list(reversed(a list)) -/
theorem nolen_lri : typeLookup (.type "list_reverseiterator") "__len__" = pure none := by rw [typeLookup_type, builtinLookup_eq_fast]; kernel_rfl
theorem hint_lri : typeLookup (.type "list_reverseiterator") "__length_hint__" = pure (some (.builtin "list_reverseiterator.__length_hint__")) := by rw [typeLookup_type, builtinLookup_eq_fast]; kernel_rfl
section
variable {prog : Program} {w : World} {A : Around} {s : Shared} {R : Result → Shared → Prop}
variable {I : Addr} {fp wr : List Addr} {G : Array GenState → Array GenState → Prop} {n : Nat} {P : Nat → Value → Prop} {St : Nat → Shared → Prop}
theorem extend_rev (W : WalksS prog w A.in1 I fp wr G n P St) (hT : ∀ i s, St i s → s.TypeIs (.ref I) "list_reverseiterator") (S : Addr) (res : Value) (c₀ : Nat) (hst : St 0 s) (hSf : S ∉ fp) (hI : I ∈ fp)
    (hS : s.heap.get? S = some { cls := .type "list", data := .seq #[] c₀ })
    (hR : ∀ s' acc' c', Moved (S :: wr) G s s' → s'.heap.get? S = some { cls := .type "list", dict := none, data := .seq acc' c', slots := #[] } → ItemsOf P acc' n → R (.ok (.ret res)) s') (hn : n ≤ sizeLine) :
    wpAny (model prog w) A.in1 (Builtin.List.listExtendWith (.ref S) (.ref I) res)
      (fun fin s' => match fin with | .done f => R (.ok f) s' | .again c' => c'.quiet = true ∧ codeAny (model prog w) A c' R s') (fun e s' => R (.error e) s') s := by
  have hSI : S ≠ I := fun e => hSf (e ▸ hI)
  unfold Builtin.List.listExtendWith
  refine wpAny_bind (wpAny_typeOf (hT 0 _ hst) ?_)
  have h1 : Builtin.List.listSameRef (.ref S) (.ref I) = false := by simp [Builtin.List.listSameRef, hSI]
  rw [if_neg (by rw [h1]; decide)]
  refine wpAny_bind (W.self 0 _ _ _ hst ?_)
  refine wpAny_bind (wpAny_holding ?_)
  unfold Builtin.List.listLengthHint
  refine wpAny_bind (wpAny_specialOf (hT 0 _ hst) nolen_lri ?_)
  show wpAny _ A.in1 (specialOf (Value.ref I) (Str.ofString "__length_hint__") >>= _) _ _ _
  refine wpAny_bind (wpAny_specialOf (hT 0 _ hst) hint_lri ?_)
  (generalize hid : ("list_reverseiterator.__length_hint__" : String) = id0; (fail_if_success (clear hid id0)); wp_delta; rw [show splitId id0 = some ("list_reverseiterator", "__length_hint__") from by subst hid; decide +kernel]; subst hid)
  refine wpAny_bind (wpAny_isInstance (b := true) (hT 0 _ hst) (by rw [isSubtype_type]; kernel_rfl) ?_)
  refine wpAny_pure ?_
  rw [if_neg (by decide)]
  exact wpAny_pure ⟨plainId_quiet F.plain_extend_loop _, codeAny_extend_loopS W hn _ hSf _ n 0 _ _ _ rfl (Nat.zero_le _) hst hS (ItemsOf.nil P) fun s' acc' c' hm hS' hacc => hR s' acc' c' hm hS' hacc⟩
theorem init_rev (W : WalksS prog w A.in1 I fp wr G n P St) (hT : ∀ i s, St i s → s.TypeIs (.ref I) "list_reverseiterator") (S : Addr) (hst : St 0 s) (hSf : S ∉ fp) (hI : I ∈ fp)
    (hS : s.heap.get? S = some { cls := .type "list", data := .seq #[] })
    (hR : ∀ s' acc' c', Moved (S :: wr) G s s' → s'.heap.get? S = some { cls := .type "list", dict := none, data := .seq acc' c', slots := #[] } → ItemsOf P acc' n → R (.ok (.ret .none)) s') (hn : n ≤ sizeLine) :
    wpAny (model prog w) A.in1 (Builtin.«list.__init__» ⟨[.ref S, .ref I], []⟩)
      (fun fin s' => match fin with | .done f => R (.ok f) s' | .again c' => c'.quiet = true ∧ codeAny (model prog w) A c' R s') (fun e s' => R (.error e) s') s := by
  show wpAny _ A.in1 (do let old ← Builtin.List.listItems (.ref S); Builtin.List.listUpdate (.ref S) (fun _ => #[]); letGo old.toList.reverse; Builtin.List.listExtendWith (.ref S) (.ref I) .none) _ _ s
  refine wpAny_bind ?_
  unfold Builtin.List.listItems
  refine wpAny_bind (wpAny_seqItems hS rfl (wpAny_pure ?_))
  show wpAny _ A.in1 (updateSeq S (fun _ => #[]) >>= fun _ => letGo (#[] : Array Value).toList.reverse >>= fun _ => Builtin.List.listExtendWith (.ref S) (.ref I) .none) _ _ s
  refine wpAny_bind (wpAny_updateSeq hS rfl ?_)
  have hS₂ := Heap.get?_update_self (Obj.mapSeq (fun _ => (#[] : Array Value))) hS rfl
  have oth : ∀ b o, b ≠ S → s.heap.get? b = some o → (s.heap.update S (Obj.mapSeq (fun _ => (#[] : Array Value)))).get? b = some o :=
    fun b o hb e => (Heap.get?_update_other _ _ (Ne.symm hb)).trans e
  refine wpAny_bind (wpAny_letGo ?_)
  refine extend_rev (hn := hn) W hT S .none _ (W.frame 0 s _ s.toks hst (Nat.le_refl _) fun b hb o e => oth b o (fun h => hSf (h ▸ hb)) e) hSf hI hS₂ fun s' acc' c' hm hS' hacc => ?_
  exact hR s' acc' c' (Moved.trans W.gtrans ((Moved.refl W.grefl).then_heap (Nat.le_refl _) fun b o hb e => oth b o (fun h => hb (h ▸ List.mem_cons_self)) e) hm) hS' hacc
end
section
variable {prog : Program} {w : World} {A : Around} {E : Value → Shared → Prop} {s : Shared}
variable {I : Addr} {fp wr : List Addr} {G : Array GenState → Array GenState → Prop} {n : Nat} {P : Nat → Value → Prop} {St : Nat → Shared → Prop}
theorem call_list_rev {Q : Value → Shared → Prop} (W : WalksS prog w A.in1.in1 I fp wr G n P St) (hT : ∀ i s, St i s → s.TypeIs (.ref I) "list_reverseiterator") (hst : St 0 s) (hfp : ∀ b ∈ fp, b < s.heap.objs.size) (hI : I ∈ fp)
    (hQ : ∀ s' acc' c', Moved (s.heap.objs.size :: wr) G { s with heap := s.heap.push { cls := .type "list", data := .seq #[] } } s' →
      s'.heap.get? s.heap.objs.size = some { cls := .type "list", dict := none, data := .seq acc' c', slots := #[] } → ItemsOf P acc' n → Q (.ref s.heap.objs.size) s') (hn : n ≤ sizeLine) :
    wpAny (model prog w) A (call (.type "list") [.ref I]) Q E s := by
  have hSf : s.heap.objs.size ∉ fp := fun hm => Nat.lt_irrefl _ (hfp _ hm)
  refine callType_codes (Q₁ := fun obj s₁ => obj = .ref s.heap.objs.size ∧ s₁ = { s with heap := s.heap.push { cls := .type "list", data := .seq #[] } }) F.called_list (F.typeCall_list_1 _) F.entry_list_init
    (code_list_new _ ⟨rfl, rfl⟩) fun obj s₁ h₁ => ?_
  obtain ⟨rfl, rfl⟩ := h₁
  have hS : (s.heap.push { cls := .type "list", data := .seq #[] }).get? s.heap.objs.size = some { cls := .type "list", data := .seq #[] } := Heap.get?_push_size _ rfl
  refine ⟨⟨_, hS, rfl⟩, F.args_list_init_2 _ _, init_rev (hn := hn) W hT _ (W.frame 0 s _ s.toks hst (Nat.le_refl _) fun b _ o e => Heap.get?_push_of_some _ e) hSf hI hS fun s' acc' c' hm hS' hacc => ?_⟩
  exact ⟨rfl, hQ s' acc' c' hm hS' hacc⟩
end

/-- the whole: the call's argument is evaluated, reversed, collected -/
theorem reversed_items {its : List Value} {acc : Array Value} (h : ItemsOf (fun i v => its.toArray[its.toArray.size - 1 - i]? = some v) acc its.toArray.size) : acc = its.reverse.toArray := by
  obtain ⟨h1, h2⟩ := h
  have h1' : acc.size = its.length := by simpa using h1
  apply Array.ext
  · simp [h1']
  · intro i hi1 hi2
    have q := h2 i acc[i] (Array.getElem?_eq_getElem hi1)
    simp only [List.size_toArray] at q
    have hlt : its.length - 1 - i < its.length := by omega
    rw [List.getElem?_toArray, List.getElem?_eq_getElem hlt] at q
    have q' := Option.some.inj q
    simp only [List.getElem_toArray, List.getElem_reverse]
    exact q'.symm
def tListRev (K : PySem.W.Frag) (te : TE) : TE := fun σ H Q => te σ H fun x H1 => ∃ p ys, [x] = [V.ref p] ∧ SqL K H1 p ys ∧ ∀ l, H1 l = none → Q (.ref l) (upd H1 l (.lst ys.reverse))
section
variable {X : Cx} {e : Expr} {te : TE} {p1 p2 pos pos2 : Pos}
theorem listrev_ok {pins : List (Addr × Obj)} {σ : St} {H : Hp} {s : Shared} {p : Addr} {ys : List V} {Q : VK} {E : Value → Shared → Prop} (hc : X.calm = true) (I : Inv X pins σ H s) (hq : SqL X.K H p ys) (q : ∀ l, H l = none → Q (.ref l) (upd H l (.lst ys.reverse))) :
    wpAny (model X.prog X.w) X.A (call (.type "reversed") [.ref p]) (fun u s1 => wpAny (model X.prog X.w) X.A (call (.type "list") [u]) (EP X pins σ Q) E s1) E s := by
  obtain ⟨its, rv, pl, hz⟩ := I.list hq
  have hl := pl.isList
  refine call_reversed_list hl ?_
  have hlt : p < s.heap.objs.size := by obtain ⟨_, e, _⟩ := hl; exact Heap.lt_size e
  have hrev : (s.heap.push (revObj p ((its.toArray.size : Int) - 1))).IsRevIter s.heap.objs.size p ((its.toArray.size : Int) - 1 - ((0 : Nat) : Int)) := ⟨_, Heap.get?_push_size _ rfl, rfl, by simp [revObj]⟩
  refine call_list_rev (s := { s with heap := s.heap.push (revObj p ((its.toArray.size : Int) - 1)) }) (Walks.listRev (prog := X.prog) (w := X.w) (A := X.A.in1.in1) (I.ok.hd hc) s.heap.objs.size p (Nat.ne_of_lt hlt) its.toArray).toS ?_ ⟨Nat.zero_le _, hrev, hl.push _⟩ ?_ (by simp) ?_ ?_
  · rintro i s' ⟨_, h2, _⟩
    exact h2.typeIs
  · intro b hb
    rw [Heap.size_push]
    rcases List.mem_cons.mp hb with rfl | hb
    · exact Nat.lt_succ_self _
    · rw [List.mem_singleton.mp hb]; exact Nat.lt_succ_of_lt hlt
  · intro s' acc' c' hm hS' hacc
    obtain rfl := reversed_items hacc
    have kp : ∀ b o, s.heap.get? b = some o → s'.heap.get? b = some o := fun b o e => by
      have hb := Heap.lt_size e
      refine hm.heap b o ?_ (Heap.get?_push_of_some _ (Heap.get?_push_of_some _ e))
      rw [Heap.size_push]
      intro hmem
      rcases List.mem_cons.mp hmem with e' | hmem
      · rw [e'] at hb; exact absurd hb (Nat.not_lt.mpr (Nat.le_succ _))
      · rw [List.mem_singleton.mp hmem] at hb; exact Nat.lt_irrefl _ hb
    have hn : H (s.heap.push (revObj p ((its.toArray.size : Int) - 1))).objs.size = none := I.hok.fresh (by rw [Heap.size_push]; exact Nat.le_succ _)
    have I1 : Inv X pins σ (upd H (s.heap.push (revObj p ((its.toArray.size : Int) - 1))).objs.size (.lst ys.reverse)) { s with heap := s'.heap, toks := s'.toks } :=
      I.laid kp (by rw [Heap.size_push]; exact Nat.le_succ _) ⟨by rw [List.length_reverse]; exact hz, its.reverse, c', rv.reverse, hS'⟩
    have es : s' = { s with heap := s'.heap, toks := s'.toks } := by
      have z := Moved.eq_with hm
      exact z
    have I2 : Inv X pins σ (upd H (s.heap.push (revObj p ((its.toArray.size : Int) - 1))).objs.size (.lst ys.reverse)) s' := by rw [es]; exact I1
    exact ⟨.ref (s.heap.push (revObj p ((its.toArray.size : Int) - 1))).objs.size, _, I2, rfl, q _ hn⟩
  · rw [List.size_toArray, ← rv.length]; exact hz
theorem pe_listrev (hc : X.calm = true) (he : PE X e te) (hg : Gl X "list") (hm : X.mg "list" = none) (hg2 : Gl X "reversed") (hm2 : X.mg "reversed" = none)
    (hs : starEach [e] X.env = [(false, eval e X.env)] := by rfl) (hs2 : starEach [.Call (.Name "reversed" p2) [e] [] pos2] X.env = [(false, eval (.Call (.Name "reversed" p2) [e] [] pos2) X.env)] := by rfl) :
    PE X (.Call (.Name "list" p1) [.Call (.Name "reversed" p2) [e] [] pos2] [] pos) (tListRev X.K te) := by
  intro pins s σ H Q I h
  refine Call_ (ld_blt I hg hm bt_list (PyProof.Rows.callWith_type1 ?_ hs2 rfl))
  rw [hs2]
  refine Calls.spliced_cons ?_
  refine Call_ (ld_blt I hg2 hm2 boot_reversed (PyProof.Rows.callWith_type1 (thn ((pa_cons (hs := hs) he pa_nil) pos2 pins s σ H (fun xs H1 => ∃ p ys, xs = [V.ref p] ∧ SqL X.K H1 p ys ∧ ∀ l, H1 l = none → Q (.ref l) (upd H1 l (.lst ys.reverse))) I h) fun us s1 ⟨vs, H1, I1, r1, q1⟩ => ?_) hs rfl))
  obtain ⟨p, ys, e1, hq, q⟩ := q1
  subst e1
  obtain ⟨u, rfl, rx⟩ := r1.one
  cases rx
  exact thn (listrev_ok hc I1 hq q) fun u s2 h2 => Calls.spliced_nil h2
end

/-! ### != of lists and tuples, is not of bools -/
section
variable {X : Cx} {pins : List (Addr × Obj)} {σ : St} {H : Hp} {s : Shared}
theorem rcn_lists (I : Inv X pins σ H s) {A : Around} {l b : Addr} {xs ys : List V} {ds es : List Dt} (hl : H l = some (.lst xs)) (hb : H b = some (.lst ys)) (h1 : IsDs H ds xs) (h2 : IsDs H es ys) (hu : A.units < cLine)
    (he : ∀ us ws, Vals xs us → Vals ys ws → ∀ (j : Nat) d e u w, ds[j]? = some d → es[j]? = some e → us[j]? = some u → ws[j]? = some w → SeqAt.EqAt A.in1 s u w (eqD d e)) : SeqAt.RcNeAt A s (.ref l) (.ref b) (!eqDs ds es) := by
  obtain ⟨us, r1, p1, _⟩ := I.list (SqL.of (K := X.K) hl)
  obtain ⟨ws, r2, p2, _⟩ := I.list (SqL.of (K := X.K) hb)
  have n1 : us.length = ds.length := by rw [← r1.length, h1.length]
  have n2 : ws.length = es.length := by rw [← r2.length, h2.length]
  by_cases hsz : ds.length = es.length
  · have q := SeqAt.RcNeAt.lists (e := eqIx ds es) p1.isList p2.isList (by simp [n1, n2, hsz]) hu (fun j q1 q2 => by
      have j1 : j < us.length := by simpa using q1
      have j2 : j < ws.length := by simpa using q2
      have g1 : ds[j]? = some ds[j] := List.getElem?_eq_getElem (by omega)
      have g2 : es[j]? = some es[j] := List.getElem?_eq_getElem (by omega)
      have z := he us ws r1 r2 j _ _ us[j] ws[j] g1 g2 (List.getElem?_eq_getElem j1) (List.getElem?_eq_getElem j2)
      have ez : eqIx ds es j = eqD ds[j] es[j] := by unfold eqIx; rw [g1, g2]
      rw [ez]
      simpa using z)
    rw [eqDs_range ds es hsz]
    rw [List.size_toArray, n1] at q
    exact q
  · rw [eqDs_len ds es hsz]
    exact SeqAt.RcNeAt.lists_lengths p1.isList p2.isList (by simpa [n1, n2] using hsz) hu
theorem rcn_tuples (I : Inv X pins σ H s) {A : Around} {l b : Addr} {xs ys : List V} {ds es : List Dt} (hl : H l = some (.tup xs)) (hb : H b = some (.tup ys)) (h1 : IsDs H ds xs) (h2 : IsDs H es ys) (hu : A.units < cLine)
    (he : ∀ us ws, Vals xs us → Vals ys ws → ∀ (j : Nat) d e u w, ds[j]? = some d → es[j]? = some e → us[j]? = some u → ws[j]? = some w → SeqAt.EqAt A.in1 s u w (eqD d e)) : SeqAt.RcNeAt A s (.ref l) (.ref b) (!eqDs ds es) := by
  obtain ⟨us, r1, p1, _⟩ := I.tuple (SqT.of (K := X.K) hl)
  obtain ⟨ws, r2, p2, _⟩ := I.tuple (SqT.of (K := X.K) hb)
  have n1 : us.length = ds.length := by rw [← r1.length, h1.length]
  have n2 : ws.length = es.length := by rw [← r2.length, h2.length]
  have q := SeqAt.RcNeAt.tuples (e := eqIx ds es) (show s.heap.IsTuple l us.toArray from p1) (show s.heap.IsTuple b ws.toArray from p2) hu (fun j q1 q2 => by
      have j1 : j < us.length := by simpa using q1
      have j2 : j < ws.length := by simpa using q2
      have g1 : ds[j]? = some ds[j] := List.getElem?_eq_getElem (by omega)
      have g2 : es[j]? = some es[j] := List.getElem?_eq_getElem (by omega)
      have z := he us ws r1 r2 j _ _ us[j] ws[j] g1 g2 (List.getElem?_eq_getElem j1) (List.getElem?_eq_getElem j2)
      have ez : eqIx ds es j = eqD ds[j] es[j] := by unfold eqIx; rw [g1, g2]
      rw [ez]
      simpa using z)
  rw [List.size_toArray, List.size_toArray, n1, n2] at q
  by_cases hsz : ds.length = es.length
  · rw [← hsz, Nat.min_self] at q
    rw [eqDs_range ds es hsz]
    have e1 : (ds.length == ds.length) = true := beq_self_eq_true _
    rw [e1, Bool.and_true] at q
    exact q
  · rw [eqDs_len ds es hsz]
    have e0 : (ds.length == es.length) = false := beq_eq_false_iff_ne.mpr hsz
    rw [e0, Bool.and_false] at q
    exact q
/-- two lists, or two tuples -/
theorem rcnAt_D (I : Inv X pins σ H s) {d e : Dt} {v x : V} {u w : Value} {A : Around} (h1 : IsD H d v) (h2 : IsD H e x) (hk : (∃ ds es, d = .lst ds ∧ e = .lst es) ∨ (∃ ds es, d = .tup ds ∧ e = .tup es)) (r1 : RelV v u) (r2 : RelV x w) (hd : depthD d ≤ 20) (hu : A.units + 20 < cLine) : SeqAt.RcNeAt A s u w (!eqD d e) := by
  have hu0 : A.units < cLine := by omega
  have hin : A.in1.units + 19 < cLine := by show A.units + 1 + 19 < cLine; omega
  rcases hk with ⟨ds, es, rfl, rfl⟩ | ⟨ds, es, rfl, rfl⟩
  · unfold IsD at h1 h2
    obtain ⟨a, xs, rfl, ha, hs⟩ := h1
    obtain ⟨b, ys, rfl, hb, hs2⟩ := h2
    obtain rfl : u = Value.ref a := r1
    obtain rfl : w = Value.ref b := r2
    rw [eqD_ll]
    refine rcn_lists I ha hb hs hs2 hu0 fun us ws k1 k2 j d e u w g1 g2 g3 g4 => ?_
    obtain ⟨x1, q1, q2⟩ := hs.rel k1 g1 g3
    obtain ⟨x2, q3, q4⟩ := hs2.rel k2 g2 g4
    exact eqAt_D I 19 d e x1 x2 u w A.in1 (by have := depthDs_mem g1; rw [depth_l] at hd; omega) q1 q3 q2 q4 hin
  · unfold IsD at h1 h2
    obtain ⟨a, xs, rfl, ha, hs⟩ := h1
    obtain ⟨b, ys, rfl, hb, hs2⟩ := h2
    obtain rfl : u = Value.ref a := r1
    obtain rfl : w = Value.ref b := r2
    rw [eqD_tt]
    refine rcn_tuples I ha hb hs hs2 hu0 fun us ws k1 k2 j d e u w g1 g2 g3 g4 => ?_
    obtain ⟨x1, q1, q2⟩ := hs.rel k1 g1 g3
    obtain ⟨x2, q3, q4⟩ := hs2.rel k2 g2 g4
    exact eqAt_D I 19 d e x1 x2 u w A.in1 (by have := depthDs_mem g1; rw [depth_t] at hd; omega) q1 q3 q2 q4 hin
end
section
variable {X : Cx}
def rNeS : R2 := fun x y H Q => ∃ d e, IsD H d x ∧ IsD H e y ∧ ((∃ ds es, d = .lst ds ∧ e = .lst es) ∨ (∃ ds es, d = .tup ds ∧ e = .tup es)) ∧ depthD d ≤ 20 ∧ Q (.bl (!eqD d e)) H
theorem op_neD (hu : X.A.units + 20 < cLine) : OpR X (compareOp .NotEq) rNeS := by
  intro pins s σ H x y v u Q I rx ry h
  obtain ⟨d, e, h1, h2, hk, hd, q⟩ := h
  exact rcnAt_D I h1 h2 hk rx ry hd hu X.prog X.w X.xe _ ⟨.bl (!eqD d e), H, I, rfl, q⟩
theorem op_isnotB : OpR X (compareOp .IsNot) (fun x y H Q => ∃ a b, x = .bl a ∧ y = .bl b ∧ Q (.bl (!(a == b))) H) := by
  intro pins s σ H x y v u Q I rx ry h
  obtain ⟨a, b, rfl, rfl, q⟩ := h
  obtain rfl : v = Value.bool a := rx
  obtain rfl : u = Value.bool b := ry
  refine wpAny_isNot_plain rfl ?_
  have e : (!(Value.bool a == Value.bool b)) = (!(a == b)) := by cases a <;> cases b <;> rfl
  rw [e]
  exact ⟨.bl _, H, I, rfl, q⟩
end

/-! ### data built one by one -/
theorem IsDs.snoc {H : Hp} {d : Dt} {v : V} : ∀ {ds : List Dt} {ys : List V}, IsDs H ds ys → IsD H d v → IsDs H (ds ++ [d]) (ys ++ [v])
  | [], ys, h, hv => by
    unfold IsDs at h
    subst h
    show IsDs H [d] [v]
    unfold IsDs
    exact ⟨v, [], rfl, hv, by unfold IsDs; rfl⟩
  | d' :: ds, ys, h, hv => by
    unfold IsDs at h
    obtain ⟨x, r, rfl, hx, hr⟩ := h
    show IsDs H (d' :: (ds ++ [d])) (x :: (r ++ [v]))
    unfold IsDs
    exact ⟨x, _, rfl, hx, IsDs.snoc hr hv⟩
/-- the turn's word: everything of H0 stands, the items so far are f 0, .. f (i - 1) -/
def PvD (H0 : Hp) (f : Nat → Dt) (i : Nat) (ys : List V) (H' : Hp) : Prop := Same H0 H' ∧ IsDs H' ((List.range i).map f) ys
theorem PvD.zero {H0 H' : Hp} {f : Nat → Dt} (s : Same H0 H') : PvD H0 f 0 [] H' := ⟨s, by show IsDs H' [] []; unfold IsDs; rfl⟩
theorem PvD.len {H0 : Hp} {f : Nat → Dt} {i : Nat} {ys : List V} {H' : Hp} (p : PvD H0 f i ys H') : ys.length ≤ i := by
  have := p.2.length; rw [List.length_map, List.length_range] at this; omega
theorem PvD.next {H0 : Hp} {f : Nat → Dt} {i : Nat} {ys : List V} {H1 H2 : Hp} {v : V} (p : PvD H0 f i ys H1) (s : Same H1 H2) (d : IsD H2 (f i) v) : PvD H0 f (i + 1) (ys ++ [v]) H2 := by
  refine ⟨p.1.trans s, ?_⟩
  rw [List.range_succ, List.map_append]
  exact (IsDs.mono s p.2).snoc d

/-! ### the rules that name the written part, with that part given (within a comprehension it must not hang on the block) -/
section
variable {X : Cx} (K : PySem.W.Frag)
theorem ix_listK (h : X.K = K := by rfl) : IxR X (rIxL K) := by subst h; exact ix_list
theorem ix_tupK (h : X.K = K := by rfl) : IxR X (rIxT K) := by subst h; exact ix_tup
theorem sl_listK (h : X.K = K := by rfl) : SlR X (rSlL K) := by subst h; exact sl_list
theorem sl_tupK (h : X.K = K := by rfl) : SlR X (rSlT K) := by subst h; exact sl_tup
theorem call_lenK (h : X.K = K := by rfl) : CallR X (.builtin "len") (fun xs H Q => ∃ p ys, xs = [.ref p] ∧ (SqL K H p ys ∨ SqT K H p ys) ∧ Q (.int ys.length) H) := by subst h; exact call_len_seq
theorem call_listK (h : X.K = K := by rfl) : CallR X (.type "list") (fun xs H Q => ∃ p ys, xs = [.ref p] ∧ (SqL K H p ys ∨ SqT K H p ys) ∧ ∀ l, H l = none → Q (.ref l) (upd H l (.lst ys))) := by subst h; exact call_list_of
theorem call_tupleK (h : X.K = K := by rfl) : CallR X (.type "tuple") (fun xs H Q => ∃ p ys, xs = [.ref p] ∧ ((SqL K H p ys ∧ ∀ l, H l = none → Q (.ref l) (upd H l (.tup ys))) ∨ (SqT K H p ys ∧ Q (.ref p) H))) := by subst h; exact call_tuple_of
theorem call_allK (hc : X.calm = true) (h : X.K = K := by rfl) : CallR X (.builtin "all") (fun xs H Q => ∃ p, ∃ bs : List Bool, xs = [.ref p] ∧ SqL K H p (bs.map V.bl) ∧ Q (.bl (bs.all id)) H) := by subst h; exact call_all hc
theorem call_anyK (hc : X.calm = true) (h : X.K = K := by rfl) : CallR X (.builtin "any") (fun xs H Q => ∃ p, ∃ bs : List Bool, xs = [.ref p] ∧ SqL K H p (bs.map V.bl) ∧ Q (.bl (bs.any id)) H) := by subst h; exact call_any hc
theorem call_isinstK (h : X.K = K := by rfl) : CallR X (.builtin "isinstance") (fun xs H Q => ∃ x c t b, xs = [x, c] ∧ (∀ u, RelV c u → u = clsV c) ∧ TyOf K H x t ∧ PySem.W.kitOne K t (clsV c) = some b ∧ Q (.bl b) H) := by subst h; exact call_isinst
theorem pi_listK {tg l : Expr} {tl : TE} (hl : PE X l tl) (h : X.K = K := by rfl) : PI X tg l (iList K tl) := by subst h; exact pi_list hl
theorem pi_tupK {tg l : Expr} {tl : TE} (hl : PE X l tl) (h : X.K = K := by rfl) : PI X tg l (iTup K tl) := by subst h; exact pi_tup hl
end
end L2

namespace L2
open PySem PySem.Spec PyProof.Rows

/-! ### range(hi, lo, -1) -/
theorem rangeSize_down (a b : Int) : Builtin.Range.rangeSize a b (-1) = if b < a then a - b else 0 := by
  unfold Builtin.Range.rangeSize
  rw [if_neg (by decide)]
  simp only [Int.neg_neg, Int.ediv_one]
  split <;> omega
theorem small_down {a b : Int} (ha : -(2 ^ 61) ≤ a) (ha' : a < 2 ^ 61) (hb : -(2 ^ 61) ≤ b) (hb' : b < 2 ^ 61) : Builtin.Range.small a b (-1) = true := by
  unfold Builtin.Range.small
  rw [rangeSize_down]
  simp only [Builtin.Range.rangeFitsLong, Bool.and_eq_true, Bool.or_eq_true, decide_eq_true_eq, beq_iff_eq, show ¬ ((-1 : Int) > 0) by decide, if_false]
  split <;> (try simp) <;> omega
/-- hi, hi - 1, .. (n of them) -/
def Itd (hi : Int) (n : Nat) : It := ⟨fun i _ => i < n, fun i H x H' => H' = H ∧ x = .int (hi - i), fun i _ => n ≤ i⟩
theorem turn_down {P : Program} {w : World} {K : PySem.W.Frag} {tg : Expr} (it : Addr) (hi : Int) (n : Nat) : Turn P w K tg (Itd hi n) [it] it (fun i h => IsRangeIter h it (hi + (i : Nat) * (-1)) ((n : Int) - (i : Nat)) (-1)) where
  mem := by simp
  obj := fun i h st b hb => by
    have e : b = it := by simpa using hb
    subst e
    exact ⟨_, st, fun v z => by
      have z' : Data.fields _ = Data.cell v := z
      cases z'⟩
  keep := fun i h h' st k => k it (by simp) _ st
  item := by
    intro X hP hw hK hc i pins s σ H E I hf st hg
    subst hP hw hK
    obtain ⟨f0, f1, f2, f3, f4, f5⟩ := hf it (by simp)
    have W := Walks.range (prog := X.prog) (w := X.w) (I.ok.hd hc) it hi (-1) n
    refine W.item i s _ _ hg st fun v h' tk hv st' kk => ?_
    obtain ⟨t, rfl⟩ := hv
    have I1 : Inv X pins σ H { s with heap := h', toks := tk } := I.turned (fun b o hb e => kk b o (by simpa using hb) e) f0 f1 f3 f4 f5
    refine ⟨_, rfl, go_of (s := { s with heap := h', toks := tk }) (n := "range_iterator") st' rfl rfl (by decide) ⟨.int (hi - i), H, I1, ⟨t, ?_⟩, ⟨rfl, rfl⟩, st', fun b hb => (hf b hb).1⟩⟩
    congr 1
    omega
  done := by
    intro X hP hw hK hc i pins s σ H E I hf st hg
    subst hP hw hK
    obtain ⟨f0, f1, f2, f3, f4, f5⟩ := hf it (by simp)
    exact wpAny_pyNext_range_end (I.ok.hd hc) st (by have : n ≤ i := hg; omega) fun h' eb => ⟨rfl, I.turned (t' := s.toks) (fun b o hb e => eb b o hb e) f0 f1 f3 f4 f5⟩
  self := fun _ _ _ _ _ st h => wpAny_pyIter_rangeiter st h
section
variable {X : Cx} {tg : Expr}
theorem range_itd {pins : List (Addr × Obj)} {σ : St} {H : Hp} {s : Shared} {R : It → Hp → Prop} {E : Value → Shared → Prop} {hi lo : Int} {t u v : Tok} {tk : Nat} (I : Inv X pins σ H s) (h1 : -(2 ^ 61) ≤ hi) (h2 : hi < 2 ^ 61) (h3 : -(2 ^ 61) ≤ lo) (h4 : lo < 2 ^ 61)
    (q : R (Itd hi (hi - lo).toNat) H) : wpAny (model X.prog X.w) X.A (pyIter (.ref s.heap.objs.size)) (PIE X pins σ tg R) E { s with heap := s.heap.push { cls := .type "range", data := .fields #[.int hi t, .int lo u, .int (-1) v] }, toks := tk } := by
  refine wpAny_pyIter_range (IsRange.new ..) (small_down h1 h2 h3 h4) ?_
  have I1 : Inv X pins σ H { s with heap := s.heap.push { cls := .type "range", data := .fields #[.int hi t, .int lo u, .int (-1) v] }, toks := tk } := I.kept fun b o e => Heap.get?_push_of_some _ e
  refine ⟨(s.heap.push { cls := .type "range", data := .fields #[.int hi t, .int lo u, .int (-1) v] }).objs.size, [(s.heap.push { cls := .type "range", data := .fields #[.int hi t, .int lo u, .int (-1) v] }).objs.size], _, _, H, rfl,
    I1.kept (t' := tk) fun b o e => Heap.get?_push_of_some _ e, turn_down _ hi (hi - lo).toNat, ?_, fun b hb => ?_, q⟩
  · have e1 : hi + ((0 : Nat) : Int) * (-1) = hi := by simp
    have e2 : (((hi - lo).toNat : Nat) : Int) - ((0 : Nat) : Int) = Builtin.Range.rangeSize hi lo (-1) := by rw [rangeSize_down]; split <;> omega
    show IsRangeIter _ _ (hi + ((0 : Nat) : Int) * (-1)) ((((hi - lo).toNat : Nat) : Int) - ((0 : Nat) : Int)) (-1)
    rw [e1, e2]
    exact Heap.get?_push_size _ rfl
  · have e : b = (s.heap.push { cls := .type "range", data := .fields #[.int hi t, .int lo u, .int (-1) v] }).objs.size := by simpa using hb
    subst e
    exact I1.fpOk (Nat.le_refl _) (I1.hok.fresh (Nat.le_refl _))
def iRngD (ta : TA) : TI := fun σ H R => ta σ H fun vs H1 => ∃ i j : Int, vs = [.int i, .int j, .int (-1)] ∧ (-(2 ^ 61) ≤ i ∧ i < 2 ^ 61 ∧ -(2 ^ 61) ≤ j ∧ j < 2 ^ 61) ∧ R (Itd i (i - j).toNat) H1
theorem Vals.three : ∀ {x y z : V} {us : List Value}, Vals [x, y, z] us → ∃ u v w, us = [u, v, w] ∧ RelV x u ∧ RelV y v ∧ RelV z w
  | _, _, _, _, .cons a (.cons b (.cons c .nil)) => ⟨_, _, _, rfl, a, b, c⟩
theorem pi_rangeD {a b c : Expr} {ta : TA} {p pos : Pos} (hg : Gl X "range") (hm : X.mg "range" = none) (ha : PA X [a, b, c] ta) (hs : starEach [a, b, c] X.env = (false, eval a X.env) :: starEach [b, c] X.env := by rfl) (hpl : (backTo pos (starEach [b, c] X.env)).any (·.1) = false := by rfl) :
    PI X tg (.Call (.Name "range" p) [a, b, c] [] pos) (iRngD ta) := by
  intro pins s σ H R I h
  refine Call_ (ld_blt I hg hm boot_range (PyProof.Rows.callWith_type1 (thn (ha pos pins s σ H _ I h) fun us s1 ⟨vs, H1, I1, r1, q1⟩ => ?_) hs hpl))
  obtain ⟨i, j, e, ⟨q1, q2, q3, q4⟩, q⟩ := q1
  subst e
  obtain ⟨u, v, w, rfl, ⟨t1, rfl⟩, ⟨t2, rfl⟩, ⟨t3, rfl⟩⟩ := r1.three
  exact call_range_3 (by decide) (range_itd I1 (by omega) (by omega) (by omega) (by omega) q) (.inl (PyProof.noPylong_small (by decide)))
end
theorem for_down {hi : Int} {n : Nat} {g : TG} {tb : TS} {D : Ends} {σ : St} {H : Hp} (Pv : Nat → St → Hp → Prop) (h0 : Pv 0 σ H)
    (hs : ∀ i σ H, i < n → Pv i σ H → g (.int (hi - i)) σ H fun σ2 H2 => tb { D with nx := Pv (i + 1), ct := Pv (i + 1), bk := D.nx } σ2 H2) (hd : ∀ σ H, Pv n σ H → D.nx σ H) :
    ∃ W : Nat → Nat → St → Hp → Prop, (∃ m, W 0 m σ H) ∧ ∀ i m σ H, W i m σ H →
      ((Itd hi n).stop i H ∧ D.nx σ H) ∨ ((Itd hi n).go i H ∧ ∃ N : St → Hp → Prop, (∀ σ' H', N σ' H' → ∃ m', m' < m ∧ W (i + 1) m' σ' H') ∧ ∀ x H', (Itd hi n).yld i H x H' → g x σ H' fun σ2 H2 => tb { D with nx := N, ct := N, bk := D.nx } σ2 H2) := by
  refine ⟨fun i m σ H => m = n - i ∧ i ≤ n ∧ Pv i σ H, ⟨n, by simp, Nat.zero_le _, h0⟩, ?_⟩
  rintro i m σ H ⟨rfl, hi', p⟩
  by_cases hlt : i < n
  · refine .inr ⟨hlt, Pv (i + 1), fun σ' H' p' => ⟨n - (i + 1), by omega, rfl, hlt, p'⟩, fun x H' y => ?_⟩
    obtain ⟨e, y⟩ := y
    subst e y
    exact hs i σ _ hlt p
  · have e : i = n := by omega
    subst e
    exact .inl ⟨Nat.le_refl _, hd σ H p⟩

/-! ### a class of the text and its methods, by name -/
structure Method (P : Program) (w : World) (K : PySem.W.Frag) (mg : Str → Option Value) (base : Heap) (CX : CXT) (C : Addr) (m : Str) (k : Nat) (ps : List Str) (sp : Sp) : Prop where
  cl : Cls K C
  ex : ∃ f fd, Meth K C m f ∧ Binds K fd ps [] ∧ FnOk P w K mg base CX k f fd ps sp
structure Maker (P : Program) (w : World) (K : PySem.W.Frag) (mg : Str → Option Value) (base : Heap) (CX : CXT) (x : Str) (C : Addr) (k : Nat) (ps : List Str) (sp : Sp) : Prop where
  ex : ∃ f fd, mg x = some (.ref C) ∧ Mk K C f ∧ Binds K fd ps [] ∧ FnOk P w K mg base CX k f fd ps sp
section
variable {X : Cx} {CX : CXT} {j k : Nat} {ps : List Str} {sp : Sp} {x m : Str} {C : Addr} {p pos apos : Pos} {o e : Expr} {es : List Expr} {ta : TE} {t : TA}
theorem pe_met (c : Method X.prog X.w X.K X.mg X.base CX C m k ps sp) (he : PE X o ta) (hr : Room j X.A) (ha : PA X (e :: es) t) {pl : Sem Bool} (hk : k ≤ j := by decide) (hx : CXNo CX := by exact cxno0)
    (hst : starEach (e :: es) X.env = (false, eval e X.env) :: starEach es X.env := by rfl) (hpl : (backTo pos (starEach es X.env)).any (·.1) = false := by rfl)
    (ht : eval (.Call (.Attribute o m apos) (e :: es) [] pos) X.env = (do
      let ov ← eval o X.env
      standAt apos.atName
      let (f, first) ← holding [ov] (getMethod ov m pl)
      callWith pos f first (backTo pos (starEach (e :: es) X.env)) (backToKw pos (keywordEach [] X.env))) := by rfl) :
    PE X (.Call (.Attribute o m apos) (e :: es) [] pos) (tMeth C m sp [] E0 ta t) := by
  obtain ⟨f, fd, hm, hb, F⟩ := c.ex
  exact pe_meth (pl := pl) he c.cl hm F (hr.mono hk) hb .nil (passNo hx) ha hst hpl ht
theorem pe_met0 (c : Method X.prog X.w X.K X.mg X.base CX C m k ps sp) (he : PE X o ta) (hr : Room j X.A) {pl : Sem Bool} (hk : k ≤ j := by decide) (hx : CXNo CX := by exact cxno0)
    (ht : eval (.Call (.Attribute o m apos) [] [] pos) X.env = (do
      let ov ← eval o X.env
      standAt apos.atName
      let (f, first) ← holding [ov] (getMethod ov m pl)
      callWith pos f first (backTo pos (starEach [] X.env)) (backToKw pos (keywordEach [] X.env))) := by rfl) :
    PE X (.Call (.Attribute o m apos) [] [] pos) (tMeth C m sp [] E0 ta tNil) := by
  obtain ⟨f, fd, hm, hb, F⟩ := c.ex
  exact pe_meth0 (pl := pl) he c.cl hm F (hr.mono hk) hb .nil (passNo hx) ht
theorem pe_mak (c : Maker X.prog X.w X.K X.mg X.base CX x C k ps sp) (hr : Room j X.A) (ha : PA X (e :: es) t) (hk : k + 1 ≤ j := by decide) (hx : CXNo CX := by exact cxno0) (hg : Gl X x := by rfl)
    (hdb : (x == ("__debug__" : Str)) = false := by decide) (he : starEach (e :: es) X.env = (false, eval e X.env) :: starEach es X.env := by rfl) (hpl : (backTo pos (starEach es X.env)).any (·.1) = false := by rfl) :
    PE X (.Call (.Name x p) (e :: es) [] pos) (tMake C sp [] E0 t) := by
  obtain ⟨f, fd, hm, M, hb, F⟩ := c.ex
  exact pe_make M F (hr.mono hk) hg hm hb .nil (passNo hx) ha hdb he hpl
end
end L2

namespace L2
open PySem PySem.Spec PyProof.Rows
section
variable {X : Cx} {pins : List (Addr × Obj)} {σ : St} {H : Hp} {s : Shared} {h' : Heap}
/-- own untracked records have turned, and a new object has been laid and is tracked -/
theorem Inv.turnedL {t' : Nat} {ch : List Addr} {a : Addr} {o : HO} (I : Inv X pins σ H s) (k : ∀ b o, b ∉ ch → s.heap.get? b = some o → h'.get? b = some o) (hf : ∀ b ∈ ch, FpOk X pins H b) (hp : s.heap.objs.size ≤ a)
    (new : ObjOk X.prog X.w (upd H a o) h' a o) : Inv X pins σ (upd H a o) { s with heap := h', toks := t' } := by
  have nit : ∀ b u, H b = some u → b ∉ ch := fun b u e z => by rw [(hf b z).1] at e; cases e
  have na : ∀ b u, H b = some u → b ≠ a := fun b u e z => by rw [z, I.hok.fresh hp] at e; cases e
  have nb : ∀ b ob, s.heap.get? b = some ob → b ≠ a := fun b ob e z => absurd (Heap.lt_size e) (by rw [z]; exact Nat.not_lt.mpr hp)
  have hL : X.env.locals ∉ ch := fun z => (hf _ z).2.1 rfl
  refine I.step (g' := s.gens) (d' := s.drawn) (ch := ch) (fun b hb => ?_) (fun b o _ _ hc e _ => k b o hc e) (fun b o _ _ hc e _ => ⟨o.slots, k b o hc e⟩) (fun b ob _ e n => by rw [upd_ne (nb b ob e)]; exact n)
    (fun b o hc e => ⟨o, k b o hc e⟩) (fun b xs e => by rw [upd_ne (na b _ e)]; exact e) (fun b _ _ e => by rw [upd_ne (na b _ e)]; exact e) (fun b ps e => ⟨#[], by rw [upd_ne (na b _ e), e]; simp⟩) (fun m hm => ?_) (fun b u e => ?_) I.bare
  · obtain ⟨f0, f1, f2, f3, f4, f5⟩ := hf b hb
    exact ⟨f3, f1, f4, f5⟩
  · obtain ⟨o, es, ep, ho, r⟩ := hm
    exact ⟨o, es, ep, k _ o hL ho, r⟩
  · by_cases hb : b = a
    · subst hb
      rw [upd_same] at e
      cases e
      exact new
    · rw [upd_ne hb] at e
      refine (I.hok b u e).stay (fun c v hc q => k c v ?_ q) (fun c q => by rw [upd_ne (na c _ q)]; exact q) fun c xs q => by rw [upd_ne (na c _ q)]; exact q
      rcases hc with z | z
      · rw [z]; exact nit b u e
      · exact nit c _ z
/-- own untracked records have turned -/
theorem Inv.turnedS {t' : Nat} {ch : List Addr} (I : Inv X pins σ H s) (k : ∀ b o, b ∉ ch → s.heap.get? b = some o → h'.get? b = some o) (hf : ∀ b ∈ ch, FpOk X pins H b) : Inv X pins σ H { s with heap := h', toks := t' } := by
  have nit : ∀ b u, H b = some u → b ∉ ch := fun b u e z => by rw [(hf b z).1] at e; cases e
  have hL : X.env.locals ∉ ch := fun z => (hf _ z).2.1 rfl
  refine I.step (g' := s.gens) (d' := s.drawn) (ch := ch) (fun b hb => ?_) (fun b o _ _ hc e _ => k b o hc e) (fun b o _ _ hc e _ => ⟨o.slots, k b o hc e⟩) (fun b ob _ e n => n)
    (fun b o hc e => ⟨o, k b o hc e⟩) (fun b xs e => e) (fun b _ _ e => e) (fun b ps e => ⟨#[], by rw [e]; simp⟩) (fun m hm => ?_) (fun b u e => ?_) I.bare
  · obtain ⟨f0, f1, f2, f3, f4, f5⟩ := hf b hb
    exact ⟨f3, f1, f4, f5⟩
  · obtain ⟨o, es, ep, ho, r⟩ := hm
    exact ⟨o, es, ep, k _ o hL ho, r⟩
  · refine (I.hok b u e).stay (fun c v hc q => k c v ?_ q) (fun c q => q) fun c xs q => q
    rcases hc with z | z
    · rw [z]; exact nit b u e
    · exact nit c _ z
theorem FpOk.upd {b a : Addr} {o : HO} (f : FpOk X pins H b) (h : b ≠ a) : FpOk X pins (upd H a o) b := ⟨by rw [upd_ne h]; exact f.1, f.2⟩
end
/-! ### zip(a, b) of two lists -/
def Itz (K : PySem.W.Frag) (a b : Addr) : It :=
  ⟨fun i H => ∃ xs ys x y, SqL K H a xs ∧ SqL K H b ys ∧ xs[i]? = some x ∧ ys[i]? = some y,
   fun i H v H' => ∃ p x y, v = .ref p ∧ H p = none ∧ H' = upd H p (.tup [x, y]) ∧ (∀ xs, SqL K H a xs → xs[i]? = some x) ∧ ∀ ys, SqL K H b ys → ys[i]? = some y,
   fun i H => ∃ xs ys, SqL K H a xs ∧ SqL K H b ys ∧ (xs.length ≤ i ∨ ys.length ≤ i)⟩
theorem turn_zip {P : Program} {w : World} {K : PySem.W.Frag} {elts : List Expr} {x1 : Nat} {pos : Pos} {z TI TO i1 i2 l1 l2 : Addr} (D : ZipApart z TI TO i1 i2 l1 l2) :
    Turn P w K (.Tuple elts x1 pos) (Itz K l1 l2) [z, TI, TO, i1, i2] z (fun i h => IsZip h z TI TO .none ∧ IsPair h TI (.ref i1) (.ref i2) ∧ (∃ a b, IsPair h TO a b) ∧ h.IsListIter i1 l1 i ∧ h.IsListIter i2 l2 i) where
  mem := by simp
  obj := fun i h st b hb => by
    obtain ⟨h1, h2, ⟨a, b', h3⟩, ⟨o4, e4, c4, d4⟩, ⟨o5, e5, c5, d5⟩⟩ := st
    have hb' : b = z ∨ b = TI ∨ b = TO ∨ b = i1 ∨ b = i2 := by simpa using hb
    rcases hb' with e | e | e | e | e <;> subst e
    · exact ⟨_, h1, fun v q => by
        have q' : Data.fields _ = Data.cell v := q
        cases q'⟩
    · exact ⟨_, h2, fun v q => by
        have q' : Data.seq _ _ = Data.cell v := q
        cases q'⟩
    · exact ⟨_, h3, fun v q => by
        have q' : Data.seq _ _ = Data.cell v := q
        cases q'⟩
    · exact ⟨o4, e4, fun v q => by rw [d4] at q; cases q⟩
    · exact ⟨o5, e5, fun v q => by rw [d5] at q; cases q⟩
  keep := fun i h h' st k => by
    obtain ⟨h1, h2, ⟨a, b', h3⟩, h4, h5⟩ := st
    exact ⟨k z (by simp) _ h1, k TI (by simp) _ h2, ⟨a, b', k TO (by simp) _ h3⟩, h4.at fun o e => k i1 (by simp) o e, h5.at fun o e => k i2 (by simp) o e⟩
  item := by
    intro X hP hw hK hc i pins s σ H E I hf st hg
    subst hP hw hK
    obtain ⟨xs, ys, x, y, hq1, hq2, hx, hy⟩ := hg
    obtain ⟨its1, rv1, p1, hz1⟩ := I.list hq1
    obtain ⟨its2, rv2, p2, hz2⟩ := I.list hq2
    obtain ⟨u1, hu1, ru1⟩ := rv1.get hx
    obtain ⟨u2, hu2, ru2⟩ := rv2.get hy
    obtain ⟨h1, h2, ⟨a, b', h3⟩, h4, h5⟩ := st
    have hlt : ∀ {c : Addr} {o : Obj}, s.heap.get? c = some o → c ≠ s.heap.objs.size := fun e => Nat.ne_of_lt (Heap.lt_size e)
    have n4 : i1 ≠ s.heap.objs.size := by obtain ⟨o, e, _⟩ := id h4; exact hlt e
    have n5 : i2 ≠ s.heap.objs.size := by obtain ⟨o, e, _⟩ := id h5; exact hlt e
    refine wpAny_pyNext_zip_item D h1 h2 h3 h4 h5 p1.isList p2.isList (x := u1) (y := u2) (by simpa using hu1) (by simpa using hu2) fun h' a1 a2 a3 a4 a5 a6 a7 => ?_
    have I1 : Inv X pins σ (upd H s.heap.objs.size (.tup [x, y])) { s with heap := h' } := I.turnedL (t' := s.toks) (ch := [z, TI, TO, i1, i2]) (fun b o hb e => a7 b o (fun q => hb (by simp [q])) (fun q => hb (by simp [q])) (fun q => hb (by simp [q])) (fun q => hb (by simp [q])) e) hf (Nat.le_refl _)
      ⟨by show 2 ≤ sizeLine; decide, [u1, u2], .cons ru1 (.cons ru2 .nil), ⟨_, a5, rfl, _, rfl⟩⟩
    have hf1 : ∀ b ∈ [z, TI, TO, i1, i2], FpOk X pins (upd H s.heap.objs.size (.tup [x, y])) b := fun b hb => (hf b hb).upd (by
      have hb' : b = z ∨ b = TI ∨ b = TO ∨ b = i1 ∨ b = i2 := by simpa using hb
      rcases hb' with e | e | e | e | e <;> subst e
      · exact hlt h1
      · exact hlt h2
      · exact hlt h3
      · exact n4
      · exact n5)
    refine ⟨_, rfl, wpAny_letOwnedTupleGo_zip (s := { s with heap := h' }) a1 fun h2' a1' sb => ?_⟩
    have I2 : Inv X pins σ (upd H s.heap.objs.size (.tup [x, y])) { s with heap := h2' } := I1.turnedS (s := { s with heap := h' }) (t' := s.toks) (ch := [z, TI, TO, i1, i2]) (fun b o hb e => (sb.2 b fun q => hb (by simp [q])).trans e) hf1
    have h2e : IsPair h' TI (.ref i1) (.ref i2) := a7 _ _ D.TIz D.TITO D.TIi1 D.TIi2 h2
    exact ⟨.ref s.heap.objs.size, _, I2, rfl, ⟨_, x, y, rfl, I.hok.fresh (Nat.le_refl _), rfl, fun zs hz => by rw [I.list_inj hz hq1]; exact hx, fun zs hz => by rw [I.list_inj hz hq2]; exact hy⟩,
      ⟨a1', (sb.2 _ D.TIz).trans h2e, ⟨_, _, (sb.2 _ D.TOz).trans a2⟩, a3.at fun o e => (sb.2 _ D.i1z).trans e, a4.at fun o e => (sb.2 _ D.i2z).trans e⟩, fun b hb => (hf1 b hb).1⟩
  done := by
    intro X hP hw hK hc i pins s σ H E I hf st hg
    subst hP hw hK
    obtain ⟨xs, ys, hq1, hq2, hend⟩ := hg
    obtain ⟨its1, rv1, p1, hz1⟩ := I.list hq1
    obtain ⟨its2, rv2, p2, hz2⟩ := I.list hq2
    obtain ⟨h1, h2, ⟨a, b', h3⟩, h4, h5⟩ := st
    have hl1 := rv1.length
    have hl2 := rv2.length
    refine wpAny_pyNext_zip_end (I.ok.hd hc) D h1 h2 h3 h4 h5 p1.isList p2.isList ?_ fun h' eb => ⟨rfl, I.turnedS (t' := s.toks) (ch := [z, TI, TO, i1, i2]) (fun b o hb e => eb b o (fun q => hb (by simp [q])) (fun q => hb (by simp [q])) (fun q => hb (by simp [q])) (fun q => hb (by simp [q])) e) hf⟩
    rcases hend with q | q
    · exact .inl (by simp; omega)
    · exact .inr (by simp; omega)
  self := fun _ _ _ _ _ st h => wpAny_pyIter_zip st.1 h
section
variable {X : Cx} {elts : List Expr} {x1 : Nat} {pos : Pos}
theorem bt_zip : bootBuiltins "zip" = some (.type "zip") := by decide +kernel
theorem bt_enumerate : bootBuiltins "enumerate" = some (.type "enumerate") := by decide +kernel
def iZip (K : PySem.W.Frag) (ta : TA) : TI := fun σ H R => ta σ H fun vs H1 => ∃ a b, vs = [.ref a, .ref b] ∧ (∃ xs, SqL K H1 a xs) ∧ (∃ ys, SqL K H1 b ys) ∧ R (Itz K a b) H1
theorem pi_zipK (K : PySem.W.Frag) {a b : Expr} {ta : TA} {p q : Pos} (hg : Gl X "zip") (hm : X.mg "zip" = none) (ha : PA X [a, b] ta) (hK : X.K = K := by rfl) (hs : starEach [a, b] X.env = (false, eval a X.env) :: starEach [b] X.env := by rfl) (hpl : (backTo q (starEach [b] X.env)).any (·.1) = false := by rfl) :
    PI X (.Tuple elts x1 pos) (.Call (.Name "zip" p) [a, b] [] q) (iZip K ta) := by
  subst hK
  intro pins s σ H R I h
  refine Call_ (ld_blt I hg hm bt_zip (PyProof.Rows.callWith_type1 (thn (ha q pins s σ H _ I h) fun us s1 ⟨vs, H1, I1, r1, q1⟩ => ?_) hs hpl))
  obtain ⟨l1, l2, e, ⟨xs, hx⟩, ⟨ys, hy⟩, q⟩ := q1
  subst e
  cases r1 with
  | cons r rr =>
    cases rr with
    | cons r' rr' =>
      cases rr'
      cases r
      cases r'
      obtain ⟨its1, rv1, p1, hz1⟩ := I1.list hx
      obtain ⟨its2, rv2, p2, hz2⟩ := I1.list hy
      refine call_zip_2 p1.isList p2.isList fun h' a1 a2 a3 a4 a5 a6 a7 => ?_
      refine wpAny_pyIter_zip (s := { s1 with heap := h' }) a1 ?_
      have I2 : Inv X pins σ H1 { s1 with heap := h' } := I1.kept (t' := s1.toks) a7
      have n1 : @LT.lt Nat _ l1 s1.heap.objs.size := by obtain ⟨o, e, _⟩ := p1.isList; exact Heap.lt_size e
      have n2 : @LT.lt Nat _ l2 s1.heap.objs.size := by obtain ⟨o, e, _⟩ := p2.isList; exact Heap.lt_size e
      have D : ZipApart (s1.heap.objs.size + 4) (s1.heap.objs.size + 2) (s1.heap.objs.size + 3) s1.heap.objs.size (s1.heap.objs.size + 1) l1 l2 := by
        generalize s1.heap.objs.size = n at n1 n2
        exact ⟨(by first | exact Nat.ne_of_lt (by omega) | exact Nat.ne_of_gt (by omega)), (by first | exact Nat.ne_of_lt (by omega) | exact Nat.ne_of_gt (by omega)), (by first | exact Nat.ne_of_lt (by omega) | exact Nat.ne_of_gt (by omega)), (by first | exact Nat.ne_of_lt (by omega) | exact Nat.ne_of_gt (by omega)), (by first | exact Nat.ne_of_lt (by omega) | exact Nat.ne_of_gt (by omega)), (by first | exact Nat.ne_of_lt (by omega) | exact Nat.ne_of_gt (by omega)), (by first | exact Nat.ne_of_lt (by omega) | exact Nat.ne_of_gt (by omega)), (by first | exact Nat.ne_of_lt (by omega) | exact Nat.ne_of_gt (by omega)), (by first | exact Nat.ne_of_lt (by omega) | exact Nat.ne_of_gt (by omega)), (by first | exact Nat.ne_of_lt (by omega) | exact Nat.ne_of_gt (by omega)), (by first | exact Nat.ne_of_lt (by omega) | exact Nat.ne_of_gt (by omega)), (by first | exact Nat.ne_of_lt (by omega) | exact Nat.ne_of_gt (by omega)), (by first | exact Nat.ne_of_lt (by omega) | exact Nat.ne_of_gt (by omega)), (by first | exact Nat.ne_of_lt (by omega) | exact Nat.ne_of_gt (by omega)), (by first | exact Nat.ne_of_lt (by omega) | exact Nat.ne_of_gt (by omega)), (by first | exact Nat.ne_of_lt (by omega) | exact Nat.ne_of_gt (by omega)), (by first | exact Nat.ne_of_lt (by omega) | exact Nat.ne_of_gt (by omega)), (by first | exact Nat.ne_of_lt (by omega) | exact Nat.ne_of_gt (by omega))⟩
      refine ⟨_, _, _, _, H1, rfl, I2, turn_zip D, ⟨a1, a2, ⟨_, _, a3⟩, a4, a5⟩, fun b hb => ?_, q⟩
      have hb' : b = s1.heap.objs.size + 4 ∨ b = s1.heap.objs.size + 2 ∨ b = s1.heap.objs.size + 3 ∨ b = s1.heap.objs.size ∨ b = s1.heap.objs.size + 1 := by simpa using hb
      have hb2 : s1.heap.objs.size ≤ b := by rcases hb' with q | q | q | q | q <;> rw [q] <;> first | exact Nat.le_refl _ | exact Nat.le_add_right _ _
      exact I1.fpOk hb2 (I1.hok.fresh hb2)
end

/-! ### enumerate(a) of a list -/
def Ite (K : PySem.W.Frag) (a : Addr) : It :=
  ⟨fun i H => ∃ xs x, SqL K H a xs ∧ xs[i]? = some x,
   fun i H v H' => ∃ p x, v = .ref p ∧ H p = none ∧ H' = upd H p (.tup [.int i, x]) ∧ ∀ xs, SqL K H a xs → xs[i]? = some x,
   fun i H => ∃ xs, SqL K H a xs ∧ xs.length ≤ i⟩
theorem turn_enum {P : Program} {w : World} {K : PySem.W.Frag} {elts : List Expr} {x1 : Nat} {pos : Pos} {e it l : Addr} (hei : e ≠ it) :
    Turn P w K (.Tuple elts x1 pos) (Ite K l) [e, it] e (fun i h => (∃ old, IsEnum h e it i old) ∧ h.IsListIter it l i) where
  mem := by simp
  obj := fun i h st b hb => by
    obtain ⟨⟨old, h1⟩, ⟨o4, e4, c4, d4⟩⟩ := st
    have hb' : b = e ∨ b = it := by simpa using hb
    rcases hb' with q | q <;> subst q
    · exact ⟨_, h1, fun v q => by
        have q' : Data.fields _ = Data.cell v := q
        cases q'⟩
    · exact ⟨o4, e4, fun v q => by rw [d4] at q; cases q⟩
  keep := fun i h h' st k => by
    obtain ⟨⟨old, h1⟩, h4⟩ := st
    exact ⟨⟨old, k e (by simp) _ h1⟩, h4.at fun o q => k it (by simp) o q⟩
  item := by
    intro X hP hw hK hc i pins s σ H E I hf st hg
    subst hP hw hK
    obtain ⟨xs, x, hq1, hx⟩ := hg
    obtain ⟨its1, rv1, p1, hz1⟩ := I.list hq1
    obtain ⟨u1, hu1, ru1⟩ := rv1.get hx
    obtain ⟨⟨old, h1⟩, h4⟩ := st
    have n1 : e ≠ s.heap.objs.size := Nat.ne_of_lt (Heap.lt_size h1)
    have n4 : it ≠ s.heap.objs.size := by obtain ⟨o, q, _⟩ := id h4; exact Nat.ne_of_lt (Heap.lt_size q)
    refine wpAny_pyNext_enum_item h1 h4 p1.isList (x := u1) (by simpa using hu1) hei fun h' ho hit' hT hsz hk => ?_
    have I1 : Inv X pins σ (upd H s.heap.objs.size (.tup [.int i, x])) { s with heap := h', toks := s.toks + 1 } := I.turnedL (t' := s.toks + 1) (ch := [e, it]) (fun b o hb q => hk b o (fun z => hb (by simp [z])) (fun z => hb (by simp [z])) q) hf (Nat.le_refl _)
      ⟨by show 2 ≤ sizeLine; decide, [_, u1], .cons ⟨_, rfl⟩ (.cons ru1 .nil), ⟨_, hT, rfl, _, rfl⟩⟩
    have hf1 : ∀ b ∈ [e, it], FpOk X pins (upd H s.heap.objs.size (.tup [.int i, x])) b := fun b hb => (hf b hb).upd (by
      have hb' : b = e ∨ b = it := by simpa using hb
      rcases hb' with q | q <;> subst q
      · exact n1
      · exact n4)
    refine ⟨_, rfl, wpAny_letOwnedTupleGo_enum (s := { s with heap := h', toks := s.toks + 1 }) ho fun h2' he' sb => ?_⟩
    have I2 : Inv X pins σ (upd H s.heap.objs.size (.tup [.int i, x])) { s with heap := h2', toks := s.toks + 1 } := I1.turnedS (s := { s with heap := h', toks := s.toks + 1 }) (t' := s.toks + 1) (ch := [e, it]) (fun b o hb q => (sb.2 b fun z => hb (by simp [z])).trans q) hf1
    exact ⟨.ref s.heap.objs.size, _, I2, rfl, ⟨_, x, rfl, I.hok.fresh (Nat.le_refl _), rfl, fun zs hz => by rw [I.list_inj hz hq1]; exact hx⟩,
      ⟨⟨_, by simpa using he'⟩, hit'.at fun o q => (sb.2 _ hei.symm).trans q⟩, fun b hb => (hf1 b hb).1⟩
  done := by
    intro X hP hw hK hc i pins s σ H E I hf st hg
    subst hP hw hK
    obtain ⟨xs, hq1, hend⟩ := hg
    obtain ⟨its1, rv1, p1, hz1⟩ := I.list hq1
    obtain ⟨⟨old, h1⟩, h4⟩ := st
    have hl1 := rv1.length
    exact wpAny_pyNext_enum_end (I.ok.hd hc) h1 h4 p1.isList (by simp; omega) fun h' eb => ⟨rfl, I.turnedS (t' := s.toks) (ch := [e, it]) (fun b o hb q => eb b o (fun z => hb (by simp [z])) q) hf⟩
  self := fun _ _ _ _ _ st h => by
    obtain ⟨⟨old, h1⟩, _⟩ := st
    exact wpAny_pyIter_enum h1 h
section
variable {X : Cx} {elts : List Expr} {x1 : Nat} {pos : Pos}
def iEnum (K : PySem.W.Frag) (ta : TA) : TI := fun σ H R => ta σ H fun vs H1 => ∃ a, vs = [.ref a] ∧ (∃ xs, SqL K H1 a xs) ∧ R (Ite K a) H1
theorem pi_enumK (K : PySem.W.Frag) {a : Expr} {ta : TA} {p q : Pos} (hg : Gl X "enumerate") (hm : X.mg "enumerate" = none) (ha : PA X [a] ta) (hK : X.K = K := by rfl) (hs : starEach [a] X.env = [(false, eval a X.env)] := by rfl) :
    PI X (.Tuple elts x1 pos) (.Call (.Name "enumerate" p) [a] [] q) (iEnum K ta) := by
  subst hK
  intro pins s σ H R I h
  refine Call_ (ld_blt I hg hm bt_enumerate (PyProof.Rows.callWith_type1 (thn (ha q pins s σ H _ I h) fun us s1 ⟨vs, H1, I1, r1, q1⟩ => ?_) hs rfl))
  obtain ⟨l1, e, ⟨xs, hx⟩, q⟩ := q1
  subst e
  cases r1 with
  | cons r rr =>
    cases rr
    cases r
    obtain ⟨its1, rv1, p1, hz1⟩ := I1.list hx
    refine call_enumerate_list p1.isList fun h' a1 a2 a3 a4 => ?_
    refine wpAny_pyIter_enum (s := { s1 with heap := h' }) a1 ?_
    have I2 : Inv X pins σ H1 { s1 with heap := h' } := I1.kept (t' := s1.toks) a4
    refine ⟨_, _, _, _, H1, rfl, I2, turn_enum (by show (_ : Nat) ≠ (_ : Nat); omega), ⟨⟨_, a1⟩, a2⟩, fun b hb => ?_, q⟩
    have hb' : b = s1.heap.objs.size + 1 ∨ b = s1.heap.objs.size := by simpa using hb
    have hb2 : s1.heap.objs.size ≤ b := by rcases hb' with q | q <;> rw [q] <;> first | exact Nat.le_refl _ | exact Nat.le_add_right _ _
    exact I1.fpOk hb2 (I1.hok.fresh hb2)
end
/-! ### the loops over them -/
theorem comp_zip {nT : Nat} {js : List Nat} {g : TG} {tb : TB} {Q : VK} {σ : St} {H : Hp} {K : PySem.W.Frag} {a b : Addr} {xs zs : List V} (Pv : Nat → List V → Hp → Prop) (h0 : Pv 0 [] H) (hx : xs.length = zs.length) (hz : xs.length ≤ sizeLine) (hlen : ∀ i ys H, Pv i ys H → ys.length ≤ i)
    (hl : ∀ i ys H, i ≤ xs.length → Pv i ys H → SqL K H a xs ∧ SqL K H b zs)
    (hs : ∀ i x z ys H p, xs[i]? = some x → zs[i]? = some z → Pv i ys H → H p = none → g (.ref p) (cells0 nT js σ) (upd H p (.tup [x, z])) fun σ4 H4 => σ4.drop nT = seenV js σ ∧ tb (fun v H5 => Pv (i + 1) (ys ++ [v]) H5) (fun H5 => Pv (i + 1) ys H5) σ4 H4)
    (hd : ∀ ys H, Pv xs.length ys H → ∀ l, H l = none → Q (.ref l) (upd H l (.lst ys))) :
    CompW nT js (Itz K a b) g tb σ H Q := by
  refine ⟨fun i m ys H => m = xs.length - i ∧ i ≤ xs.length ∧ Pv i ys H, ⟨xs.length, by simp, Nat.zero_le _, h0⟩, ?_⟩
  rintro i m ys H2 ⟨rfl, hi, p⟩
  have hl' := hlen i ys H2 p
  obtain ⟨q1, q2⟩ := hl i ys H2 hi p
  by_cases hlt : i < xs.length
  · refine .inr ⟨⟨xs, zs, xs[i], zs[i], q1, q2, by simp [hlt], by simp [← hx, hlt]⟩, by omega, Pv (i + 1), fun ys' H' p' => ⟨xs.length - (i + 1), by omega, rfl, hlt, p'⟩, fun x H3 y => ?_⟩
    obtain ⟨r, x1, y1, rfl, hn, rfl, e1, e2⟩ := y
    exact hs i x1 y1 ys _ r (e1 xs q1) (e2 zs q2) p hn
  · have e : i = xs.length := by omega
    subst e
    exact .inl ⟨⟨xs, zs, q1, q2, .inl (Nat.le_refl _)⟩, by omega, hd ys H2 p⟩
theorem for_enum {K : PySem.W.Frag} {a : Addr} {xs : List V} {g : TG} {tb : TS} {D : Ends} {σ : St} {H : Hp} (Pv : Nat → St → Hp → Prop) (h0 : Pv 0 σ H) (hk : ∀ i σ H, i ≤ xs.length → Pv i σ H → SqL K H a xs)
    (hs : ∀ i x σ H p, xs[i]? = some x → Pv i σ H → H p = none → g (.ref p) σ (upd H p (.tup [.int i, x])) fun σ2 H2 => tb { D with nx := Pv (i + 1), ct := Pv (i + 1), bk := D.nx } σ2 H2) (hd : ∀ σ H, Pv xs.length σ H → D.nx σ H) :
    ∃ W : Nat → Nat → St → Hp → Prop, (∃ m, W 0 m σ H) ∧ ∀ i m σ H, W i m σ H →
      ((Ite K a).stop i H ∧ D.nx σ H) ∨ ((Ite K a).go i H ∧ ∃ N : St → Hp → Prop, (∀ σ' H', N σ' H' → ∃ m', m' < m ∧ W (i + 1) m' σ' H') ∧ ∀ x H', (Ite K a).yld i H x H' → g x σ H' fun σ2 H2 => tb { D with nx := N, ct := N, bk := D.nx } σ2 H2) := by
  refine ⟨fun i m σ H => m = xs.length - i ∧ i ≤ xs.length ∧ Pv i σ H, ⟨xs.length, by simp, Nat.zero_le _, h0⟩, ?_⟩
  rintro i m σ H ⟨rfl, hi', p⟩
  have hq := hk i σ H hi' p
  by_cases hlt : i < xs.length
  · refine .inr ⟨⟨xs, _, hq, List.getElem?_eq_getElem hlt⟩, Pv (i + 1), fun σ' H' p' => ⟨xs.length - (i + 1), by omega, rfl, hlt, p'⟩, fun x H' y => ?_⟩
    obtain ⟨q, z, rfl, hn, rfl, hz⟩ := y
    exact hs i z σ H q (hz xs hq) p hn
  · have e : i = xs.length := by omega
    subst e
    exact .inl ⟨⟨xs, hq, Nat.le_refl _⟩, hd σ H p⟩

theorem pg_tupK (K : PySem.W.Frag) {X : Cx} {pos : Pos} {es : List Expr} {k : Nat} {t : TGs} (n : Nat) (hc : X.calm = true) (h : PGs X es t) (hK : X.K = K := by rfl)
    (hn : (assignEach es X.env).length = n := by rfl) (hst : (assignEach es X.env).findIdx? (·.1) = none := by rfl) : PG X (.Tuple es k pos) (gTup K n t) := by subst hK; exact pg_tup hc h hn hst
structure Bz (mg : Str → Option Value) : Prop where
  zip : mg "zip" = none
  enumerate : mg "enumerate" = none
end L2

namespace HT
open PySem PyProof.Rows
section
open PySem.SeqAt
open PySem.AutoSeq1 (wpAny_loadPart')
open PySem.MeetsSeq PySem.MeetsSeq2 PySem.MeetsSeq3
theorem IntsAre.at' : ∀ {vs : List Value} {ns : List Int}, IntsAre vs ns → ∀ {i : Nat} (h : i < vs.length), ∃ (z : Int) (t : Tok), vs[i] = .int z t ∧ ns.drop i = z :: ns.drop (i + 1)
  | _, _, .cons n t r, 0, _ => ⟨n, t, rfl, rfl⟩
  | _, _, .cons n t r, i + 1, h => by
    obtain ⟨z, u, e1, e2⟩ := IntsAre.at' r (i := i) (by simpa using h)
    exact ⟨z, u, by simpa using e1, by simpa using e2⟩
theorem lt_loopAt (l b : Addr) (items items2 : Array Value) (n n2 : Nat) (dd dd2 : Option Addr) (sl sl2 : Array (Option Value)) (ns ms : List Int) (hi : IntsAre items.toList ns) (hj : IntsAre items2.toList ms) (k : Nat) :
    ∀ i : Nat, items.size - i = k → i ≤ items.size → i ≤ items2.size → Meets (Builtin.«list.__eq__.loop» ⟨[.ref l, .ref b, rawInt i, rawInt 0], []⟩)
      (fun A R s => s.heap.get? l = some { cls := .type "list", dict := dd, data := .seq items n, slots := sl } ∧ s.heap.get? b = some { cls := .type "list", dict := dd2, data := .seq items2 n2, slots := sl2 } ∧
        R (.ok (.ret (.bool (lexLt (ns.drop i) (ms.drop i))))) s) := by
  have z1 : items.size = ns.length := by rw [← hi.length]; simp
  have z2 : items2.size = ms.length := by rw [← hj.length]; simp
  induction k with
  | zero =>
    intro i hk h1 h2 prog w A R s h
    obtain ⟨hp, g, d, tk, os⟩ := s; obtain ⟨hl, hb, h⟩ := h
    wp_walk using wpAny_loadPart' hl, wpAny_loadPart' hb
    have hi1 : items[((i : Nat) : Int).toNat]? = none := by simp; omega
    have hd : ns.drop i = [] := by simp; omega
    rw [hd] at h
    rw [hi1]
    wp_walk using wpAny_loadPart' hl, wpAny_loadPart' hb
    show R (.ok (.ret (.bool (decide (items.size < items2.size))))) _
    have e : lexLt [] (ms.drop i) = decide (items.size < items2.size) := by
      by_cases q : i < ms.length
      · rw [List.drop_eq_getElem_cons q, lexLt_nil_cons]
        exact (decide_eq_true (by omega)).symm
      · rw [List.drop_eq_nil_of_le (by omega), lexLt_nil_nil]
        exact (decide_eq_false (by omega)).symm
    rw [← e]
    exact h
  | succ k ih =>
    intro i hk h1 h2 prog w A R s h
    obtain ⟨hp, g, d, tk, os⟩ := s; obtain ⟨hl, hb, h⟩ := h
    wp_walk using wpAny_loadPart' hl, wpAny_loadPart' hb
    have hlt : i < items.size := by omega
    have hi1 : items[((i : Nat) : Int).toNat]? = some items[i] := by simp [hlt]
    obtain ⟨x, t, e1, d1⟩ := IntsAre.at' hi (i := i) (by simpa using hlt)
    have e1' : items[i] = .int x t := by simpa using e1
    rw [d1] at h
    by_cases hlt2 : i < items2.size
    · have hi2 : items2[((i : Nat) : Int).toNat]? = some items2[i] := by simp [hlt2]
      obtain ⟨y, u, e2, d2⟩ := IntsAre.at' hj (i := i) (by simpa using hlt2)
      have e2' : items2[i] = .int y u := by simpa using e2
      have hc : ((i : Int) + 1) = ((i + 1 : Nat) : Int) := by push_cast; rfl
      rw [d2, lexLt_cons] at h
      rw [hi1, hi2, e1', e2']
      obtain ⟨e, he, hiff⟩ := eqAt_int A.in1 ⟨hp, g, d, tk, os⟩ x t y u
      refine wpAny_bind (he prog w _ _ ?_)
      cases e with
      | true =>
        rw [if_pos (hiff.mp rfl)] at h
        wp_walk
        rw [hc]
        exact ⟨plainId_quiet plain_eq_loop _, codeAny_builtin entry_eq_loop (by
          rw [Around.under_plainId plain_eq_loop _]
          exact ih (i + 1) (by omega) (by omega) (by omega) prog w A R _ ⟨hl, hb, h⟩)⟩
      | false =>
        rw [if_neg (fun q => absurd (hiff.mpr q) Bool.false_ne_true)] at h
        wp_walk using wpAny_loadPart' hl, wpAny_loadPart' hb
        rw [hi1, hi2, e1', e2']
        have hri := rcLt_int A.in1 ⟨hp, g, d, tk, os⟩ x t y u prog w
        wp_walk using hri
        simpa using h
    · have hi2 : items2[((i : Nat) : Int).toNat]? = none := by simp; omega
      have hd : ms.drop i = [] := by simp; omega
      rw [hd, lexLt_cons_nil] at h
      rw [hi1, hi2]
      wp_walk using wpAny_loadPart' hl, wpAny_loadPart' hb
      show R (.ok (.ret (.bool (decide (items.size < items2.size))))) _
      rw [decide_eq_false (by omega)]
      exact h
theorem list_lt_ints (l b : Addr) (items items2 : Array Value) (n n2 : Nat) (dd dd2 : Option Addr) (sl sl2 : Array (Option Value)) (ns ms : List Int) (hi : IntsAre items.toList ns) (hj : IntsAre items2.toList ms) :
    Meets (Builtin.«list.__lt__» ⟨[.ref l, .ref b], []⟩)
      (fun _ R s => s.heap.get? l = some { cls := .type "list", dict := dd, data := .seq items n, slots := sl } ∧ s.heap.get? b = some { cls := .type "list", dict := dd2, data := .seq items2 n2, slots := sl2 } ∧
        R (.ok (.ret (.bool (lexLt ns ms)))) s) := by
  intro prog w A R s h
  obtain ⟨hp, g, d, tk, os⟩ := s; obtain ⟨hl, hb, h⟩ := h
  have f3 := AutoSeq1.sub_list_list
  wp_walk using wpAny_loadPart' hl, wpAny_loadPart' hb
  exact ⟨plainId_quiet plain_eq_loop _, codeAny_builtin entry_eq_loop (by
    rw [Around.under_plainId plain_eq_loop _]
    exact lt_loopAt l b items items2 n n2 dd dd2 sl sl2 ns ms hi hj _ 0 rfl (Nat.zero_le _) (Nat.zero_le _) prog w A R _ ⟨hl, hb, by simpa using h⟩)⟩
end
end HT
namespace L2
open PySem PySem.Spec PyProof.Rows
section
variable {X : Cx}
def rLtL (K : PySem.W.Frag) : R2 := fun x y H Q => ∃ a b ns ms, x = .ref a ∧ y = .ref b ∧ SqL K H a (ns.map V.int) ∧ SqL K H b (ms.map V.int) ∧ Q (.bl (HT.lexLt ns ms)) H
theorem op_ltL (hu : X.A.units < cLine) : OpR X (compareOp .Lt) (rLtL X.K) := by
  intro pins s σ H x y v u Q I rx ry h
  obtain ⟨a, b, ns, ms, rfl, rfl, ha, hb, q⟩ := h
  cases rx
  cases ry
  obtain ⟨its, r1, p1, _⟩ := I.list ha
  obtain ⟨its2, r2, p2, _⟩ := I.list hb
  have i1 : IntsAre its.toArray.toList ns := intsAre_of r1
  have i2 : IntsAre its2.toArray.toList ms := intsAre_of r2
  obtain ⟨⟨cls, dd, data, sl⟩, ho, hc, n, hd⟩ := p1.isList
  obtain ⟨⟨cls2, dd2, data2, sl2⟩, ho2, hc2, n2, hd2⟩ := p2.isList
  simp only at hc hd hc2 hd2
  subst hc hd hc2 hd2
  exact richCompare_meets_room (op := .Lt) ⟨_, ho, rfl⟩ ⟨_, ho2, rfl⟩ PySem.F.slot_list_lt PySem.F.entry_list_lt (PySem.F.args_list_lt_2 _ _) (HT.list_lt_ints a b _ _ n n2 dd dd2 sl sl2 ns ms i1 i2)
    ⟨ho, ho2, show Value.bool (HT.lexLt ns ms) ≠ Value.notImplemented ∧ EP X pins σ Q (.bool (HT.lexLt ns ms)) s from ⟨(fun x => nomatch x), ⟨.bl (HT.lexLt ns ms), H, I, rfl, q⟩⟩⟩ hu
/-- t + u of tuples, any -/
def rCatA (K : PySem.W.Frag) : R2 := fun x y H Q => ∃ a b xs ys, x = .ref a ∧ y = .ref b ∧ SqT K H a xs ∧ SqT K H b ys ∧ xs.length + ys.length ≤ sizeLine ∧
  (xs = [] → Q (.ref b) H) ∧ (xs ≠ [] → ys = [] → Q (.ref a) H) ∧ (xs ≠ [] → ys ≠ [] → ∀ p, H p = none → Q (.ref p) (upd H p (.tup (xs ++ ys))))
theorem op_catA : OpR X (binaryOp .Add) (rCatA X.K) := by
  intro pins s σ H x y v u Q I rx ry h
  obtain ⟨a, b, xs, ys, ex, ey, ha, hb, hz, q0, q1, q2⟩ := h
  by_cases hx : xs = []
  · subst ex ey
    cases rx
    cases ry
    obtain ⟨its, r1, p1, _⟩ := I.tuple ha
    obtain ⟨its2, r2, p2, _⟩ := I.tuple hb
    obtain ⟨⟨cls, dd, data, sl⟩, ho, hc, n, hd⟩ := id p1
    obtain ⟨⟨cls2, dd2, data2, sl2⟩, ho2, hc2, n2, hd2⟩ := id p2
    simp only at hc hd hc2 hd2
    subst hc hd hc2 hd2
    have hi0 : its = [] := r1.nil_iff.mpr hx
    exact concat_meets ⟨_, ho, rfl⟩ ⟨_, ho2, rfl⟩ noFill_tuple_add seq_tuple_add PySem.F.slot_tuple_add PySem.F.entry_tuple_add (PySem.F.args_tuple_add_2 _ _)
      (tuple_addW0 a b its.toArray its2.toArray n n2 dd dd2 sl sl2 (by simp [hi0])) ⟨ho, ho2, ⟨.ref b, H, I, rfl, q0 hx⟩⟩
  · exact op_catT pins s σ H x y v u Q I rx ry ⟨a, b, xs, ys, ex, ey, ha, hb, hx, hz, q1 hx, q2 hx⟩
def rCatS : R2 := fun x y H Q => ∃ a b xs ys, x = .ref a ∧ y = .ref b ∧ H a = some (.tup xs) ∧ H b = some (.tup ys) ∧ xs.length + ys.length ≤ sizeLine ∧ ∀ p H', Same H H' → H' p = some (.tup (xs ++ ys)) → Q (.ref p) H'
theorem op_catS : OpR X (binaryOp .Add) rCatS := by
  intro pins s σ H x y v u Q I rx ry h
  obtain ⟨a, b, xs, ys, ex, ey, ha, hb, hz, q⟩ := h
  refine op_catA pins s σ H x y v u Q I rx ry ⟨a, b, xs, ys, ex, ey, SqT.of ha, SqT.of hb, hz, fun e => ?_, fun _ e => ?_, fun _ _ p hp => ?_⟩
  · exact q b H (Same.refl H) (by rw [e]; exact hb)
  · exact q a H (Same.refl H) (by rw [e, List.append_nil]; exact ha)
  · exact q p _ (same_upd hp) upd_same
theorem op_ltLK (K : PySem.W.Frag) (hu : X.A.units < cLine) (h : X.K = K := by rfl) : OpR X (compareOp .Lt) (rLtL K) := by subst h; exact op_ltL hu
theorem op_catAK (K : PySem.W.Frag) (h : X.K = K := by rfl) : OpR X (binaryOp .Add) (rCatA K) := by subst h; exact op_catA
end
end L2

namespace L2
open PySem PySem.Spec PyProof.Rows
/-! ### own exceptions: how one lies behind a call -/
abbrev bmV : List Value := [.type "ValueError", .type "Exception", .type "BaseException", .type "object"]
abbrev ExcIn (K : PySem.W.Frag) (C : Addr) : Prop := PySem.W.excIn K C bmV "ValueError.__new__" = true
theorem exc_obj {K : PySem.W.Frag} {h : Heap} {C : Addr} (X : K.In h) (q : ExcIn K C) :
    ∃ bm N nm qn bs hdct sn sub ab col dd k0 k1 k2 k3 k5 mN, h.get? C = some (excClassObj nm qn C N bs bm hdct sn sub ab col dd k0 k1 k2 k3 k5 "ValueError.__new__") ∧ h.Ns N mN ∧ mN "__init__" = none ∧ OwnTail h bmV bm ∧
      ∀ y b, PySem.W.mroIn K C y = some b → (Value.ref C :: bm).contains y = b := by
  unfold ExcIn PySem.W.excIn at q
  split at q
  · rename_i dd cd sl ho
    split at q
    · rename_i C' bm k0 k1 k2 k3 n k5 hm hs
      simp only [Bool.and_eq_true, beq_iff_eq, Bool.not_eq_true'] at q
      obtain ⟨⟨⟨⟨⟨rfl, rfl⟩, hdel⟩, ht⟩, hok⟩, hni⟩ := q
      obtain ⟨nm, bs, mro, ns, qn, hd, sn, sub, ab, col, del⟩ := cd
      dsimp only at hm hdel hok hni
      subst hm hdel
      have hsl : sl = #[k0, k1, k2, k3, some (.builtin "ValueError.__new__"), k5] := by
        obtain ⟨l⟩ := sl
        simp only at hs
        rw [hs]
      subst hsl
      refine ⟨bm, ns, nm, qn, bs, hd, sn, sub, ab, col, dd, k0, k1, k2, k3, k5, _, X _ _ ho, .of_isNs (PySem.W.isNs_of_in X hok), PySem.W.nsMap_none_of_in X hok hni, PySem.W.tail_of_in X ht, fun y b e => ?_⟩
      unfold PySem.W.mroIn PySem.W.clsIn at e
      rw [ho] at e
      simpa using e
    · cases q
  · cases q
structure Flies (P : Program) (w : World) (outer : List Env) (H : Hp) (s : Shared) (a C : Addr) (a0 : Value) (B : Heap) (H' : Hp) (s' : Shared) : Prop where
  os : s'.os = s.os
  bare : AllBare s'.gens
  un : Un (frs outer) [] H H' s.heap s'.heap
  hok : HOk P w H' s'.heap
  fl : Heap.FlyingW B outer a (.ref C) a0 s'.heap
  cov : ∀ b o, s.heap.get? b = some o → b ∉ frs outer → ∃ o', B.get? b = some o' ∧ (H b = none → o' = o)
  cov2 : ∀ b, H' b ≠ none → ∃ o, B.get? b = some o
  new : s.heap.get? a = none
def CXe (P : Program) (w : World) : CXT := fun outer H s E e s' => ∃ (a C : Addr) (a0 : Value) (B : Heap) (H' : Hp), e = .ref a ∧ Flies P w outer H s a C a0 B H' s' ∧ E (.ref C) none H'
theorem HOk.stays {P : Program} {w : World} {H : Hp} {B h h' : Heap} (ok : HOk P w H h) (c : ∀ b, H b ≠ none → ∃ o, B.get? b = some o) (k1 : B.StaysIn h) (k2 : B.StaysIn h') : HOk P w H h' := fun b u e => by
  refine (ok b u e).stay (fun c' v hc q => ?_) (fun _ q => q) fun _ _ q => q
  have hne : H c' ≠ none := by
    rcases hc with z | z
    · rw [z, e]; simp
    · rw [z]; simp
  obtain ⟨o, ho⟩ := c c' hne
  have h1 := k1 _ _ ho
  rw [q] at h1
  cases h1
  exact k2 _ _ ho
/-- what follows a state that flies, up to slots -/
theorem Un.fly {fs0 : List Addr} {H0 H H' : Hp} {h0 h h' h'' B : Heap} {l : List Env} {L : Addr} (u0 : Un fs0 [] H0 H h0 h) (u : Un (frs l) [] H H' h h') (hfs : frs l = L :: fs0) (hL : h0.get? L = none)
    (hff : h'.FunFrames B l) (sm : h'.UpToSlots h'') (k2 : B.StaysIn h'') (cov : ∀ b o, h.get? b = some o → b ∉ frs l → ∃ o', B.get? b = some o' ∧ (H b = none → o' = o)) : Un fs0 [] H0 H' h0 h'' := by
  have nL : ∀ b o, h0.get? b = some o → b ≠ L := fun b o e z => by rw [z, hL] at e; cases e
  have frame : ∀ b o, b ∈ frs l → h'.get? b = some o → ∃ sl, h''.get? b = some { o with slots := sl } := fun b o hb e => by
    obtain ⟨_, o1, e1, hn⟩ := hff.mem (b := b) hb
    rw [e] at e1
    cases e1
    exact sm b o e hn
  refine ⟨fun b o e n hb hx => ?_, fun b o e n hb hx => ?_, fun b o e n hx => ?_, fun b o e hx => ?_, fun b xs e => u.tups _ _ (u0.tups _ _ e), fun b o x e => u.frzs _ _ _ (u0.frzs _ _ _ e), fun b ps e => ?_⟩
  · have e1 := u0.keep b o e n hb hx
    obtain ⟨o', ho', heq⟩ := cov b o e1 (by rw [hfs]; exact fun z => (List.mem_cons.mp z).elim (nL b o e) hb)
    rw [heq (u0.free b o e n hx)] at ho'
    exact k2 _ _ ho'
  · obtain ⟨sl, e1⟩ := u0.slot b o e n hb hx
    have n1 := u0.free b o e n hx
    have hb' : b ∈ frs l := by rw [hfs]; exact List.mem_cons_of_mem _ hb
    obtain ⟨sl2, e2⟩ := u.slot b _ e1 n1 hb' hx
    obtain ⟨sl3, e3⟩ := frame b _ hb' e2
    exact ⟨sl3, e3⟩
  · obtain ⟨o1, e1⟩ := u0.there b o e hx
    exact u.free b o1 e1 (u0.free b o e n hx) hx
  · obtain ⟨o1, e1⟩ := u0.there b o e hx
    by_cases hb : b ∈ frs l
    · obtain ⟨o2, e2⟩ := u.there b o1 e1 hx
      obtain ⟨sl, e3⟩ := frame b o2 hb e2
      exact ⟨_, e3⟩
    · obtain ⟨o', ho', _⟩ := cov b o1 e1 hb
      exact ⟨o', k2 _ _ ho'⟩
  · obtain ⟨m1, e1⟩ := u0.tbls b ps e
    obtain ⟨m2, e2⟩ := u.tbls b _ e1
    exact ⟨m1 ++ m2, by rw [e2, Array.append_assoc]⟩
theorem ObjOk.there {P : Program} {w : World} {H : Hp} {h : Heap} {a : Addr} {o : HO} (x : ObjOk P w H h a o) : ∃ u, h.get? a = some u := by
  cases o with
  | lst xs => obtain ⟨_, _, _, _, e⟩ := x; exact ⟨_, e⟩
  | tup xs => obtain ⟨_, _, _, ob, e, _⟩ := x; exact ⟨_, e⟩
  | dK kvs => obtain ⟨_, _, _, _, o, _, _, e, _⟩ := x; exact ⟨_, e⟩
  | dT kvs => obtain ⟨_, _, _, _, o, _, _, e, _⟩ := x; exact ⟨_, e⟩
  | set S n => obtain ⟨o, _, _, _, e, _⟩ := x; exact ⟨_, e⟩
  | ins C dx fs => obtain ⟨_, _, _, e, _⟩ := x; exact ⟨_, e⟩
  | own y => exact x
  | xd fs => obtain ⟨_, ⟨_, _, _, e, _⟩, _⟩ := x; exact ⟨_, e⟩
  | rng lo hi => obtain ⟨_, _, _, e⟩ := x; exact ⟨_, e⟩
  | frz ob u => obtain ⟨e, _⟩ := x; exact ⟨_, e⟩
  | tbl ps => exact ⟨_, (show h.get? a = some _ from x)⟩
  | met f y => exact ⟨_, (show h.get? a = some _ from x)⟩
  | ext φ => obtain ⟨_, ⟨_, e⟩, _⟩ := x; exact ⟨_, e⟩
theorem funFrames_rebase {h base B : Heap} : ∀ {l : List Env}, h.FunFrames base l → (∀ b ∈ frs l, B.get? b = none) → h.FunFrames B l
  | [], _, _ => trivial
  | env :: r, ⟨hk, ⟨L, o, hf, hn, ho, hd⟩, hr⟩, hb => by
    have e : frs (env :: r) = L :: frs r := by unfold frs; rw [List.filterMap_cons, hf]
    refine ⟨hk, ⟨L, o, hf, hb L (by rw [e]; exact List.mem_cons_self ..), ho, hd⟩, funFrames_rebase hr fun b q => hb b (by rw [e]; exact List.mem_cons_of_mem _ q)⟩
/-! ### a raise that leaves a def; a call that may raise -/
section
variable {P : Program} {w : World} {K : PySem.W.Frag} {mg : Str → Option Value} {base : Heap} {N : List Str} {qual : Str} {scope : Scope} {f : Addr} {cd : Value} {A : Around} {outer : List Env} {s0 : Shared} {H0 : Hp} {E : XK}
def Takes (X : Cx) (EE : St → XK) : Prop := ∀ (pins : List (Addr × Obj)) (σ : St) (H : Hp) (s : Shared) (e : Value) (s' : Shared), Inv X pins σ H s → CXe X.prog X.w X.stack H s (EE σ) e s' → X.xe e s'
theorem takes_fn : Takes (cxOf (CXe P w) P w K mg base N qual scope f cd A outer s0 H0 E) (fun _ => E) := by
  rintro pins σ H s e s' I ⟨a, C, a0, B, H', rfl, F, q⟩
  have hL : s0.heap.get? s0.heap.objs.size = none := Heap.get?_none_of_le (Nat.le_refl _)
  refine wpAny_leaves_onW (base := B) I.ok.frames rfl F.fl fun h'' fl sm => ⟨a, C, a0, B, H', rfl, ⟨?_, F.bare, ?_, ?_, fl, ?_, F.cov2, ?_⟩, q⟩
  · exact F.os.trans I.os
  · exact Un.fly I.base F.un rfl hL F.fl.2.2.1 sm fl.1 F.cov
  · exact F.hok.stays F.cov2 F.fl.1 fl.1
  · intro b o e hb
    obtain ⟨o1, e1⟩ := I.base.there b o e (by simp [cxOf])
    have nL : b ≠ s0.heap.objs.size := fun z => by rw [z, hL] at e; cases e
    obtain ⟨o', ho', heq⟩ := F.cov b o1 e1 (fun z => (List.mem_cons.mp z).elim nL hb)
    refine ⟨o', ho', fun n => ?_⟩
    have e2 := I.base.keep b o e n hb (by simp [cxOf])
    rw [e1] at e2
    cases e2
    exact heq (I.base.free b o e n (by simp [cxOf]))
  · cases e : s0.heap.get? a with
    | none => rfl
    | some o =>
      obtain ⟨o1, e1⟩ := I.base.there a o e (by simp [cxOf])
      have := F.new
      rw [e1] at this
      cases this
def tRaise (C : Addr) (E : XK) (t : TA) : TS := fun _ σ H => t σ H fun vs H1 => vs.length ≤ 10 ∧ E (.ref C) none H1
theorem ps_raise {x : Str} {C : Addr} {arg : Expr} {np cpos pos : Pos} {t : TA} (hm : mg x = some (.ref C)) (hE : ExcIn K C) (hB : PySem.W.mroIn K C (.type "BaseException") = some true)
    (ha : PA (cxOf (CXe P w) P w K mg base N qual scope f cd A outer s0 H0 E) [arg] t) (hg : Gl (cxOf (CXe P w) P w K mg base N qual scope f cd A outer s0 H0 E) x := by rfl)
    (hst : starEach [arg] (cxOf (CXe P w) P w K mg base N qual scope f cd A outer s0 H0 E).env = [(false, eval arg (cxOf (CXe P w) P w K mg base N qual scope f cd A outer s0 H0 E).env)] := by rfl)
    (hd : (x == ("__debug__" : Str)) = false := by decide) :
    PS (cxOf (CXe P w) P w K mg base N qual scope f cd A outer s0 H0 E) (.Raise (some (.Call (.Name x np) [arg] [] cpos)) none pos) (tRaise C E t) := by
  intro pins s σ H D I h
  generalize hX : cxOf (CXe P w) P w K mg base N qual scope f cd A outer s0 H0 E = X at *
  have hcalm : X.calm = true := by rw [← hX]; rfl
  have hXK : X.K = K := by rw [← hX]; rfl
  obtain ⟨bm, N', nm, qn, bs, hdct, sn, sub, ab, col, dd, k0, k1, k2, k3, k5, mN, hC, hN, hni, TL, hmro⟩ := exc_obj I.ok.mod.kin (by rw [hXK]; exact hE)
  have hbase : bm.contains (.type "BaseException") = true := by
    have := hmro (.type "BaseException") true (by rw [hXK]; exact hB)
    rw [List.contains_cons] at this
    simpa using this
  have hpl : (backTo cpos (starEach [arg] X.env)).any (·.1) = false := by rw [hst]; rfl
  refine wpAny_Raise_call_subT (C := C) (nm := nm) (q := qn) (N := N') (bs := bs) (bm := bm) (hdct := hdct) (sn := sn) (sub := sub) (ab := ab) (col := col) (dd := dd) (k0 := k0) (k1 := k1) (k2 := k2) (k3 := k3) (k5 := k5) F.excBase_ValueError hbase (I.ok.hd hcalm) hpl hni ?_
  refine ld_glob I hg (by rw [← hX]; exact hm) ⟨rfl, ?_⟩ hd
  have harg : backTo cpos (starEach [arg] X.env) = [(false, (backTo cpos (starEach [arg] X.env)).head!.2)] := by rw [hst]; rfl
  rw [harg]
  refine Calls.evalArgs_plain ?_
  rw [← harg]
  refine thn (ha cpos pins s σ H _ I h) fun us s1 ⟨vs, H1, I1, r, hl, q⟩ => ?_
  refine ⟨rfl, ?_, I1.bk _ _ hC, hN.keeps I1.bk, TL.keeps I1.bk, fun h' e hx => ?_⟩
  · show us.length ≤ sizeLine
    have := r.length
    have := small1000 (n := 10) (by omega)
    omega
  have ff : s1.heap.FunFrames (PySem.W.hideAll s1.heap (frs X.stack)) X.stack := funFrames_rebase I1.stack fun b hb => PySem.W.hideAll_none _ hb
  have kb : (PySem.W.hideAll s1.heap (frs X.stack)).StaysIn s1.heap := fun b o q => PySem.W.of_hideAll _ q
  have cv : ∀ b o, s1.heap.get? b = some o → b ∉ frs X.stack → ∃ o', (PySem.W.hideAll s1.heap (frs X.stack)).get? b = some o' ∧ (H1 b = none → o' = o) := fun b o e1 hb => ⟨o, PySem.W.hideAll_get _ e1 hb, fun _ => rfl⟩
  have cv2 : ∀ b, H1 b ≠ none → ∃ o, (PySem.W.hideAll s1.heap (frs X.stack)).get? b = some o := fun b hb => by
    cases q1 : H1 b with
    | none => exact absurd q1 hb
    | some u =>
      obtain ⟨o, ho⟩ := (I1.hok b u q1).there
      exact ⟨o, PySem.W.hideAll_get _ ho fun z => hb (I1.stkFree b z)⟩
  subst hX
  have hL : s0.heap.get? s0.heap.objs.size = none := Heap.get?_none_of_le (Nat.le_refl _)
  refine wpAny_leaves_madeW (base := PySem.W.hideAll s1.heap (frs (cxOf (CXe P w) P w K mg base N qual scope f cd A outer s0 H0 E).stack)) (h := s1.heap) I1.ok.frames rfl kb ff hx fun h'' t fl ht htn sm => ⟨e, C, .ref t, _, H1, rfl, ⟨I1.os, I1.bare, ?_, ?_, fl, ?_, cv2, ?_⟩, q⟩
  · exact Un.fly I1.base (Un.kept hx.keeps) rfl hL (ff.of_keeps fun b o hb _ => ⟨o, hx.keeps b o hb, rfl⟩) sm fl.1 cv
  · exact I1.hok.stays cv2 kb fl.1
  · intro b o e1 hb
    obtain ⟨o1, e2⟩ := I1.base.there b o e1 (by simp [cxOf])
    have nL : b ≠ s0.heap.objs.size := fun z => by rw [z, hL] at e1; cases e1
    obtain ⟨o', ho', heq⟩ := cv b o1 e2 (fun z => (List.mem_cons.mp z).elim nL hb)
    refine ⟨o', ho', fun n => ?_⟩
    have e3 := I1.base.keep b o e1 n hb (by simp [cxOf])
    rw [e2] at e3
    cases e3
    exact heq (I1.base.free b o e1 n (by simp [cxOf]))
  · cases e1 : s0.heap.get? e with
    | none => rfl
    | some o =>
      obtain ⟨o1, e2⟩ := I1.base.there e o e1 (by simp [cxOf])
      have := hx.new
      rw [e2] at this
      cases this
end
/-! a def that may raise -/
section
variable {P : Program} {w : World} {K : PySem.W.Frag} {mg : Str → Option Value} {base : Heap}
theorem Fun.okX {x qual : Str} {st : Stmt} {f : Addr} {fd : FuncData} {N ps : List Str} {k : Nat} {sp : Sp} (F : Fun K x qual st f fd) (S : FnScope N ps (defScope st)) (len : ∀ vs H Q E, sp vs H Q E → vs.length = ps.length)
    (hbody : ∀ (cdv : Value) (A : Around) (outer : List Env) (s : Shared) (H : Hp) (vs : List V) (Q : VK) (E : XK), Room k (A.deeper (envOfC qual (defScope st) s.heap.objs.size f cdv)) → sp vs H Q E →
      ∃ t, PSs (cxOf (CXe P w) P w K mg base N qual (defScope st) f cdv A outer s H E) (defBody st) t ∧ t { nx := fun _ H' => Q .non H', rt := Q } (start N vs) H) : FnOk P w K mg base (CXe P w) (k + 1) f fd ps sp := by
  obtain ⟨oc, od, kV, doc, pm, an, cdv, ct, osl, rfl, lk, hcd⟩ := F.ex
  exact fn_of lk hcd S len fun A outer s H vs Q E hr hsp => hbody cdv A outer s H vs Q E hr hsp
end
section
variable {X : Cx} {j k : Nat} {ps : List Str} {sp : Sp} {x : Str} {p pos : Pos} {e : Expr} {es : List Expr} {t : TA} {EE : St → XK}
def tCallX (sp : Sp) (EE : St → XK) (t : TA) : TE := fun σ H Q => t σ H fun vs H1 => sp vs H1 Q (EE σ)
theorem pe_calX (c : Callee X.prog X.w X.K X.mg X.base (CXe X.prog X.w) x k ps sp) (hr : Room j X.A) (hx : Takes X EE) (ha : PA X (e :: es) t) (hk : k ≤ j := by decide) (hg : Gl X x := by rfl)
    (hdb : (x == ("__debug__" : Str)) = false := by decide) (he : starEach (e :: es) X.env = (false, eval e X.env) :: starEach es X.env := by rfl) (hpl : (backTo pos (starEach es X.env)).any (·.1) = false := by rfl) :
    PE X (.Call (.Name x p) (e :: es) [] pos) (tCallX sp EE t) := by
  obtain ⟨f, fd, hm, hkp, hb, F⟩ := c.ex
  intro pins s σ H Q I h
  refine wpAny_Call_Name_kw (ld_glob I hg hm ?_ hdb)
  refine PySem.W.callWith_K (h₀ := X.base) I.ok.mod.kin hkp (thn (ha pos pins s σ H _ I h) fun us s1 ⟨vs, H1, I1, r, q⟩ => ⟨I1.kIn, ?_⟩) he hpl
  have hl : (us ++ []).length = ps.length := by rw [List.append_nil, ← r.length]; exact F.len _ _ _ _ q
  have hb' := hb s1 us I1.kIn hl
  rw [List.append_nil] at hb'
  refine wpAny_call (codeAny_mono (F.run X.A X.stack s1 H1 ⟨us, []⟩ us vs Q (EE σ) (hr.mono hk) I1.env0 hb' r q) fun r s' hq => ?_)
  cases r with
  | error e => exact hx pins σ H1 s1 e s' I1 hq
  | ok fl =>
    cases fl with
    | ret u => exact I1.after hq
    | next => exact False.elim hq
    | brk => exact False.elim hq
    | cont => exact False.elim hq
end
/-! ### try: .. except C as e: -/
/-- an exception of the class at C -/
def excO (C a : Addr) : HO := .ext fun h => ∃ o, h.get? a = some o ∧ o.cls = .ref C
/-- the wish of a try's body -/
def Wx (X : Cx) (EE : St → XK) : Value → Shared → Prop := fun e s' => ∃ (pins : List (Addr × Obj)) (σ : St) (H : Hp) (s : Shared), Inv X pins σ H s ∧ CXe X.prog X.w X.stack H s (EE σ) e s'
theorem takes_wx {X : Cx} {EE : St → XK} : Takes (X.wish (Wx X EE)) EE := fun pins σ H s e s' I h => ⟨pins, σ, H, s, I.unwish, h⟩
/-- within an except suite -/
abbrev Cx.exc (X : Cx) (a : Addr) : Cx := { X with A := X.A.mark (some (.ref a)), calm := false, xe := fun _ _ => False }
theorem Inv.exc {X : Cx} {pins : List (Addr × Obj)} {σ : St} {H : Hp} {s : Shared} (a : Addr) (I : Inv X pins σ H s) : Inv (X.exc a) pins σ H s :=
  ⟨⟨I.ok.mod, I.ok.kind, I.ok.glob, I.ok.blt, I.ok.above, I.ok.inj, I.ok.has, I.ok.cab, (fun z => by cases z), I.ok.frames, I.ok.stk, I.ok.exf, I.ok.bs, I.ok.bsz, I.ok.noex, I.ok.exfs, I.ok.funs, I.ok.frf⟩, I.os, I.bare, I.base, I.loc, I.cell, I.free, I.freeC, I.pin, I.hok, I.len⟩
theorem Inv.unexc {X : Cx} {pins : List (Addr × Obj)} {σ : St} {H : Hp} {s : Shared} {a : Addr} (ok : X.Ok) (I : Inv (X.exc a) pins σ H s) : Inv X pins σ H s := ⟨ok, I.os, I.bare, I.base, I.loc, I.cell, I.free, I.freeC, I.pin, I.hok, I.len⟩
/-- the name goes behind the suite -/
theorem Inv.goes {X : Cx} {pins : List (Addr × Obj)} {σ : St} {H : Hp} {s : Shared} {i : Nat} {n : Str} {M : Model} {A : Around} {E : Value → Shared → Prop} {Q : Unit → Shared → Prop} {pos : Pos} (I : Inv X pins σ H s) (hN : X.N.Nodup) (hi : X.N[i]? = some n) (hk : X.env.scope.names.lookup n = some .local)
    (h : ∀ s', Inv X pins (σ.set i none) H s' → Q () s') : wpAny M A (do bindName X.env n .none; unbindBehindTheSuite X.env n pos) Q E s := by
  obtain ⟨m, hn, hl⟩ := id I.loc
  have hcls : (X.env.scope.kind == .class || (X.env.scope.kind == .module && X.env.locals != X.env.globals)) = false := by rw [I.ok.kind]; rfl
  have hiσ : i < σ.length := by rw [I.len]; exact (List.getElem?_eq_some_iff.mp hi).1
  have cne := I.cne
  obtain ⟨oL, _, _, hoL, _⟩ := id hn
  refine wpAny_nameGoes_keeps hk hn hcls fun h' v hn' hs => h _ ?_
  have tracked : HOk X.prog X.w H h' := fun b ob e => by
    refine (I.hok b ob e).stay (fun c w' hc q => (hs.2 c ?_).trans q) (fun _ q => q) fun _ _ q => q
    rintro rfl
    have hfree := I.free
    rcases hc with z | hc
    · rw [← z, hfree] at e; cases e
    · rw [hfree] at hc; cases hc
  refine ⟨I.ok, I.os, I.bare, ⟨fun b o e n hb hx => ?_, fun b o e n hb hx => ?_, I.base.free, fun b o e hx => ?_, I.base.tups, I.base.frzs, I.base.tbls⟩, ⟨_, hn', fun j y v' e1 e2 e3 => ?_⟩, fun y c e => ?_, I.free, I.freeC, fun p hp => ?_, tracked, by simpa using I.len⟩
  · exact (hs.2 b (Nat.ne_of_lt (Nat.lt_of_lt_of_le (Heap.lt_size e) I.ok.above))).trans (I.base.keep b o e n hb hx)
  · obtain ⟨sl, e1⟩ := I.base.slot b o e n hb hx
    exact ⟨sl, (hs.2 b (Nat.ne_of_lt (Nat.lt_of_lt_of_le (Heap.lt_size e) I.ok.above))).trans e1⟩
  · obtain ⟨o', e1⟩ := I.base.there b o e hx
    exact ⟨o', (hs.2 b (Nat.ne_of_lt (Nat.lt_of_lt_of_le (Heap.lt_size e) I.ok.above))).trans e1⟩
  · by_cases hj : j = i
    · subst hj
      rw [List.getElem?_set_self hiσ] at e2
      cases e2
    · rw [List.getElem?_set_ne (Ne.symm hj)] at e2
      obtain ⟨u', r', q⟩ := hl j y v' e1 e2 e3
      refine ⟨u', r', ?_⟩
      rcases q with ⟨k, e⟩ | ⟨k, c, e, z⟩
      · refine .inl ⟨k, ?_⟩
        have : y ≠ n := fun e => hj (nodup_ix hN e1 (e ▸ hi))
        simp [this, e]
      · exact .inr ⟨k, c, e, z.sameBut hs (cne y c e)⟩
  · obtain ⟨w', z⟩ := I.cell y c e
    exact ⟨w', z.sameBut hs (cne y c e)⟩
  · obtain ⟨e, n, ne, nf, d⟩ := I.pin p hp
    exact ⟨(hs.2 p.1 ne).trans e, n, ne, nf, d⟩
theorem Un.fly0 {H H' : Hp} {h h' h'' B : Heap} {l : List Env} (u : Un (frs l) [] H H' h h') (hff : h'.FunFrames B l) (sm : h'.UpToSlots h'') (k2 : B.StaysIn h'')
    (cov : ∀ b o, h.get? b = some o → b ∉ frs l → ∃ o', B.get? b = some o' ∧ (H b = none → o' = o)) : Un (frs l) [] H H' h h'' := by
  have frame : ∀ b o, b ∈ frs l → h'.get? b = some o → ∃ sl, h''.get? b = some { o with slots := sl } := fun b o hb e => by
    obtain ⟨_, o1, e1, hn⟩ := hff.mem (b := b) hb
    rw [e] at e1
    cases e1
    exact sm b o e hn
  refine ⟨fun b o e n hb hx => ?_, fun b o e n hb hx => ?_, u.free, fun b o e hx => ?_, u.tups, u.frzs, u.tbls⟩
  · obtain ⟨o', ho', heq⟩ := cov b o e hb
    rw [heq n] at ho'
    exact k2 _ _ ho'
  · obtain ⟨sl2, e2⟩ := u.slot b _ e n hb hx
    obtain ⟨sl3, e3⟩ := frame b _ hb e2
    exact ⟨sl3, e3⟩
  · by_cases hb : b ∈ frs l
    · obtain ⟨o2, e2⟩ := u.there b o e hx
      obtain ⟨sl, e3⟩ := frame b o2 hb e2
      exact ⟨_, e3⟩
    · obtain ⟨o', ho', _⟩ := cov b o e hb
      exact ⟨o', k2 _ _ ho'⟩
theorem wpAny_excMatches_sub_ref {M : Model} {A : Around} {E : Value → Shared → Prop} {s : Shared} {e C D : Addr} {oe : Obj} {Q : Bool → Shared → Prop} {K : PySem.W.Frag} (X : K.In s.heap) (hC : ExcIn K C) (hD : ExcIn K D) (he : s.heap.get? e = some oe) (hcls : oe.cls = .ref C)
    (hB : PySem.W.mroIn K D (.type "BaseException") = some true) {b : Bool} (hsub : PySem.W.mroIn K C (.ref D) = some b) (hq : Q b s) : wpAny M A (excMatches (.ref e) (.ref D)) Q E s := by
  obtain ⟨h, g, d, t, os⟩ := s
  obtain ⟨bm, N, nm, qn, bs, hdct, sn, sub, ab, col, dd, k0, k1, k2, k3, k5, mN, oC, hN, hni, TL, hmro⟩ := exc_obj X hC
  obtain ⟨bm', N', nm', qn', bs', hdct', sn', sub', ab', col', dd', k0', k1', k2', k3', k5', mN', oD, hN', hni', TL', hmro'⟩ := exc_obj X hD
  have hcB := hmro' _ _ hB
  have hcC := hmro _ _ hsub
  have f := tc_notTuple
  unfold excMatches
  repeat (first | (with_reducible refine wpAny_loadPart_at he ?_; rw [hcls]) | with_reducible refine wpAny_loadPart_at oD ?_ | (with_reducible refine wpAny_isSubtype_exc oD ?_; rw [hcB]) | (with_reducible refine wpAny_isSubtype_exc oC ?_; rw [hcC]) | wp_step)
  cases b
  · wp_walk
    exact hq
  · wp_walk
    exact hq
end L2

namespace L2
open PySem PySem.Spec PyProof.Rows
abbrev Cx.pinned (X : Cx) (pn : List (Addr × Obj)) : Cx := { X with pn := pn }
theorem Inv.toPinned {X : Cx} {pins : List (Addr × Obj)} {σ : St} {H : Hp} {s : Shared} (I : Inv X pins σ H s) : Inv (X.pinned (X.pn ++ pins)) [] σ H s :=
  ⟨⟨I.ok.mod, I.ok.kind, I.ok.glob, I.ok.blt, I.ok.above, I.ok.inj, I.ok.has, I.ok.cab, I.ok.hd, I.ok.frames, I.ok.stk, I.ok.exf, I.ok.bs, I.ok.bsz, I.ok.noex, I.ok.exfs, I.ok.funs, I.ok.frf⟩, I.os, I.bare, I.base, I.loc, I.cell, I.free, I.freeC, fun p hp => I.pin p (by simpa using hp), I.hok, I.len⟩
theorem Inv.ofPinned {X : Cx} {pins pins' : List (Addr × Obj)} {σ : St} {H : Hp} {s : Shared} (I : Inv (X.pinned (X.pn ++ pins)) pins' σ H s) : Inv X pins σ H s :=
  ⟨⟨I.ok.mod, I.ok.kind, I.ok.glob, I.ok.blt, I.ok.above, I.ok.inj, I.ok.has, I.ok.cab, I.ok.hd, I.ok.frames, I.ok.stk, I.ok.exf, I.ok.bs, I.ok.bsz, I.ok.noex, I.ok.exfs, I.ok.funs, I.ok.frf⟩, I.os, I.bare, I.base, I.loc, I.cell, I.free, I.freeC, fun p hp => I.pin p (List.mem_append_left _ hp), I.hok, I.len⟩
theorem SP.ofPinned {X : Cx} {pins pins' : List (Addr × Obj)} {D : Ends} {f : Flow} {s' : Shared} {W : Value → Shared → Prop} (h : SP ((X.pinned (X.pn ++ pins)).wish W) pins' D f s') : SP X pins D f s' := by
  cases f with
  | next => obtain ⟨σ', H', I, q⟩ := h; exact ⟨σ', H', I.unwish.ofPinned, q⟩
  | brk => obtain ⟨σ', H', I, q⟩ := h; exact ⟨σ', H', I.unwish.ofPinned, q⟩
  | cont => obtain ⟨σ', H', I, q⟩ := h; exact ⟨σ', H', I.unwish.ofPinned, q⟩
  | ret u => obtain ⟨v, σ', H', I, r, q⟩ := h; exact ⟨v, σ', H', I.unwish.ofPinned, r, q⟩
def tTry (K : PySem.W.Frag) (D0 : Addr) (i : Nat) (EE : St → XK) (tb th : TS) : TS := fun D σ H =>
  tb D σ H ∧ ∀ σ1 C a H1, EE σ1 (.ref C) none H1 → H1 a = none → ExcIn K C ∧ PySem.W.mroIn K C (.ref D0) = some true ∧
    th { nx := fun σ2 H2 => D.nx (σ2.set i none) H2, rt := D.rt, bk := fun σ2 H2 => D.bk (σ2.set i none) H2, ct := fun σ2 H2 => D.ct (σ2.set i none) H2 } (σ1.set i (some (.ref a))) (upd H1 a (excO C a))
theorem hok_exc {P : Program} {w : World} {H : Hp} {h : Heap} {a C : Addr} (ok : HOk P w H h) (hn : H a = none) (ha : ∃ o, h.get? a = some o ∧ o.cls = .ref C) : HOk P w (upd H a (excO C a)) h := fun b u e => by
  by_cases hb : b = a
  · subst hb
    rw [upd_same] at e
    cases e
    obtain ⟨o, e1, e2⟩ := ha
    exact ⟨⟨o, e1, e2⟩, ⟨o, e1⟩, fun h1 h2 ⟨o', q1, q2⟩ k => ⟨o', k _ q1, q2⟩⟩
  · rw [upd_ne hb] at e
    have na : ∀ c v, H c = some v → c ≠ a := fun c v q z => by rw [z, hn] at q; cases q
    exact (ok b u e).stay (fun c v hc q => q) (fun c q => by rw [upd_ne (na c _ q)]; exact q) fun c xs q => by rw [upd_ne (na c _ q)]; exact q
theorem Un.exc {fs : List Addr} {H H' : Hp} {h h' : Heap} {a C : Addr} (u : Un fs [] H H' h h') (hn : H' a = none) (hh : h.get? a = none) : Un fs [] H (upd H' a (excO C a)) h h' := by
  have na : ∀ c v, H' c = some v → c ≠ a := fun c v q z => by rw [z, hn] at q; cases q
  refine ⟨u.keep, u.slot, fun b o e n hx => ?_, u.there, fun b xs e => ?_, fun b o x e => ?_, fun b ps e => ?_⟩
  · rw [upd_ne (fun z => by rw [z, hh] at e; cases e)]; exact u.free b o e n hx
  · have := u.tups b xs e; rw [upd_ne (na _ _ this)]; exact this
  · have := u.frzs b o x e; rw [upd_ne (na _ _ this)]; exact this
  · obtain ⟨m, q⟩ := u.tbls b ps e
    exact ⟨m, by rw [upd_ne (na _ _ q)]; exact q⟩
theorem ps_try {X : Cx} {body : List Stmt} {b₀ : Stmt} {suite : List Stmt} {dn n : Str} {np hpos pos : Pos} {D0 : Addr} {i : Nat} {EE : St → XK} {tb th : TS} (K : PySem.W.Frag) (hK : X.K = K) (hN : X.N.Nodup) (hi : X.N[i]? = some n) (hk : X.env.scope.names.lookup n = some .local) (hcalm : X.calm = true)
    (hstk : X.stack = X.env :: X.outer) (hfr : X.env.frame = some X.env.locals) (hm : X.mg dn = some (.ref D0)) (hD : ExcIn K D0) (hB : PySem.W.mroIn K D0 (.type "BaseException") = some true)
    (hbody : ∀ pn, PSs ((X.pinned pn).wish (Wx (X.pinned pn) EE)) body tb) (hh : ∀ a, PSs (X.exc a) (b₀ :: suite) th) (hg : Gl X dn := by rfl) (hd : (dn == ("__debug__" : Str)) = false := by decide) :
    PS X (.Try body [.ExceptHandler (some (.Name dn np)) (some n) (b₀ :: suite) hpos] [] [] pos) (tTry K D0 i EE tb th) := by
  intro pins s σ H D I h
  subst hK
  obtain ⟨hb, hx⟩ := h
  refine wpAny_Try_except (wpAny_mono (hbody (X.pn ++ pins) [] s σ H D (I.toPinned.wish _) hb) (fun f s1 q => ?_) fun e s1 q => ?_)
  · have q' := SP.ofPinned q
    cases f with
    | next => exact wpAny_execs_nil q'
    | brk => exact q'
    | cont => exact q'
    | ret u => exact q'
  · obtain ⟨pins', σ1, H1', s', I', a, C, a0, B, H1, rfl, F, qE⟩ := q
    have J0 : Inv X pins σ1 H1' s' := I'.ofPinned
    have hfl : Heap.FlyingW B (X.env :: X.outer) a (.ref C) a0 s1.heap := by rw [← hstk]; exact F.fl
    have hAf : X.A.frames = some (X.env :: X.outer) := by rw [← hstk]; exact I.ok.frames
    refine wpAny_looks_onW hAf hfr hfl fun h4 held4 sm4 => ?_
    refine wpAny_landsW held4 fun h5 fl5 sm5 => ?_
    have hna : H1 a = none := by
      cases q : H1 a with
      | none => rfl
      | some u =>
        obtain ⟨o, ho⟩ := F.cov2 a (by rw [q]; simp)
        rw [F.fl.2.1] at ho
        cases ho
    obtain ⟨hC, hsub, hth⟩ := hx σ1 C a H1 qE hna
    have un5 : Un (frs X.stack) [] H1' H1 s'.heap h5 := Un.fly0 F.un F.fl.2.2.1 (sm4.trans sm5) fl5.1 F.cov
    have hok5 : HOk X.prog X.w H1 h5 := F.hok.stays F.cov2 F.fl.1 fl5.1
    have J5 : Inv X pins σ1 H1 { s1 with heap := h5 } := J0.call' (s' := { s1 with heap := h5 }) F.os un5 hok5 F.bare fun b z => absurd z (by simp)
    obtain ⟨ob, hob, hobc⟩ := fl5.there
    refine wpAny_handleBy_cons (codeAny_handlers_test (ld_glob (X := X.exc a) (J5.exc a) hg hm ?_ hd)) (by intro q; cases q)
    refine wpAny_excMatches_sub_ref (s := { s1 with heap := h5 }) J5.kIn hC hD hob hobc hB hsub ?_
    refine codeAny_handlers_suite_as ?_
    refine lands_againW (s := { s1 with heap := h5 }) fl5 fun h6 fl6 sm6 => ?_
    have un6 : Un (frs X.stack) [] H1' H1 s'.heap h6 := Un.fly0 F.un F.fl.2.2.1 ((sm4.trans sm5).trans sm6) fl6.1 F.cov
    have hok6 : HOk X.prog X.w H1 h6 := F.hok.stays F.cov2 F.fl.1 fl6.1
    have J6 : Inv X pins σ1 (upd H1 a (excO C a)) { s1 with heap := h6 } := J0.call' (s' := { s1 with heap := h6 }) F.os (un6.exc hna F.new) (hok_exc hok6 hna fl6.there) F.bare fun b z => absurd z (by simp)
    refine store_ok (X := X.exc a) (J6.exc a) hN hi (.inl hk) (v := .ref a) rfl (fun s7 J7 => ?_) (.inr hk)
    refine wpAny_mono (hh a pins s7 _ _ _ J7 hth) (fun f s8 q8 => ?_) fun e s8 q8 => q8.elim
    show wpAny _ X.A _ _ _ s8
    cases f with
    | next =>
      obtain ⟨σ', H', I8, q⟩ := q8
      exact Inv.goes (I8.unexc J5.ok) hN hi hk fun s9 J9 => ⟨_, _, J9, q⟩
    | brk =>
      obtain ⟨σ', H', I8, q⟩ := q8
      exact Inv.goes (I8.unexc J5.ok) hN hi hk fun s9 J9 => ⟨_, _, J9, q⟩
    | cont =>
      obtain ⟨σ', H', I8, q⟩ := q8
      exact Inv.goes (I8.unexc J5.ok) hN hi hk fun s9 J9 => ⟨_, _, J9, q⟩
    | ret u =>
      obtain ⟨v, σ', H', I8, r, q⟩ := q8
      exact Inv.goes (I8.unexc J5.ok) hN hi hk fun s9 J9 => ⟨v, _, _, J9, r, q⟩
end L2

namespace L2
open PySem PySem.Spec PyProof.Rows PySem.W Builtin Builtin.ObjectAttr Builtin.Getset_descriptor
theorem class_get' {prog : Program} {w : World} {A : Around} {s : Shared} {K : Frag} {x C : Addr} {ox : Obj} {tp : Value} {R : Result → Shared → Prop} (X : K.In s.heap) (hx : s.heap.get? x = some ox) (hc : ox.cls = .ref C) (hm : mroIn K C (.type "object") = some true)
    (h : R (.ok (.ret (.ref C))) s) : codeAny (model prog w) A (.call (.builtin "getset_descriptor.__get__") ⟨[.builtin "object.__class__", .ref x, tp], []⟩) R s := by
  obtain ⟨hh, g, dr, t, os⟩ := s
  have L0 : Looks (model prog w) hh (typeOf (.ref x)) (.ref C) := hc ▸ (Looks.ld hx).andThen .now
  have L1 := looks_mroIn (M := model prog w) X hm
  refine codeAny_call_builtin KF.slot_gs.plain KF.entry_gs (KF.slot_gs.check _ _ _ _ _ _ _ _ KF.type_class (KF.args_gs _ _ _) ?_)
  unfold Builtin.«getset_descriptor.__get__» descrGet
  rw [dga_obj]
  refine wpAny_bind (wpAny_pure ?_)
  unfold descrGetter descrCheckInstance descrNameAndClass isInstance
  simp only [KF.owner_class]
  repeat lk
  refine ⟨Code.quiet_builtin _ (by decide +kernel), codeAny_builtin KF.entry_class ?_⟩
  unfold Builtin.«object.__class__» shownTypeOf
  repeat lk
  exact h
theorem class_entry {prog : Program} {w : World} {A : Around} {s : Shared} {K : Frag} {x C : Addr} {ox : Obj} {tk : Tok} {Q : Fin → Shared → Prop} {E : Value → Shared → Prop} (X : K.In s.heap) (hx : s.heap.get? x = some ox) (hc : ox.cls = .ref C) (hm : mroIn K C (.type "object") = some true)
    (hcl : findIn K (.ref C) "__class__" = some (some (.builtin "object.__class__"))) (hn : specialIn K (.builtin "object.__class__") "__get__" = some (some (.builtin "getset_descriptor.__get__"))) (htk : takesIn K (.builtin "object.__class__") = some true)
    (h : Q (.done (.ret (.ref C))) s) : wpAny (model prog w) A (Builtin.«object.__getattribute__» ⟨[.ref x, .str "__class__" tk], []⟩) Q E s := by
  obtain ⟨hh, g, dr, t, os⟩ := s
  have L0 : Looks (model prog w) hh (typeOf (.ref x)) (.ref C) := hc ▸ (Looks.ld hx).andThen .now
  have L3 := looks_findIn (M := model prog w) X hcl
  have hT5 : (⟨hh, g, dr, t, os⟩ : Shared).TypeIs (.builtin "object.__class__") "getset_descriptor" := KF.type_class
  have f5 := KF.type_class
  have f6 := F.slot_gs_get.lookup
  have f7 := F.slot_gs_set.lookup
  repeat (any_goals (first | assumption | with_reducible refine Looks.at L0 ?_ | with_reducible refine Looks.at L3 ?_ | wp_step))
  refine class_get' X hx hc hm ?_
  exact wpAny_pure h
theorem check_ga_exc {M : Model} {A : Around} {E : Value → Shared → Prop} {s : Shared} {K : Frag} {a C : Addr} {o : Obj} {nameV : Value} {Q : Unit → Shared → Prop} (X : K.In s.heap) (hE : ExcIn K C) (hB : mroIn K C (.type "BaseException") = some true) (hx : s.heap.get? a = some o) (hc : o.cls = .ref C) (hq : Q () s) :
    wpAny M A (checkBuiltinCall "BaseException.__getattribute__" ⟨[.ref a, nameV], []⟩) Q E s := by
  obtain ⟨h, g, d, t, os⟩ := s
  obtain ⟨bm, N, nm, qn, bs, hdct, sn, sub, ab, col, dd, k0, k1, k2, k3, k5, mN, hC, hN, hni, TL, hmro⟩ := exc_obj X hE
  have hk : builtinKind "BaseException.__getattribute__" = some .slot := by decide +kernel
  have hsplit : splitId "BaseException.__getattribute__" = some ("BaseException", "__getattribute__") := by decide +kernel
  have hcB := hmro _ _ hB
  have ha := F.args_bexc_ga (.ref a) nameV
  simp only [checkBuiltinCall, hk, hsplit]
  refine wpAny_bind ?_
  · unfold isInstance
    repeat (first | (with_reducible refine wpAny_loadPart_at hx ?_; rw [hc]) | (with_reducible refine wpAny_isSubtype_exc hC ?_; rw [hcB]) | wp_step)
    exact hq
theorem exc_class {prog : Program} {w : World} {A : Around} {E : Value → Shared → Prop} {s : Shared} {K : Frag} {a C : Addr} {o : Obj} {Q : Option Value → Shared → Prop} (X : K.In s.heap) (hE : ExcIn K C) (hB : mroIn K C (.type "BaseException") = some true) (hm : mroIn K C (.type "object") = some true)
    (hga : findIn K (.ref C) "__getattribute__" = some (some (.builtin "BaseException.__getattribute__"))) (hgn : findIn K (.ref C) "__getattr__" = some none)
    (hcl : findIn K (.ref C) "__class__" = some (some (.builtin "object.__class__"))) (hn : specialIn K (.builtin "object.__class__") "__get__" = some (some (.builtin "getset_descriptor.__get__"))) (htk : takesIn K (.builtin "object.__class__") = some true)
    (hx : s.heap.get? a = some o) (hc : o.cls = .ref C) (h : Q (some (.ref C)) { s with toks := s.toks + 1 }) : wpAny (model prog w) A (getAttr? (.ref a) "__class__") Q E s := by
  obtain ⟨hh, g, d, t, os⟩ := s
  have L0 : Looks (model prog w) hh (typeOf (.ref a)) (.ref C) := hc ▸ (Looks.ld hx).andThen .now
  have L1 := looks_findIn (M := model prog w) X hga
  have L2 := looks_findIn (M := model prog w) X hgn
  have FB := F.attr_ValueError
  have f3 := FB.ga.bind (.ref a)
  have hx2 : (Value.builtin "BaseException.__getattribute__" == Value.builtin "object.__getattribute__") = false := by decide +kernel
  have hx1 : (onTheHeap (Value.ref C) && Value.builtin "BaseException.__getattribute__" == Value.builtin "object.__getattribute__") = false := by rw [hx2]; rfl
  unfold getAttr? getAttrBy?
  refine wpAny_bind (wpAny_mkText (wpAny_bind (wpAny_attempt ?_)))
  have hx0 : ∀ expr : Bool, (expr && onTheHeap (Value.builtin "BaseException.__getattribute__")) = false := fun expr => by cases expr <;> rfl
  unfold getAttrBy
  repeat (any_goals (first | assumption | with_reducible refine Looks.at L0 ?_ | with_reducible refine Looks.at L1 ?_ | with_reducible refine Looks.at L2 ?_ | wp_step))
  refine codeAny_call_builtin FB.ga.plain F.entry_bexc_ga (check_ga_exc (s := ⟨hh, g, d, t + 1, os⟩) X hE hB hx hc (class_entry (s := ⟨hh, g, d, t + 1, os⟩) X hx hc hm hcl hn htk ?_))
  repeat (any_goals (first | assumption | wp_step))
theorem kitx_exc {K : Frag} {a C : Addr} (hE : ExcIn K C) (hB : mroIn K C (.type "BaseException") = some true) (hm : mroIn K C (.type "object") = some true)
    (hga : findIn K (.ref C) "__getattribute__" = some (some (.builtin "BaseException.__getattribute__"))) (hgn : findIn K (.ref C) "__getattr__" = some none)
    (hcl : findIn K (.ref C) "__class__" = some (some (.builtin "object.__class__"))) (hn : specialIn K (.builtin "object.__class__") "__get__" = some (some (.builtin "getset_descriptor.__get__"))) (htk : takesIn K (.builtin "object.__class__") = some true) :
    KitX K (.ref a) (.ref C) (fun h => ∃ o, h.get? a = some o ∧ o.cls = .ref C) where
  ty := fun M h X p => by
    obtain ⟨o, hx, hc⟩ := p
    exact hc ▸ (Looks.ld hx).andThen .now
  it := fun M h X p => by
    obtain ⟨bm, N, nm, qn, bs, hdct, sn, sub, ab, col, dd, k0, k1, k2, k3, k5, mN, hC, hN, hni, TL, hmro⟩ := exc_obj X hE
    intro A' Q' E' s' k q
    unfold isType loadHead
    exact wpAny_bind (wpAny_loadPart (k _ _ hC) (wpAny_pure q))
  ne := fun h tp dd' its n sl X htp => by
    obtain ⟨bm, N, nm, qn, bs, hdct, sn, sub, ab, col, dd, k0, k1, k2, k3, k5, mN, hC, hN, hni, TL, hmro⟩ := exc_obj X hE
    refine Bool.eq_false_iff.mpr fun q => ?_
    cases beq_iff_eq.mp q
    rw [hC] at htp
    have z := congrArg Obj.data (Option.some.inj htp)
    cases z
  ca := fun X p k => by
    obtain ⟨o, hx, hc⟩ := p
    exact exc_class X hE hB hm hga hgn hcl hn htk hx hc k
/-- all that is asked of an own exception's class -/
structure ExcC (K : Frag) (C : Addr) : Prop where
  ex : ExcIn K C
  be : mroIn K C (.type "BaseException") = some true
  ob : mroIn K C (.type "object") = some true
  ga : findIn K (.ref C) "__getattribute__" = some (some (.builtin "BaseException.__getattribute__"))
  gn : findIn K (.ref C) "__getattr__" = some none
  cl : findIn K (.ref C) "__class__" = some (some (.builtin "object.__class__"))
  sg : specialIn K (.builtin "object.__class__") "__get__" = some (some (.builtin "getset_descriptor.__get__"))
  tk : takesIn K (.builtin "object.__class__") = some true
/-- isinstance(e, c) of an own exception -/
theorem call_isinstX {X : Cx} (K : Frag) (h : X.K = K := by rfl) : CallR X (.builtin "isinstance") (fun xs H Q => ∃ a c C b, xs = [.ref a, c] ∧ (∀ u, RelV c u → u = clsV c) ∧ H a = some (excO C a) ∧ ExcC K C ∧ kitOne K (.ref C) (clsV c) = some b ∧ Q (.bl b) H) := by
  subst h
  intro pins s σ H xs us Q I r h
  obtain ⟨a, c, C, b, rfl, hcv, ha, hC, e, q⟩ := h
  obtain ⟨u, u', rfl, r1, r2⟩ := r.two
  obtain rfl := hcv u' r2
  cases r1
  obtain ⟨φ, _, _⟩ := (show ObjOk X.prog X.w H s.heap a (excO C a) from I.hok a _ ha)
  exact kia_one (kitx_exc hC.ex hC.be hC.ob hC.ga hC.gn hC.cl hC.sg hC.tk) I.kIn φ e (fun z => nomatch z) fun tk => ⟨.bl b, H, I.tok tk, rfl, q⟩
end L2

namespace L2
open PySem PySem.Spec PyProof.Rows
section
variable {prog : Program} {w : World} {A : Around} {I : Addr} {fp wr : List Addr} {G : Array GenState → Array GenState → Prop} {n : Nat} {P : Nat → Value → Prop} {St : Nat → Shared → Prop} {R : Result → Shared → Prop}
/-- sum's loop, ints of any size -/
theorem sum_loop_any (W : WalksS prog w A.in1 I fp wr G n P St) (val : Nat → Int) (hval : ∀ i v, P i v → ∃ t, v = .int (val i) t) (S : Addr) (hSf : S ∉ fp) :
    ∀ (k i : Nat) (stage : Int) (s : Shared) (tA : Tok) (c : Nat), (stage = 0 ∨ stage = 2) → n - i = k → i ≤ n → St i s → s.heap.get? S = some { cls := .type "list", dict := none, data := .seq #[.int (preSum val i) tA] c, slots := #[] } →
    (∀ s' t', Moved (S :: wr) G s s' → R (.ok (.ret (.int (preSum val n) t'))) s') → codeAny (model prog w) A (.builtin "sum.loop" ⟨[.ref I, .ref S, rawInt stage, rawInt 0], []⟩) R s := by
  have hSw : S ∉ wr := fun h => hSf (W.sub _ h)
  have hsub : ∀ b ∈ wr, b ∈ S :: wr := fun b hb => List.mem_cons_of_mem _ hb
  intro k
  induction k with
  | zero =>
    intro i stage s tA c hstg hk hi hst hS hR
    have hin : i = n := by omega
    subst hin
    refine codeAny_builtin F.entry_sum_loop ?_
    rw [Around.under_plainId F.plain_sum_loop _]
    show wpAny _ A.in1 (seqItems? (.ref S) >>= _) _ _ s
    refine wpAny_bind (wpAny_seqItems hS rfl ?_)
    show wpAny _ A.in1 (tryCatch (pyNext (.ref I)) _ >>= _) _ _ s
    refine wpAny_bind (wpAny_tryCatch (W.done s _ _ hst fun s' hm => ?_))
    exact wpAny_pure (hR s' tA (hm.mono hsub))
  | succ k ih =>
    intro i stage s tA c hstg hk hi hst hS hR
    have hlt : i < n := by omega
    refine codeAny_builtin F.entry_sum_loop ?_
    rw [Around.under_plainId F.plain_sum_loop _]
    show wpAny _ A.in1 (seqItems? (.ref S) >>= _) _ _ s
    refine wpAny_bind (wpAny_seqItems hS rfl ?_)
    show wpAny _ A.in1 (tryCatch (pyNext (.ref I)) _ >>= _) _ _ s
    refine wpAny_bind (wpAny_tryCatch (W.item i s _ _ hlt hst fun v s' hP hst' hm => ?_))
    obtain ⟨t, rfl⟩ := hval i v hP
    have hS' := hm.heap S _ hSw hS
    have plain : ∀ (A' : Around), A' = A.in1 → wpAny (model prog w) A' (do
        match ← (holding [Value.int (val i) t] (binaryOp .Add (.int (preSum val i) tA) (.int (val i) t))).attempt with
        | .ok r => updateSeq S (fun _ => #[r]); letGo [Value.int (preSum val i) tA, .int (val i) t]; updateSeq S (fun _ => #[r]); again (.builtin "sum.loop" ⟨[.ref I, .ref S, rawInt 2, rawInt 0], []⟩)
        | .error e => updateSeq S (fun _ => #[]); letGo [Value.int (preSum val i) tA, .int (val i) t] [e]; throw e)
        (fun fin s' => match fin with | .done f => R (.ok f) s' | .again c' => c'.quiet = true ∧ codeAny (model prog w) A c' R s') (fun e s' => R (.error e) s') s' := by
      rintro A' rfl
      refine wpAny_bind (wpAny_attempt (wpAny_holding (add_int ?_)))
      refine wpAny_bind (wpAny_updateSeq hS' rfl ?_)
      have hS1 := Heap.get?_update_self (Obj.mapSeq (fun _ => (#[.int (preSum val i + val i) s'.toks] : Array Value))) hS' rfl
      refine wpAny_bind (wpAny_letGo ?_)
      refine wpAny_bind (wpAny_updateSeq hS1 rfl ?_)
      refine wpAny_pure ⟨plainId_quiet F.plain_sum_loop _, ih (i + 1) 2 _ s'.toks _ (.inr rfl) (by omega) hlt (W.frame _ s' _ _ hst' (by first | exact Nat.le_refl _ | exact Nat.le_succ _ | omega) fun b hb o e => ?_) (Heap.get?_update_self _ hS1 rfl) fun s'' t'' hm'' => ?_⟩
      · have nb : S ≠ b := fun h : S = b => hSf (by rw [h]; exact hb)
        exact (Heap.get?_update_other _ _ nb).trans ((Heap.get?_update_other _ _ nb).trans e)
      · refine hR s'' t'' (Moved.trans W.gtrans ((hm.mono hsub).then_heap (by first | exact Nat.le_refl _ | exact Nat.le_succ _ | omega) fun b o hb e => ?_) hm'')
        have nb : S ≠ b := fun h : S = b => hb (by rw [h]; exact List.mem_cons_self)
        exact (Heap.get?_update_other _ _ nb).trans ((Heap.get?_update_other _ _ nb).trans e)
    rcases hstg with rfl | rfl
    · show wpAny _ A.in1 (if (_ : Bool) = true then (mkInt (preSum val i + val i) >>= _) else _) _ _ _
      split
      · refine wpAny_bind (wpAny_mkInt ?_)
        show wpAny _ A.in1 (updateSeq S (fun _ => #[.int (preSum val i + val i) s'.toks]) >>= _) _ _ _
        refine wpAny_bind ?_
        refine wpAny_updateSeq hS' rfl (wpAny_pure ⟨plainId_quiet F.plain_sum_loop _, ih (i + 1) 0 _ s'.toks _ (.inl rfl) (by omega) hlt (W.frame _ s' _ _ hst' (by first | exact Nat.le_refl _ | exact Nat.le_succ _ | omega) fun b hb o e => ?_) (Heap.get?_update_self _ hS' rfl) fun s'' t'' hm'' => ?_⟩)
        · exact (Heap.get?_update_other _ _ (fun h : S = b => hSf (by rw [h]; exact hb))).trans e
        · refine hR s'' t'' (Moved.trans W.gtrans ((hm.mono hsub).then_heap (by first | exact Nat.le_refl _ | exact Nat.le_succ _ | omega) fun b o hb e => ?_) hm'')
          exact (Heap.get?_update_other _ _ (fun h : S = b => hb (by rw [h]; exact List.mem_cons_self))).trans e
      · exact wpAny_bind (wpAny_rule (plain _ rfl))
    · exact plain _ rfl
end
section
variable {prog : Program} {w : World} {A : Around} {E : Value → Shared → Prop} {s : Shared}
theorem call_sum_any {x : Value} {Q : Value → Shared → Prop}
    (h : wpAny (model prog w) A.in1 (pyIter x) (fun it s₂ => ∃ I fp wr G n P St val, it = .ref I ∧ WalksS prog w A.in1 I fp wr G n P St ∧ St 0 s₂ ∧ (∀ b ∈ fp, b < s₂.heap.objs.size) ∧
      (∀ i v, P i v → ∃ t, v = .int (val i) t) ∧ ∀ s' t', Moved wr G s₂ s' → Q (.int (preSum val n) t') s') E s) :
    wpAny (model prog w) A (call (.builtin "sum") [x]) Q E s := by
  refine call_function_tree F.kind_sum F.plain_sum F.entry_sum (F.args_sum1 _) ?_
  unfold Builtin.«sum»
  simp only [List.length_cons, List.length_nil]
  rw [if_neg (by decide)]
  refine wpAny_bind (wpAny_of_eq (show Builtin.Builtins.bindParams "sum" ["start"] 0 { } = pure [none] from rfl) ?_)
  refine wpAny_bind (wpAny_mono h (fun it s₂ h₂ => ?_) fun _ _ e => e)
  obtain ⟨I, fp, wr, G, n, P, St, val, rfl, W, hst, hfp, hval, hQ⟩ := h₂
  refine wpAny_bind (wpAny_mkInt ?_)
  refine wpAny_bind (wpAny_pure ?_)
  simp only [List.forIn_cons, List.forIn_nil]
  refine wpAny_bind (wpAny_bind (wpAny_bind (wpAny_isInstance (T := "int") (b := false) (typeIs_int _ _ _) PySem.sub_int_str ?_)))
  simp only [Bool.false_eq_true, if_false]
  refine wpAny_pure (wpAny_bind (wpAny_bind (wpAny_isInstance (T := "int") (b := false) (typeIs_int _ _ _) PySem.sub_int_bytes ?_)))
  simp only [Bool.false_eq_true, if_false]
  refine wpAny_pure (wpAny_bind (wpAny_bind (wpAny_isInstance (T := "int") (b := false) (typeIs_int _ _ _) PySem.sub_int_bytearray ?_)))
  simp only [Bool.false_eq_true, if_false]
  refine wpAny_pure (wpAny_pure ?_)
  refine wpAny_bind (wpAny_newObj_type ?_)
  have hSf : s₂.heap.objs.size ∉ fp := fun hm => Nat.lt_irrefl _ (hfp _ hm)
  refine wpAny_pure ⟨plainId_quiet F.plain_sum_loop _, sum_loop_any W val hval s₂.heap.objs.size hSf n 0 0 _ s₂.toks 0 (.inl rfl) rfl (Nat.zero_le _)
    (W.frame 0 s₂ _ _ hst (by first | exact Nat.le_refl _ | exact Nat.le_succ _ | omega) fun b _ o e => Heap.get?_push_of_some _ e) (Heap.get?_push_size _ rfl) fun s' t' hm => ?_⟩
  exact hQ s' t' (hm.drop_new (by first | exact Nat.le_refl _ | exact Nat.le_succ _ | omega))
end
theorem preSum_take (ns : List Int) : ∀ k, k ≤ ns.length → preSum (fun i => ns.getD i 0) k = (ns.take k).sum
  | 0, _ => by simp [preSum]
  | k + 1, h => by
    have hk : k < ns.length := by omega
    show preSum (fun i => ns.getD i 0) k + ns.getD k 0 = _
    rw [preSum_take ns k (by omega), List.take_add_one, List.getElem?_eq_getElem hk, List.sum_append, List.getD_eq_getElem?_getD, List.getElem?_eq_getElem hk]
    simp
theorem call_sumT {X : Cx} (hc : X.calm = true) : CallR X (.builtin "sum") (fun xs H Q => ∃ (p : Addr) (ns : List Int), xs = [.ref p] ∧ SqT X.K H p (ns.map V.int) ∧ Q (.int ns.sum) H) := by
  intro pins s σ H xs us Q I r h
  obtain ⟨p, ns, rfl, hq, q⟩ := h
  obtain ⟨u, rfl, r1⟩ := r.one
  cases r1
  obtain ⟨its, rv, pl, hz⟩ := I.tuple hq
  have hi : IntsAre its.toArray.toList ns := intsAre_of rv
  have hh := I.ok.hd hc
  have hlt : p < s.heap.objs.size := pl.lt
  have hln : its.toArray.size = ns.length := by rw [← hi.length]; simp
  refine call_sum_any (wpAny_pyIter_tuple (show s.heap.IsTuple p its.toArray from pl) ?_)
  refine ⟨s.heap.objs.size, _, _, _, its.toArray.size, _, _, fun i => ns.getD i 0, rfl, (Walks.tuple (prog := X.prog) (w := X.w) (A := X.A.in1) hh s.heap.objs.size p (Nat.ne_of_lt hlt) its.toArray).toS, ?_, ?_, ?_, ?_⟩
  · exact ⟨⟨_, Heap.get?_push_size _ rfl, rfl, rfl⟩, (show s.heap.IsTuple p its.toArray from pl).at fun o e => Heap.get?_push_of_some _ e⟩
  · intro b hb
    rw [Heap.size_push]
    rcases List.mem_cons.mp hb with rfl | hb
    · exact Nat.lt_succ_self _
    · rw [List.mem_singleton.mp hb]; exact Nat.lt_succ_of_lt hlt
  · intro i v hv
    have hil : i < its.toArray.toList.length := by
      have := (Array.getElem?_eq_some_iff.mp hv).1
      simpa using this
    obtain ⟨z, t, e1, e2⟩ := HT.IntsAre.at' hi hil
    have hv' : its.toArray.toList[i] = v := by
      have := (Array.getElem?_eq_some_iff.mp hv).2
      simpa using this
    refine ⟨t, ?_⟩
    rw [← hv', e1]
    have hin : i < ns.length := by rw [← hi.length]; exact hil
    rw [List.drop_eq_getElem_cons hin] at e2
    injection e2 with e3 _
    show Value.int z t = Value.int (ns.getD i 0) t
    rw [List.getD_eq_getElem?_getD, List.getElem?_eq_getElem hin, ← e3]
    rfl
  · intro s' t' hm
    have e : preSum (fun i => ns.getD i 0) its.toArray.size = ns.sum := by rw [hln, preSum_take ns _ (Nat.le_refl _), List.take_length]
    rw [e]
    have kp : ∀ b o, s.heap.get? b = some o → s'.heap.get? b = some o := fun b o e => by
      refine hm.heap b o ?_ (Heap.get?_push_of_some _ e)
      intro hmem
      rw [List.mem_singleton.mp hmem] at e
      exact absurd (Heap.lt_size e) (Nat.lt_irrefl _)
    have es : s' = { s with heap := s'.heap, toks := s'.toks } := by
      have z := Moved.eq_with hm
      exact z
    have I1 : Inv X pins σ H { s with heap := s'.heap, toks := s'.toks } := I.kept kp
    have I2 : Inv X pins σ H s' := by rw [es]; exact I1
    exact ⟨.int ns.sum, H, I2, ⟨t', rfl⟩, q⟩
theorem call_sumTK {X : Cx} (K : PySem.W.Frag) (hc : X.calm = true) (h : X.K = K := by rfl) : CallR X (.builtin "sum") (fun xs H Q => ∃ (p : Addr) (ns : List Int), xs = [.ref p] ∧ SqT K H p (ns.map V.int) ∧ Q (.int ns.sum) H) := by subst h; exact call_sumT hc
end L2

namespace Att
open PySem PySem.W PySem.Calls PyProof.Rows
theorem weight_ints : ∀ (ns : List Int) (z : Int), z ∈ ns → Builtin.Int.intBits z ≤ WData.weightAll (ns.map WData.int)
  | [], _, h => by simp at h
  | n :: ns, z, h => by
    rw [List.map_cons]
    unfold WData.weightAll
    rcases List.mem_cons.mp h with e | e
    · subst e
      have : WData.weight (WData.int z) = Builtin.Int.intBits z := by unfold WData.weight; rfl
      omega
    · have := weight_ints ns z e
      omega
theorem attach_callB {l : OpenLaw} {n : Nat} {q : Program} {loose : List Str} {XP : (Str → Option Value) → Heap → Prop} {YP : World → Heap → Prop} {d : DefRec}
    (hn : l.most = some n) (hdf : d.params.defaults = [])
    (call : ∀ (w : World) (s₀ s₁ : Shared) (mg mb : Str → Option Value) (fa : Addr) (o : Obj) (pm cd doc : Value) (a : Addr) (vs : List Value) (ns : List Int),
      Ground q loose [] XP w s₀ mg mb s₁.heap → YP w s₁.heap →
      s₁.heap.get? fa = some o → o.data = .func (docDef d.name d.params d.body d.scope pm cd doc) → s₁.heap.CodeRec cd d.name → mg d.name = some (.ref fa) →
      s₁.heap.get? a = some { cls := .type "list", data := .seq vs.toArray } → IntsAre vs ns → ns.length ≤ n → (∀ z ∈ ns, Builtin.Int.intBits z ≤ 2 ^ 20) → s₁.gens = #[] →
      codeAny (model l.prog w) callerA (.call (.ref fa) ⟨[.ref a], []⟩) (fun r s' => r = .ok (.ret (.bool true)) ∧ OldK s₁.heap s'.heap ∧ s'.os = s₁.os ∧ AllBare s'.gens) s₁) :
    WalkO q loose XP YP l.row.toRowW d [] (fun f vs => PySem.call f vs) := by
  intro w s₀ s₁ mg mb G Y fa o pm cd doc dV kV ho hd hcd hD hmg hg args vals as hpre hlay hrd hwl hlo
  obtain rfl : dV = .none := Dflts.none hD hdf
  obtain rfl : kV = .none := Dflts.noKw hD
  obtain ⟨a, vs, ns, rfl, rfl, hobj, hints, hlen⟩ := script_of hn hpre hwl
  have hb : ∀ z ∈ ns, Builtin.Int.intBits z ≤ 2 ^ 20 := fun z hz => by
    have h1 := weight_ints ns z hz
    have h2 : WData.layable (WData.list (ns.map WData.int)) = true := by
      have h3 : WData.layableAll [WData.list (ns.map WData.int)] = true := hlay
      unfold WData.layableAll at h3
      simpa using h3
    unfold WData.layable at h2
    rw [Bool.and_eq_true, decide_eq_true_eq] at h2
    have h4 : WData.weight (WData.list (ns.map WData.int)) = WData.weightAll (ns.map WData.int) := by unfold WData.weight; rfl
    omega
  refine enter_call (codeAny_mono (call w s₀ s₁ mg mb fa o pm cd doc a vs ns G Y ho (fd_plain hd) hcd hmg hobj hints hlen hb hg) fun r s' hq => ?_)
  obtain ⟨rfl, h2, h3, h4⟩ := hq
  exact ⟨.inl ⟨.bool true, .bool true, [], rfl, fun _ => rfl, .bool true, post_true l _, fun _ => ⟨List.Pairwise.nil, fun _ hm => (nomatch hm)⟩⟩, h2, h3, h4⟩
end Att
namespace L2
open PySem PySem.Spec PyProof.Rows
/-- walk_of, the script's numbers within what can be laid -/
theorem walk_ofB {l : PySem.W.OpenLaw} {n k : Nat} {q : Program} {loose : List Str} {XP : (Str → Option Value) → Heap → Prop} {YP : World → Heap → Prop} {d : DefRec} {K : Params → PySem.W.Frag} {CX : World → CXT} {sp : World → Sp} {x : Str}
    (hn : l.most = some n) (hn2 : n ≤ sizeLine) (hdf : d.params.defaults = []) (hr : Room k callerA)
    (hY : ∀ (w : World) (h : Heap), YP w h → (K w.params).In h)
    (F : ∀ (w : World) (mg : Str → Option Value) (fa : Addr) (h : Heap), (K w.params).In h → h.Ns mainGlobals mg → mg d.name = some (.ref fa) →
      ∃ fd : FuncData, (∀ (s : Shared) (u : Value), BindsTo s fd ⟨[u], []⟩ [(x, u)]) ∧
        ∀ base : Heap, (K w.params).In base → base.Ns mainGlobals mg → FnOk l.prog w (K w.params) mg base (CX w) k fa fd [x] (sp w))
    (hsp : ∀ (w : World) (H : Hp) (a : Addr) (ns : List Int), ns.length ≤ n → (∀ z ∈ ns, Builtin.Int.intBits z ≤ 2 ^ 20) → Only H → SqL (K w.params) H a (ns.map V.int) → sp w [.ref a] H (fun v _ => v = .bl true) fun _ _ _ => False)
    (hCX : ∀ (w : World) (H : Hp) (s : Shared) (e : Value) (s' : Shared), CX w [] H s (fun _ _ _ => False) e s' → False) :
    PySem.W.WalkO q loose XP YP l.row.toRowW d [] (fun f vs => PySem.call f vs) := by
  refine Att.attach_callB hn hdf fun w s₀ s₁ mg mb fa o pm cd doc a vs ns G Y ho hd hcd hmg hobj hints hlen hbd hg => ?_
  have KX := hY w _ Y
  obtain ⟨fd, hb, hF⟩ := F w mg fa _ KX G.T.g hmg
  exact law_call KX G.T.g G.T.b G.T.builtins G.T.nolimit hg hobj hints (Nat.le_trans hlen hn2) hr hF hb (fun H hO hS => hsp w H a ns hlen hbd hO hS) fun H e s' => hCX w H s₁ e s'
/-- i ** 2, i of up to 2^26 bits -/
theorem op_sq {X : Cx} : OpR X (binaryOp .Pow) (fun x y H Q => ∃ i : Int, x = .int i ∧ y = .int 2 ∧ Builtin.Int.intBits i ≤ 2 ^ 26 ∧ Q (.int (i ^ 2)) H) := by
  intro pins s σ H x y v u Q I rx ry h
  obtain ⟨i, rfl, rfl, hb, q⟩ := h
  obtain ⟨t, rfl⟩ := rx
  obtain ⟨t', rfl⟩ := ry
  refine pow_int (by decide) (by omega) ?_
  exact ⟨.int (i ^ 2), H, I.tok _, ⟨_, rfl⟩, q⟩
end L2

namespace L2
open PySem PySem.Spec PyProof.Rows
/-- min and max of a list of ints -/
theorem call_minL {X : Cx} (hc : X.calm = true) : CallR X (.builtin "min") (fun xs H Q => ∃ (p : Addr) (ns : List Int), xs = [.ref p] ∧ SqL X.K H p (ns.map V.int) ∧ 0 < ns.length ∧ ∀ M, M ∈ ns → (∀ a, a ∈ ns → M ≤ a) → Q (.int M) H) := by
  intro pins s σ H xs us Q I r h
  obtain ⟨p, ns, rfl, hq, hne, q⟩ := h
  obtain ⟨u, rfl, r1⟩ := r.one
  cases r1
  obtain ⟨its, rv, pl, hz⟩ := I.list hq
  have hi : IntsAre its.toArray.toList ns := intsAre_of rv
  obtain ⟨ys, e⟩ := hi.allInts.items
  have hns : ns = ys.toList.map (·.1) := by rw [← hi.numsOf, ← nums_intItems, ← e]
  have hsz : 0 < ys.size := by have h3 := hne; rw [hns, List.length_map, Array.length_toList] at h3; exact h3
  have hl : s.heap.IsList p its.toArray := pl.isList
  have e' : its.toArray = intItems ys := by simpa using e
  rw [e'] at hl
  refine min_intList (I.ok.hd hc) hl hsz fun v h' tk hv hk => ?_
  obtain ⟨t, rfl⟩ := intItems_at hv
  obtain ⟨h1, h2⟩ := argBest_lt (numAt ys) (ys.size - 1)
  refine ⟨.int _, H, I.kept hk, ⟨_, rfl⟩, q _ ?_ fun a ha => ?_⟩
  · rw [hns, numAt_eq]; exact getD_mem (by rw [List.length_map, Array.length_toList]; omega)
  · rw [hns] at ha
    obtain ⟨j, hj, rfl⟩ := mem_getD ha
    rw [List.length_map, Array.length_toList] at hj
    rw [← numAt_eq]; exact h2 j (by omega)
theorem call_maxL {X : Cx} (hc : X.calm = true) : CallR X (.builtin "max") (fun xs H Q => ∃ (p : Addr) (ns : List Int), xs = [.ref p] ∧ SqL X.K H p (ns.map V.int) ∧ 0 < ns.length ∧ ∀ M, M ∈ ns → (∀ a, a ∈ ns → a ≤ M) → Q (.int M) H) := by
  intro pins s σ H xs us Q I r h
  obtain ⟨p, ns, rfl, hq, hne, q⟩ := h
  obtain ⟨u, rfl, r1⟩ := r.one
  cases r1
  obtain ⟨its, rv, pl, hz⟩ := I.list hq
  have hi : IntsAre its.toArray.toList ns := intsAre_of rv
  obtain ⟨ys, e⟩ := hi.allInts.items
  have hns : ns = ys.toList.map (·.1) := by rw [← hi.numsOf, ← nums_intItems, ← e]
  have hsz : 0 < ys.size := by have h3 := hne; rw [hns, List.length_map, Array.length_toList] at h3; exact h3
  have hl : s.heap.IsList p its.toArray := pl.isList
  have e' : its.toArray = intItems ys := by simpa using e
  rw [e'] at hl
  refine max_intList (I.ok.hd hc) hl hsz fun v h' tk hv hk => ?_
  obtain ⟨t, rfl⟩ := intItems_at hv
  obtain ⟨h1, h2⟩ := argBest_gt (numAt ys) (ys.size - 1)
  refine ⟨.int _, H, I.kept hk, ⟨_, rfl⟩, q _ ?_ fun a ha => ?_⟩
  · rw [hns, numAt_eq]; exact getD_mem (by rw [List.length_map, Array.length_toList]; omega)
  · rw [hns] at ha
    obtain ⟨j, hj, rfl⟩ := mem_getD ha
    rw [List.length_map, Array.length_toList] at hj
    rw [← numAt_eq]; exact h2 j (by omega)
theorem call_minLK {X : Cx} (K : PySem.W.Frag) (hc : X.calm = true) (h : X.K = K := by rfl) : CallR X (.builtin "min") (fun xs H Q => ∃ (p : Addr) (ns : List Int), xs = [.ref p] ∧ SqL K H p (ns.map V.int) ∧ 0 < ns.length ∧ ∀ M, M ∈ ns → (∀ a, a ∈ ns → M ≤ a) → Q (.int M) H) := by subst h; exact call_minL hc
theorem call_maxLK {X : Cx} (K : PySem.W.Frag) (hc : X.calm = true) (h : X.K = K := by rfl) : CallR X (.builtin "max") (fun xs H Q => ∃ (p : Addr) (ns : List Int), xs = [.ref p] ∧ SqL K H p (ns.map V.int) ∧ 0 < ns.length ∧ ∀ M, M ∈ ns → (∀ a, a ∈ ns → a ≤ M) → Q (.int M) H) := by subst h; exact call_maxL hc
end L2

namespace L2
open PySem PySem.Spec PyProof.Rows
section
variable {X : Cx} {pins : List (Addr × Obj)} {s : Shared} {σ : St} {H : Hp}
open Classical in
/-- the answer at an item, by its data -/
noncomputable def evD (H : Hp) (ds : List Dt) (e : Dt) (u : Value) : Bool := decide (∃ (d : Dt) (b : Addr), d ∈ ds ∧ u = .ref b ∧ IsD H d (.ref b) ∧ eqD d e = true)
theorem evD_of {ds : List Dt} {e d : Dt} {b : Addr} (hd : d ∈ ds) (h : IsD H d (.ref b)) : evD H ds e (.ref b) = eqD d e := by
  classical
  unfold evD
  cases q : eqD d e with
  | true => simp only [decide_eq_true_eq]; exact ⟨d, b, hd, rfl, h, q⟩
  | false =>
    simp only [decide_eq_false_iff_not]
    rintro ⟨d', b', _, e1, h', q'⟩
    cases e1
    rw [IsD.inj h' h, q] at q'
    cases q'
theorem items_D {ds : List Dt} {vs : List V} {its : List Value} (hs : IsDs H ds vs) (hf : ∀ d ∈ ds, isFlat d = false) (r : Vals vs its) {i : Nat} {u : Value} (hu : its[i]? = some u) : ∃ d b, ds[i]? = some d ∧ u = .ref b ∧ IsD H d (.ref b) := by
  have hl := r.length
  have hi : i < its.length := (List.getElem?_eq_some_iff.mp hu).1
  obtain ⟨v, hv⟩ : ∃ v, vs[i]? = some v := ⟨_, List.getElem?_eq_getElem (by omega)⟩
  obtain ⟨u', hu', ru⟩ := r.get hv
  rw [hu] at hu'
  cases hu'
  obtain ⟨d, hd, hdv⟩ := hs.get' hv
  have fd := hf d (List.mem_of_getElem? hd)
  rcases hdv.seq fd with ⟨es, b, ys, rfl, rfl, hb, hs2⟩ | ⟨es, b, ys, rfl, rfl, hb, hs2⟩
  · obtain rfl : u = Value.ref b := ru
    exact ⟨_, b, hd, rfl, hdv⟩
  · obtain rfl : u = Value.ref b := ru
    exact ⟨_, b, hd, rfl, hdv⟩
theorem any_D {ds : List Dt} {vs : List V} {its : List Value} {e : Dt} (hs : IsDs H ds vs) (hf : ∀ d ∈ ds, isFlat d = false) (r : Vals vs its) : its.any (evD H ds e) = ds.any fun d => eqD d e := by
  have hl := r.length
  have hl2 := hs.length
  rw [Bool.eq_iff_iff, List.any_eq_true, List.any_eq_true]
  constructor
  · rintro ⟨u, hu, q⟩
    obtain ⟨i, hi, e1⟩ := List.mem_iff_getElem.mp hu
    obtain ⟨d, b, hd, rfl, hD⟩ := items_D hs hf r (show its[i]? = some u by rw [List.getElem?_eq_getElem hi, e1])
    rw [evD_of (List.mem_of_getElem? hd) hD] at q
    exact ⟨d, List.mem_of_getElem? hd, q⟩
  · rintro ⟨d, hd, q⟩
    obtain ⟨i, hi, e1⟩ := List.mem_iff_getElem.mp hd
    obtain ⟨d', b, hd', e2, hD⟩ := items_D hs hf r (show its[i]? = some its[i] by rw [List.getElem?_eq_getElem (by omega)])
    rw [List.getElem?_eq_getElem hi, e1] at hd'
    cases hd'
    refine ⟨its[i]'(by omega), List.getElem_mem _, ?_⟩
    rw [e2, evD_of hd hD]
    exact q
theorem eqAt_items {ds : List Dt} {vs : List V} {its : List Value} {e : Dt} {x : V} {v : Value} {A : Around} (I : Inv X pins σ H s) (hs : IsDs H ds vs) (hf : ∀ d ∈ ds, isFlat d = false) (hdp : ∀ d ∈ ds, depthD d ≤ 19) (he : IsD H e x) (rx : RelV x v) (r : Vals vs its) (hu : A.units + 20 < cLine) :
    ∀ y, y ∈ its → SeqAt.EqAt A.in1 s y v (evD H ds e y) := fun y hy => by
  obtain ⟨i, hi, e1⟩ := List.mem_iff_getElem.mp hy
  obtain ⟨d, b, hd, rfl, hD⟩ := items_D hs hf r (show its[i]? = some y by rw [List.getElem?_eq_getElem hi, e1])
  rw [evD_of (List.mem_of_getElem? hd) hD]
  exact eqAt_D I 19 d e (.ref b) x (.ref b) v A.in1 (hdp d (List.mem_of_getElem? hd)) hD he rfl rx (by show A.units + 1 + 19 < cLine; omega)
/-- x in a list of lists or tuples, deep -/
def rInD (K : PySem.W.Frag) : R2 := fun x y H Q => ∃ (p : Addr) (vs : List V) (ds : List Dt) (e : Dt), y = .ref p ∧ SqL K H p vs ∧ IsDs H ds vs ∧ (∀ d ∈ ds, isFlat d = false) ∧ (∀ d ∈ ds, depthD d ≤ 19) ∧ IsD H e x ∧ Q (.bl (ds.any fun d => eqD d e)) H
theorem op_inD (hu : X.A.units + 20 < cLine) : OpR X (compareOp .In) (rInD X.K) := by
  intro pins s σ H x y v u Q I rx ry h
  obtain ⟨p, vs, ds, e, rfl, hq, hs, hf, hdp, he, q⟩ := h
  cases ry
  obtain ⟨its, r, pl, hz⟩ := I.list hq
  refine SeqAt.in_listAt (evD H ds e) pl.isList (fun w hw => eqAt_items I hs hf hdp he rx r hu w (by simpa using hw)) ⟨.bl _, H, I, rfl, ?_⟩
  rw [show its.toArray.any (evD H ds e) = its.any (evD H ds e) by simp, any_D hs hf r]
  exact q
theorem op_inDK (K : PySem.W.Frag) (hu : X.A.units + 20 < cLine) (h : X.K = K := by rfl) : OpR X (compareOp .In) (rInD K) := by subst h; exact op_inD hu
/-- l.index(x), deep; x stands in l, first at j -/
def rIndexD : V → List V → Hp → VK → Prop := fun x vs H Q => ∃ (l : Addr) (xs : List V) (ds : List Dt) (y : V) (e : Dt) (j : Nat) (d : Dt), x = .ref l ∧ vs = [y] ∧ H l = some (.lst xs) ∧ IsDs H ds xs ∧ (∀ d ∈ ds, isFlat d = false) ∧ (∀ d ∈ ds, depthD d ≤ 19) ∧ IsD H e y ∧
  ds[j]? = some d ∧ eqD d e = true ∧ (∀ m d', m < j → ds[m]? = some d' → eqD d' e = false) ∧ Q (.int j) H
theorem mt_indexD (hu : X.A.units + 20 < cLine) : MtM X "list.index" rIndexD := by
  intro pins s σ H x vs v us Q I rx rv h
  obtain ⟨l, xs, ds, y, e, j, d, rfl, rfl, hH, hs, hf, hdp, he, hj, hhit, hno, q⟩ := h
  cases rx
  obtain ⟨u, rfl, ru⟩ := rv.one
  obtain ⟨z, its, n, r, hl, eo⟩ := I.lstM hH
  have hl2 := hs.length
  have hjl : j < ds.length := (List.getElem?_eq_some_iff.mp hj).1
  have hsz : its.length ≤ sizeLine := by omega
  have hbig : (sizeLine : Nat) < 2 ^ 62 := by decide +kernel
  have evi : ∀ m (hm : m < its.length) d', ds[m]? = some d' → evD H ds e its[m] = eqD d' e := fun m hm d' hd' => by
    obtain ⟨d'', b, hd'', e2, hD⟩ := items_D hs hf r (show its[m]? = some its[m] by rw [List.getElem?_eq_getElem hm])
    rw [hd'] at hd''
    cases hd''
    rw [e2, evD_of (List.mem_of_getElem? hd') hD]
  refine call_meets PySem.F.slot_list_index ⟨_, eo, rfl⟩ PySem.F.entry_list_index (PySem.F.args_list_index_2 _ _)
    (SeqAt.list_indexAt l its.toArray n none #[] u (evD H ds e) j (by rw [List.size_toArray]; omega) (by omega) ?_ ?_) ⟨eo, fun y hy => eqAt_items I hs hf hdp he ru r hu y (by simpa using hy), ?_⟩
  · have := (evi j (by omega) d hj).trans hhit
    simpa using this
  · intro m hm hlt
    have hm' : m < its.length := by simpa using hm
    obtain ⟨d', hd'⟩ : ∃ d', ds[m]? = some d' := ⟨_, List.getElem?_eq_getElem (by omega)⟩
    have := (evi m hm' d' hd').trans (hno m d' hlt hd')
    simpa using this
  · exact ⟨.int j, H, I.tok _, ⟨_, rfl⟩, q⟩
end
end L2

namespace RevT
open PySem PySem.Spec PyProof.Rows
theorem owner_rev : Manifest.owners.lookup (String.ofList ['d', 'e', 's', 'r', 'e', 'v', 'e', 'r'].reverse) = some Manifest.sig_reversed := by kernel_rfl
theorem slot_rev_next : Slot "reversed" "__next__" "reversed.__next__" :=
  .of (owner := "reversed") (n := "__next__") (by rw [typeLookup_type, builtinLookup_eq_fast]; kernel_rfl) (by decide +kernel) (by decide +kernel) (by decide +kernel)
    (by first | exact .inl (by decide +kernel) | exact .inr (by decide +kernel)) (by rw [isSubtype_type]; kernel_rfl)
theorem entry_rev_next : entryFor table "reversed.__next__" = some Builtin.«reversed.__next__» := entryFor_of_tree (by kernel_rfl)
theorem args_rev_next_1 (a : Value) : argsOk "reversed.__next__" ⟨[a], []⟩ := by
  unfold argsOk; rw [signature?_of (id := "reversed.__next__") (n := ['_', '_', 't', 'x', 'e', 'n', '_', '_']) (o := ['d', 'e', 's', 'r', 'e', 'v', 'e', 'r']) (by kernel_rfl) owner_rev]; kernel_rfl
theorem slot_rev_iter : Slot "reversed" "__iter__" "reversed.__iter__" :=
  .of (owner := "reversed") (n := "__iter__") (by rw [typeLookup_type, builtinLookup_eq_fast]; kernel_rfl) (by decide +kernel) (by decide +kernel) (by decide +kernel)
    (by first | exact .inl (by decide +kernel) | exact .inr (by decide +kernel)) (by rw [isSubtype_type]; kernel_rfl)
theorem args_rev_iter_1 (a : Value) : argsOk "reversed.__iter__" ⟨[a], []⟩ := by
  unfold argsOk; rw [signature?_of (id := "reversed.__iter__") (n := ['_', '_', 'r', 'e', 't', 'i', '_', '_']) (o := ['d', 'e', 's', 'r', 'e', 'v', 'e', 'r']) (by kernel_rfl) owner_rev]; kernel_rfl
theorem entry_rev_iter : entryFor table "reversed.__iter__" = some Builtin.«dict_keyiterator.__iter__» :=
  entryFor_alias (id' := "dict_keyiterator.__iter__") (by kernel_rfl) (by first | rfl | decide +kernel | (unfold String.splitOn; simp +decide [String.splitOnAux])) (by decide +kernel) (by kernel_rfl)
theorem slot_rev_hint : Slot "reversed" "__length_hint__" "reversed.__length_hint__" :=
  .of (owner := "reversed") (n := "__length_hint__") (by rw [typeLookup_type, builtinLookup_eq_fast]; kernel_rfl) (by decide +kernel) (by decide +kernel) (by decide +kernel)
    (by first | exact .inl (by decide +kernel) | exact .inr (by decide +kernel)) (by rw [isSubtype_type]; kernel_rfl)
theorem entry_rev_hint : entryFor table "reversed.__length_hint__" = some Builtin.«reversed.__length_hint__» := entryFor_of_tree (by kernel_rfl)
theorem args_rev_hint_1 (a : Value) : argsOk "reversed.__length_hint__" ⟨[a], []⟩ := by
  unfold argsOk; rw [signature?_of (id := "reversed.__length_hint__") (n := ['_', '_', 't', 'n', 'i', 'h', '_', 'h', 't', 'g', 'n', 'e', 'l', '_', '_']) (o := ['d', 'e', 's', 'r', 'e', 'v', 'e', 'r']) (by kernel_rfl) owner_rev]; kernel_rfl
theorem norev_tuple : typeLookup (.type "tuple") "__reversed__" = pure none := by rw [typeLookup_type, builtinLookup_eq_fast]; kernel_rfl
theorem nolen_rev : typeLookup (.type "reversed") "__len__" = pure none := by rw [typeLookup_type, builtinLookup_eq_fast]; kernel_rfl
theorem notdict_tuple : isSubtype (.type "tuple") (.type "dict") = pure false := by rw [isSubtype_type]; kernel_rfl
section
variable {prog : Program} {w : World} {A : Around} {E : Value → Shared → Prop} {s : Shared}
def revT (t : Addr) (i : Int) : Obj := { cls := .type "reversed", data := .fields #[.ref t, rawInt i] }
def IsRevT (h : Heap) (a t : Addr) (i : Int) : Prop := ∃ o, h.get? a = some o ∧ o.cls = .type "reversed" ∧ o.data = .fields #[.ref t, rawInt i]
theorem IsRevT.typeIs {a t : Addr} {i : Int} (x : IsRevT s.heap a t i) : s.TypeIs (.ref a) "reversed" := let ⟨o, ho, hc, _⟩ := x; ⟨o, ho, hc⟩
theorem IsRevT.at {h h' : Heap} {a t : Addr} {i : Int} (x : IsRevT h a t i) (e : ∀ o, h.get? a = some o → h'.get? a = some o) : IsRevT h' a t i := let ⟨o, ho, r⟩ := x; ⟨o, e _ ho, r⟩
theorem code_new {t : Addr} {items : Array Value} {Q₁ : Value → Shared → Prop} (ht : IsTup s.heap t items) (hfit : (items.size : Int) < 2 ^ 63)
    (h : ∀ tk, Q₁ (.ref s.heap.objs.size) { s with heap := s.heap.push (revT t ((items.size : Int) - 1)), toks := tk }) :
    codeAny (model prog w) A (.call (.builtin "reversed.__new__") ⟨[.type "reversed", .ref t], []⟩) (wants Q₁ E) s := by
  refine codeAny_of_tree ?_
  show wpAny _ A.in1 (do checkBuiltinCall "reversed.__new__" ⟨[.type "reversed", .ref t], []⟩; again (.builtin "reversed.__new__" ⟨[.type "reversed", .ref t], []⟩)) _ _ s
  refine wpAny_bind (wpAny_of_eq (F.newCall_reversed_1 _) (wpAny_pure ⟨plainId_quiet F.plain_reversed_new _, codeAny_builtin F.entry_reversed_new ?_⟩))
  rw [Around.under_plainId F.plain_reversed_new _]
  unfold Builtin.«reversed.__new__»
  refine wpAny_bind (wpAny_of_eq (newClass_reversed _) ?_)
  try dsimp only
  refine wpAny_bind (wpAny_of_eq (a := ()) (by first | rfl | kernel_rfl) ?_)
  refine wpAny_bind (wpAny_of_eq (a := ()) (by first | rfl | kernel_rfl) ?_)
  try dsimp only
  refine wpAny_bind (wpAny_specialOf ht.typeIs norev_tuple ?_)
  try dsimp only
  have hT := ht.typeIs
  have f1 := notdict_tuple
  have f2 := slot_tuple_getitem.lookup
  repeat (any_goals (first | assumption | with_reducible refine wpAny_bind (len_tuple ht hfit ?_) | wp_step))
  exact h _
theorem slot_rev_init : Slot "reversed" "__init__" "object.__init__" :=
  .of (owner := "object") (n := "__init__") (by rw [typeLookup_type, builtinLookup_eq_fast]; kernel_rfl) (by decide +kernel) (by decide +kernel) (by decide +kernel)
    (by first | exact .inl (by decide +kernel) | exact .inr (by decide +kernel)) (by rw [isSubtype_type]; kernel_rfl)
theorem called_rev : TypeCalled "reversed" "reversed.__new__" "object.__init__" :=
  ⟨by decide +kernel, F.create_reversed, ⟨_, _, F.mro_reversed⟩, F.made_reversed, F.plain_reversed_new, F.sub_reversed_self, slot_rev_init⟩
theorem call_reversed_tuple {t : Addr} {items : Array Value} {Q : Value → Shared → Prop} (ht : IsTup s.heap t items) (hfit : (items.size : Int) < 2 ^ 63)
    (h : ∀ tk, Q (.ref s.heap.objs.size) { s with heap := s.heap.push (revT t ((items.size : Int) - 1)), toks := tk }) : wpAny (model prog w) A (call (.type "reversed") [.ref t]) Q E s := by
  refine callType_codes (Q₁ := fun obj s₁ => s₁.TypeIs obj "reversed" ∧ Q obj s₁) called_rev (F.typeCall_reversed_1 _) F.entry_object_init
    (code_new ht hfit fun tk => ⟨⟨_, Heap.get?_push_size _ rfl, rfl⟩, h tk⟩) fun obj s₁ h₁ => ?_
  exact ⟨h₁.1, F.args_object_init_2 obj _, object_init_meets called_rev.init.lookup called_rev.made (by decide) prog w A.in1 _ s₁ ⟨h₁.1, rfl, h₁.2⟩⟩
theorem next_item {it t : Addr} {i : Nat} {items : Array Value} {x : Value} {Q : Option Value → Shared → Prop} (hit : IsRevT s.heap it t (i : Int)) (ht : IsTup s.heap t items) (hfit : (items.size : Int) < 2 ^ 63) (hx : items[i]? = some x)
    (hQ : ∀ h' tk, IsRevT h' it t ((i : Int) - 1) → Heap.SameBut it s.heap h' → Q (some x) { s with heap := h', toks := tk }) : wpAny (model prog w) A (pyNext (.ref it)) Q E s := by
  obtain ⟨o, ho, hc, hd⟩ := id hit
  have hi : i < items.size := (Array.getElem?_eq_some_iff.mp hx).1
  unfold pyNext
  refine wpAny_bind (wpAny_attempt (wpAny_callSpecial?_slot (name := Str.ofString "__next__") hit.typeIs slot_rev_next
    (wpAny_call_entry slot_rev_next hit.typeIs entry_rev_next ?_ (args_rev_next_1 _))))
  unfold Builtin.«reversed.__next__»
  refine wpAny_bind (wpAny_of_eq (a := (Value.ref it, [])) rfl ?_)
  try dsimp only
  refine wpAny_bind (wpAny_field ho hd (x := .ref t) rfl ?_)
  refine wpAny_bind (wpAny_field ho hd (x := rawInt (i : Int)) rfl ?_)
  show wpAny _ _ (if (i : Int) < 0 then _ else _) _ _ s
  rw [if_neg (by omega)]
  refine wpAny_bind (wpAny_specialOf ht.typeIs slot_tuple_getitem.lookup ?_)
  show wpAny _ _ (mkInt (i : Int) >>= _) _ _ s
  refine wpAny_bind (wpAny_mkInt ?_)
  refine wpAny_bind (wpAny_attempt (getItem_tuple (j := i) (x := x) ht (by omega) (by omega) ?_ hx ?_))
  · exact (L2.ixN_seq (n := items.size) (i := (i : Int)) (j := i) (by unfold L2.ixN; rw [if_pos (by omega), if_pos (by omega)]; rfl)).1
  · show wpAny _ _ (field (.ref it) 1 >>= _) _ _ _
    refine wpAny_bind (wpAny_field ho hd (x := rawInt (i : Int)) rfl ?_)
    show wpAny _ _ (setField (.ref it) 1 (rawInt ((i : Int) - 1)) >>= _) _ _ _
    refine wpAny_bind (wpAny_setField ho hd (by simp) ?_)
    refine wpAny_pure ⟨x, rfl, wpAny_pure (hQ _ _ ?_ (Heap.SameBut.update ..))⟩
    exact ⟨_, Heap.get?_update_self _ ho (Obj.isFreed_of_fields (Obj.data_mapFields hd _)), (Obj.cls_mapFields ..).trans hc, by
      rw [Obj.data_mapFields hd]; simp⟩
theorem next_end {it t : Addr} {Q : Option Value → Shared → Prop} (hh : A.handled = none) (hit : IsRevT s.heap it t (-1))
    (hQ : ∀ h', Heap.ExtBut it s.heap h' → Q none { s with heap := h' }) : wpAny (model prog w) A (pyNext (.ref it)) Q E s := by
  obtain ⟨o, ho, hc, hd⟩ := id hit
  unfold pyNext
  refine wpAny_bind (wpAny_attempt (wpAny_callSpecial?_slot (name := Str.ofString "__next__") hit.typeIs slot_rev_next
    (wpAny_call_entry slot_rev_next hit.typeIs entry_rev_next ?_ (args_rev_next_1 _))))
  unfold Builtin.«reversed.__next__»
  refine wpAny_bind (wpAny_of_eq (a := (Value.ref it, [])) rfl ?_)
  try dsimp only
  refine wpAny_bind (wpAny_field ho hd (x := .ref t) rfl ?_)
  refine wpAny_bind (wpAny_field ho hd (x := rawInt (-1)) rfl ?_)
  show wpAny _ _ (if (-1 : Int) < 0 then _ else _) _ _ s
  rw [if_pos (by decide)]
  refine wpAny_bind (wpAny_rule ?_)
  refine wpAny_bind ?_
  show wpAny _ _ (setField (.ref it) 1 (rawInt (-1)) >>= fun _ => setField (.ref it) 0 .none) _ _ s
  refine wpAny_bind (wpAny_setField ho hd (by simp) ?_)
  have ho2 := Heap.get?_update_self (Obj.mapFields (·.setIfInBounds 1 (rawInt (-1)))) ho (Obj.isFreed_of_fields (Obj.data_mapFields hd _))
  refine wpAny_setField ho2 (Obj.data_mapFields hd _) (by simp) ?_
  refine wpAny_bind ?_
  show wpAny _ _ (newExc (.type "StopIteration") [] >>= _) _ _ _
  refine wpAny_bind ?_
  simp only [newExc, newTuple]
  refine wpAny_bind (wpAny_newObj_type ?_ (by size_fits))
  refine wpAny_bind (m := firstArgMember _ _) (wpAny_of_eq (a := Value.none) (by first | rfl | (simp only [firstArgMember]; rfl)) ?_)
  refine wpAny_newObj_type ?_ (by size_fits)
  simp only [raiseNew]
  refine wpAny_bind (wpAny_handled ?_)
  first | rw [show A.in1.handled = none from hh] | rw [hh]
  refine wpAny_bind (wpAny_pure (wpAny_throw ?_))
  refine wpAny_bind (wpAny_isInstance (T := "StopIteration") (b := true) ⟨_, Heap.get?_push_size _ rfl, rfl⟩ isSubtype_stop ?_)
  exact wpAny_pure (hQ _ fun b o hb e => Heap.get?_push_of_some _ (Heap.get?_push_of_some _ ((Heap.get?_update_other _ _ (Ne.symm hb)).trans ((Heap.get?_update_other _ _ (Ne.symm hb)).trans e))))
theorem iter_rev {it t : Addr} {i : Int} {Q : Value → Shared → Prop} (hit : IsRevT s.heap it t i) (h : Q (.ref it) s) : wpAny (model prog w) A (pyIter (.ref it)) Q E s := by
  refine wpAny_pyIter_slot hit.typeIs slot_rev_iter (wpAny_call_entry slot_rev_iter hit.typeIs entry_rev_iter ?_ (args_rev_iter_1 _))
  show wpAny _ _ (ret (.ref it)) _ _ s
  exact wpAny_pure ⟨_, rfl, "reversed", _, hit.typeIs, slot_rev_next.lookup, h⟩
theorem hint_rev {it t : Addr} {i : Int} {items : Array Value} {Q : Value → Shared → Prop} (hit : IsRevT s.heap it t i) (ht : IsTup s.heap t items) (hfit : (items.size : Int) < 2 ^ 63) (hi : i = (items.size : Int) - 1)
    (h : ∀ k tk, s.toks ≤ tk → Q (.int (items.size : Nat) k) { s with toks := tk }) : wpAny (model prog w) A (call (.builtin "reversed.__length_hint__") [.ref it]) Q E s := by
  obtain ⟨o, ho, hc, hd⟩ := id hit
  refine wpAny_call_entry slot_rev_hint hit.typeIs entry_rev_hint ?_ (args_rev_hint_1 _)
  unfold Builtin.«reversed.__length_hint__»
  refine wpAny_bind (wpAny_of_eq (a := Value.ref it) rfl ?_)
  refine wpAny_bind (wpAny_field ho hd (x := .ref t) rfl ?_)
  rw [if_neg (show ¬ ((Value.ref t == Value.none) = true) from Bool.false_ne_true)]
  refine wpAny_bind (len_tuple ht hfit ?_)
  refine wpAny_bind (wpAny_of_eq (a := some (items.size : Int)) rfl ?_)
  refine wpAny_bind (wpAny_field ho hd (x := rawInt i) rfl ?_)
  show wpAny _ _ (if ((items.size : Nat) : Int) < i + 1 then _ else _) _ _ _
  rw [if_neg (by omega)]
  show wpAny _ _ (retInt (i + 1)) _ _ _
  have e : i + 1 = (items.size : Int) := by omega
  rw [e]
  exact wpAny_bind (wpAny_mkInt (wpAny_pure ⟨_, rfl, h _ _ (by show s.toks ≤ s.toks + 1 + 1 + 1; omega)⟩))
end
theorem walksT {prog : Program} {w : World} {A : Around} (hh : A.handled = none) (I t : Addr) (hne : t ≠ I) (items : Array Value) (hfit : (items.size : Int) < 2 ^ 63) :
    Walks prog w A I [I, t] [I] items.size (fun i v => items[items.size - 1 - i]? = some v) (fun i h => i ≤ items.size ∧ IsRevT h I t ((items.size : Int) - 1 - (i : Int)) ∧ IsTup h t items) where
  sub := fun b hb => by simp at hb; simp [hb]
  frame := fun _ _ _ x hk => ⟨x.1, x.2.1.at fun o e => hk I (by simp) o e, by
    obtain ⟨o, ho, r⟩ := x.2.2
    exact ⟨o, hk t (by simp) o ho, r⟩⟩
  item := fun i s Q E hi x hQ => by
    have e : (items.size : Int) - 1 - (i : Int) = ((items.size - 1 - i : Nat) : Int) := by omega
    have hit := x.2.1
    rw [e] at hit
    have hx : items[items.size - 1 - i]? = some (items[items.size - 1 - i]'(by omega)) := Array.getElem?_eq_getElem (by omega)
    refine next_item hit x.2.2 hfit hx fun h' tk hit' hs' => ?_
    have e2 : ((items.size - 1 - i : Nat) : Int) - 1 = (items.size : Int) - 1 - ((i + 1 : Nat) : Int) := by omega
    rw [e2] at hit'
    refine hQ _ h' tk hx ⟨hi, hit', ?_⟩ fun b o hb eo => hs'.extBut b o (fun h => hb (by simp [h])) eo
    obtain ⟨o, ho, r⟩ := x.2.2
    exact ⟨o, (hs'.2 t hne).trans ho, r⟩
  done := fun s Q E x hQ => by
    have e : (items.size : Int) - 1 - (items.size : Int) = -1 := by omega
    have hit := x.2.1
    rw [e] at hit
    exact next_end hh hit fun h' he' => hQ h' s.toks fun b o hb eo => he' b o (fun h => hb (by simp [h])) eo
  self := fun _ _ _ _ x hQ => iter_rev x.2.1 hQ
section
variable {prog : Program} {w : World} {A : Around} {E : Value → Shared → Prop} {s : Shared}
theorem hint_at {it t : Addr} {items : Array Value} {Q : Bool → Shared → Prop} (hit : IsRevT s.heap it t ((items.size : Int) - 1)) (ht : IsTup s.heap t items) (hfit : items.size ≤ sizeLine)
    (h : ∀ tk, s.toks ≤ tk → Q (((items.size : Nat) : Int) != 0) { s with toks := tk }) : wpAny (model prog w) A (Builtin.List.listLengthHint (.ref it)) Q E s := by
  have hbig : sizeLine < 2 ^ 62 := by decide +kernel
  unfold Builtin.List.listLengthHint
  refine wpAny_bind (wpAny_specialOf hit.typeIs nolen_rev ?_)
  show wpAny _ A (specialOf (Value.ref it) (Str.ofString "__length_hint__") >>= _) _ _ _
  refine wpAny_bind (wpAny_specialOf hit.typeIs slot_rev_hint.lookup ?_)
  (generalize hid : ("reversed.__length_hint__" : String) = id0; (fail_if_success (clear hid id0)); wp_delta; rw [show splitId id0 = some ("reversed", "__length_hint__") from by subst hid; decide +kernel]; subst hid)
  refine wpAny_bind (wpAny_isInstance (b := true) hit.typeIs (by rw [isSubtype_type]; kernel_rfl) ?_)
  rw [if_neg (by decide)]
  show wpAny _ _ (if _ = true then _ else (rule "list.length-hint.hint" >>= _)) _ _ _
  rw [if_neg (by decide +kernel)]
  refine wpAny_bind (wpAny_rule ?_)
  refine wpAny_bind (wpAny_of_eq (slot_rev_hint.bind _) ?_)
  try dsimp only
  refine wpAny_bind (wpAny_attempt (hint_rev hit ht (by omega) rfl fun k tk hle => ?_))
  have hN0 : (0 : Int) ≤ ((items.size : Nat) : Int) := by omega
  have hN1 : ((items.size : Nat) : Int) < 2 ^ 62 := by omega
  have hlong : Builtin.List.listTooLong (((items.size : Nat) : Int)).toNat = false := by rw [Int.toNat_natCast, L2.notLongL hfit]
  have hq := h tk hle
  generalize ((items.size : Nat) : Int) = N at hN0 hN1 hlong hq ⊢
  have hf : Builtin.List.listFitsIndex N = true := by
    unfold Builtin.List.listFitsIndex
    rw [Bool.and_eq_true, decide_eq_true_eq, decide_eq_true_eq]
    constructor <;> omega
  show wpAny _ _ (asInt? (.int N k) >>= _) _ _ _
  refine wpAny_bind (wpAny_of_eq (a := some N) rfl ?_)
  show wpAny _ _ (if (!Builtin.List.listFitsIndex N) = true then _ else _) _ _ _
  rw [hf, if_neg (by decide)]
  show wpAny _ _ (if N < 0 then _ else _) _ _ _
  rw [if_neg (by omega)]
  show wpAny _ _ (if Builtin.List.listTooLong N.toNat = true then _ else _) _ _ _
  rw [hlong, if_neg (by decide)]
  exact wpAny_pure hq
theorem collect_rev {it t : Addr} {items : Array Value} {Q : List Value → Shared → Prop} (hh : A.handled = none) (hne : t ≠ it) (hit : IsRevT s.heap it t ((items.size : Int) - 1)) (ht : IsTup s.heap t items) (hfit : items.size ≤ sizeLine)
    (hQ : ∀ s' acc, Moved [it] (fun a b => b = a) s s' → ItemsOf (fun i v => items[items.size - 1 - i]? = some v) acc items.size → Q acc.toList s') : wpAny (model prog w) A (collect (.ref it)) Q E s := by
  have hbig : sizeLine < 2 ^ 62 := by decide +kernel
  have W := (walksT (prog := prog) (w := w) (A := A.in1) hh it t hne items (by omega)).toS
  have hlt1 : it < s.heap.objs.size := by obtain ⟨o, ho, _⟩ := hit; exact Heap.lt_size ho
  have hlt2 : t < s.heap.objs.size := by obtain ⟨o, ho, _⟩ := ht; exact Heap.lt_size ho
  have hSf : s.heap.objs.size ∉ [it, t] := fun hm => by
    rcases List.mem_cons.mp hm with e | e
    · rw [← e] at hlt1; exact Nat.lt_irrefl _ hlt1
    · rw [← List.mem_singleton.mp e] at hlt2; exact Nat.lt_irrefl _ hlt2
  have hSI : s.heap.objs.size ≠ it := fun e => by rw [← e] at hlt1; exact Nat.lt_irrefl _ hlt1
  unfold collect
  refine wpAny_bind (wpAny_runValue (codeAny_builtin F.entry_proto_collect ?_))
  rw [Around.under_plainId F.plain_proto_collect _]
  show wpAny _ A.in1 (newList [] >>= fun l => again (.builtin "list.__iadd__" ⟨[l, .ref it], []⟩)) _ _ s
  refine wpAny_bind (wpAny_newObj_type ?_)
  refine wpAny_pure ⟨plainId_quiet F.plain_list_iadd _, codeAny_builtin F.entry_list_iadd ?_⟩
  rw [Around.under_plainId F.plain_list_iadd _]
  have fr : ∀ b o, s.heap.get? b = some o → (s.heap.push { cls := .type "list", data := .seq ([] : List Value).toArray }).get? b = some o := fun b o e => Heap.get?_push_of_some _ e
  have hit₁ : IsRevT (s.heap.push { cls := .type "list", data := .seq ([] : List Value).toArray }) it t ((items.size : Int) - 1) := hit.at fun o e => fr it o e
  have ht₁ : IsTup (s.heap.push { cls := .type "list", data := .seq ([] : List Value).toArray }) t items := by
    obtain ⟨o, ho, r⟩ := ht
    exact ⟨o, fr t o ho, r⟩
  have hS₁ : (s.heap.push { cls := .type "list", data := .seq ([] : List Value).toArray }).get? s.heap.objs.size = some { cls := .type "list", data := .seq ([] : List Value).toArray } := Heap.get?_push_size _ rfl
  show wpAny _ A.in1 (Builtin.List.listExtendWith (.ref s.heap.objs.size) (.ref it) (.ref s.heap.objs.size)) _ _ _
  unfold Builtin.List.listExtendWith
  refine wpAny_bind (wpAny_typeOf (T := "reversed") (IsRevT.typeIs (s := { s with heap := s.heap.push { cls := .type "list", data := .seq ([] : List Value).toArray } }) hit₁) ?_)
  have h1 : Builtin.List.listSameRef (.ref s.heap.objs.size) (.ref it) = false := by simp [Builtin.List.listSameRef, hSI]
  have h2 : (Value.type "reversed" == Value.type "list") = false := by decide
  have h3 : (Value.type "reversed" == Value.type "tuple") = false := by decide
  simp only [h1, h2, h3, Bool.or_false, Bool.false_eq_true, if_false]
  refine wpAny_bind (iter_rev (s := { s with heap := s.heap.push { cls := .type "list", data := .seq ([] : List Value).toArray } }) hit₁ ?_)
  refine wpAny_bind (wpAny_holding ?_)
  refine hint_at (s := { s with heap := s.heap.push { cls := .type "list", data := .seq ([] : List Value).toArray } }) hit₁ ht₁ hfit fun tk htk => ?_
  by_cases h0 : items.size = 0
  · have hr : (((items.size : Nat) : Int) != 0) = false := by rw [h0]; decide
    rw [hr]
    rw [if_neg (by decide +kernel)]
    refine wpAny_pure ⟨plainId_quiet F.plain_extend_loop _, codeAny_extend_loopS W hfit _ hSf _ items.size 0 _ _ _ rfl (Nat.zero_le _)
      ⟨Nat.zero_le _, (by simpa using hit₁), ht₁⟩ hS₁ (ItemsOf.nil _) fun s' acc' c' hm hS' hacc => ?_⟩
    show wpAny _ A (load s.heap.objs.size >>= _) _ _ s'
    refine wpAny_bind (wpAny_load hS' ?_)
    exact wpAny_pure (hQ s' acc' (Moved.drop_new (o := { cls := .type "list", data := .seq ([] : List Value).toArray }) (tk := tk) hm htk) hacc)
  · have hr : (((items.size : Nat) : Int) != 0) = true := by simp [h0]
    rw [hr]
    rw [if_pos (by rfl)]
    refine wpAny_bind (wpAny_rule ?_)
    refine wpAny_bind ?_
    show wpAny _ A.in1 (updateSeq s.heap.objs.size (·.push .none) >>= fun _ => updateSeq s.heap.objs.size (·.pop)) _ _ _
    refine wpAny_bind (wpAny_updateSeq hS₁ rfl ?_)
    have hS₂ := Heap.get?_update_self (Obj.mapSeq (·.push Value.none)) hS₁ rfl
    refine wpAny_updateSeq hS₂ rfl ?_
    have hS₃ := Heap.get?_update_self (Obj.mapSeq (·.pop)) hS₂ rfl
    have oth : ∀ b o, b ≠ s.heap.objs.size → (s.heap.push { cls := .type "list", data := .seq ([] : List Value).toArray }).get? b = some o →
        (((s.heap.push { cls := .type "list", data := .seq ([] : List Value).toArray }).update s.heap.objs.size (Obj.mapSeq (·.push Value.none))).update s.heap.objs.size (Obj.mapSeq (·.pop))).get? b = some o :=
      fun b o hb e => (Heap.get?_update_other _ _ (Ne.symm hb)).trans ((Heap.get?_update_other _ _ (Ne.symm hb)).trans e)
    refine wpAny_pure ⟨plainId_quiet F.plain_extend_loop _, codeAny_extend_loopS W hfit _ hSf _ items.size 0 _ _ _ rfl (Nat.zero_le _)
      ⟨Nat.zero_le _, (by
        have := hit₁.at (h' := ((s.heap.push { cls := .type "list", data := .seq ([] : List Value).toArray }).update s.heap.objs.size (Obj.mapSeq (·.push Value.none))).update s.heap.objs.size (Obj.mapSeq (·.pop))) fun o e => oth it o (Ne.symm hSI) e
        simpa using this), by
        obtain ⟨o, ho, r⟩ := ht₁
        exact ⟨o, oth t o (fun e => by rw [e] at hlt2; exact Nat.lt_irrefl _ hlt2) ho, r⟩⟩ hS₃ (ItemsOf.nil _) fun s' acc' c' hm hS' hacc => ?_⟩
    show wpAny _ A (load s.heap.objs.size >>= _) _ _ s'
    refine wpAny_bind (wpAny_load hS' ?_)
    have m0 : Moved (s.heap.objs.size :: [it]) (fun (a b : Array GenState) => b = a) ({ s with heap := s.heap.push { cls := .type "list", data := .seq ([] : List Value).toArray }, toks := tk } : Shared)
        { s with heap := ((s.heap.push { cls := .type "list", data := .seq ([] : List Value).toArray }).update s.heap.objs.size (Obj.mapSeq (·.push Value.none))).update s.heap.objs.size (Obj.mapSeq (·.pop)), toks := tk } :=
      Moved.then_heap (s := ({ s with heap := s.heap.push { cls := .type "list", data := .seq ([] : List Value).toArray }, toks := tk } : Shared)) (Moved.refl (G := fun (a b : Array GenState) => b = a) (fun _ => rfl)) (Nat.le_refl _) fun b o hb e => oth b o (fun h => hb (by rw [h]; exact List.mem_cons_self ..)) e
    exact wpAny_pure (hQ s' acc' (Moved.drop_new (o := { cls := .type "list", data := .seq ([] : List Value).toArray }) (tk := tk) (Moved.trans W.gtrans m0 hm) htk) hacc)
theorem code_tuple_new_rev {it t : Addr} {items : Array Value} {Q₁ : Value → Shared → Prop} (hh : A.handled = none) (hne : t ≠ it) (hit : IsRevT s.heap it t ((items.size : Int) - 1)) (ht : IsTup s.heap t items) (hfit : items.size ≤ sizeLine)
    (h : ∀ s' acc, Moved [it] (fun a b => b = a) s s' → ItemsOf (fun i v => items[items.size - 1 - i]? = some v) acc items.size → Q₁ (.ref s'.heap.objs.size) { s' with heap := s'.heap.push { cls := .type "tuple", data := .seq acc } }) :
    codeAny (model prog w) A (.call (.builtin "tuple.__new__") ⟨[.type "tuple", .ref it], []⟩) (wants Q₁ E) s := by
  refine codeAny_of_tree ?_
  show wpAny _ A.in1 (do checkBuiltinCall "tuple.__new__" ⟨[.type "tuple", .ref it], []⟩; again (.builtin "tuple.__new__" ⟨[.type "tuple", .ref it], []⟩)) _ _ s
  refine wpAny_bind (wpAny_of_eq (F.newCall_tuple_1 _) (wpAny_pure ⟨plainId_quiet F.plain_tuple_new _, codeAny_builtin F.entry_tuple_new ?_⟩))
  rw [Around.under_plainId F.plain_tuple_new _]
  have hsub := sub_tuple_self
  have hinit := init_tuple_lookup
  have hmh := madeHere_tuple
  have hTI := hit.typeIs
  have hh1 : A.in1.handled = none := hh
  wp_walk using wpAny_typeOf hTI, collect_rev hh1 hne hit ht hfit
  intro s' acc hm hacc
  show wpAny _ _ (Builtin.Tuple.tupleExact acc.toList.toArray >>= fun v => ret v) _ _ _
  unfold Builtin.Tuple.tupleExact
  refine wpAny_bind (wpAny_newObj_type ?_ (by show acc.toList.toArray.size ≤ sizeLine; simp only [Array.toArray_toList]; rw [hacc.1]; exact hfit))
  refine wpAny_pure ?_
  have e : acc.toList.toArray = acc := by simp
  rw [e]
  exact h s' acc hm hacc
theorem call_tuple_rev {it t : Addr} {items : Array Value} {Q : Value → Shared → Prop} (hh : A.handled = none) (hne : t ≠ it) (hit : IsRevT s.heap it t ((items.size : Int) - 1)) (ht : IsTup s.heap t items) (hfit : items.size ≤ sizeLine)
    (hQ : ∀ s' acc, Moved [it] (fun a b => b = a) s s' → ItemsOf (fun i v => items[items.size - 1 - i]? = some v) acc items.size → Q (.ref s'.heap.objs.size) { s' with heap := s'.heap.push { cls := .type "tuple", data := .seq acc } }) :
    wpAny (model prog w) A (call (.type "tuple") [.ref it]) Q E s := by
  refine callType_codes (Q₁ := fun obj s₁ => s₁.TypeIs obj "tuple" ∧ Q obj s₁) F.called_tuple (F.typeCall_tuple_1 _) F.entry_object_init
    (code_tuple_new_rev (A := A.in1) hh hne hit ht hfit fun s' acc hm hacc => ⟨⟨_, Heap.get?_push_size _ rfl, rfl⟩, hQ s' acc hm hacc⟩) fun obj s₁ h₁ => ?_
  exact ⟨h₁.1, F.args_object_init_2 obj _, object_init_meets F.called_tuple.init.lookup F.called_tuple.made (by decide) prog w A.in1 _ s₁ ⟨h₁.1, rfl, h₁.2⟩⟩
end
end RevT
namespace L2
open PySem PySem.Spec PyProof.Rows
def tTupRev (K : PySem.W.Frag) (te : TE) : TE := fun σ H Q => te σ H fun x H1 => ∃ p ys, [x] = [V.ref p] ∧ SqT K H1 p ys ∧ ∀ l, H1 l = none → Q (.ref l) (upd H1 l (.tup ys.reverse))
section
variable {X : Cx} {e : Expr} {te : TE} {p1 p2 pos pos2 : Pos}
theorem tuprev_ok {pins : List (Addr × Obj)} {σ : St} {H : Hp} {s : Shared} {p : Addr} {ys : List V} {Q : VK} {E : Value → Shared → Prop} (hc : X.calm = true) (I : Inv X pins σ H s) (hq : SqT X.K H p ys) (q : ∀ l, H l = none → Q (.ref l) (upd H l (.tup ys.reverse))) :
    wpAny (model X.prog X.w) X.A (call (.type "reversed") [.ref p]) (fun u s1 => wpAny (model X.prog X.w) X.A (call (.type "tuple") [u]) (EP X pins σ Q) E s1) E s := by
  obtain ⟨its, rv, pl, hz⟩ := I.tuple hq
  have hbig : sizeLine < 2 ^ 62 := by decide +kernel
  have hlen := rv.length
  have ht : IsTup s.heap p its.toArray := pl
  have hlt : p < s.heap.objs.size := pl.lt
  have hsz : its.toArray.size ≤ sizeLine := by rw [List.size_toArray]; omega
  refine RevT.call_reversed_tuple ht (by omega) fun tk => ?_
  have hrev : RevT.IsRevT (s.heap.push (RevT.revT p ((its.toArray.size : Int) - 1))) s.heap.objs.size p ((its.toArray.size : Int) - 1) := ⟨_, Heap.get?_push_size _ rfl, rfl, rfl⟩
  have ht2 : IsTup (s.heap.push (RevT.revT p ((its.toArray.size : Int) - 1))) p its.toArray := by
    obtain ⟨o, ho, r⟩ := ht
    exact ⟨o, Heap.get?_push_of_some _ ho, r⟩
  refine RevT.call_tuple_rev (s := { s with heap := s.heap.push (RevT.revT p ((its.toArray.size : Int) - 1)), toks := tk }) (I.ok.hd hc) (Nat.ne_of_lt hlt) hrev ht2 hsz fun s' acc hm hacc => ?_
  obtain rfl := reversed_items hacc
  have kp : ∀ b o, s.heap.get? b = some o → s'.heap.get? b = some o := fun b o e => by
    have hb := Heap.lt_size e
    refine hm.heap b o ?_ (Heap.get?_push_of_some _ e)
    intro hmem
    rw [List.mem_singleton.mp hmem] at hb
    exact Nat.lt_irrefl _ hb
  have es : s' = { s with heap := s'.heap, toks := s'.toks } := by
    have z := Moved.eq_with hm
    exact z
  have I1 : Inv X pins σ H { s with heap := s'.heap, toks := s'.toks } := I.kept kp
  have I1' : Inv X pins σ H s' := by rw [es]; exact I1
  have I2 : Inv X pins σ (upd H s'.heap.objs.size (.tup ys.reverse)) { s' with heap := s'.heap.push { cls := .type "tuple", data := .seq its.reverse.toArray } } :=
    I1'.laid (t' := s'.toks) (fun b o e => Heap.get?_push_of_some _ e) (Nat.le_refl _) (show ObjOk X.prog X.w _ _ _ (.tup ys.reverse) from ⟨by rw [List.length_reverse]; exact hz, its.reverse, rv.reverse, IsTup.new _ _⟩)
  exact ⟨.ref s'.heap.objs.size, _, I2, rfl, q _ (I1'.hok.fresh (Nat.le_refl _))⟩
theorem pe_tuprev (hc : X.calm = true) (he : PE X e te) (hg : Gl X "tuple") (hm : X.mg "tuple" = none) (hg2 : Gl X "reversed") (hm2 : X.mg "reversed" = none)
    (hs : starEach [e] X.env = [(false, eval e X.env)] := by rfl) (hs2 : starEach [.Call (.Name "reversed" p2) [e] [] pos2] X.env = [(false, eval (.Call (.Name "reversed" p2) [e] [] pos2) X.env)] := by rfl) :
    PE X (.Call (.Name "tuple" p1) [.Call (.Name "reversed" p2) [e] [] pos2] [] pos) (tTupRev X.K te) := by
  intro pins s σ H Q I h
  refine Call_ (ld_blt I hg hm bt_tuple (PyProof.Rows.callWith_type1 ?_ hs2 rfl))
  rw [hs2]
  refine Calls.spliced_cons ?_
  refine Call_ (ld_blt I hg2 hm2 boot_reversed (PyProof.Rows.callWith_type1 (thn ((pa_cons (hs := hs) he pa_nil) pos2 pins s σ H (fun xs H1 => ∃ p ys, xs = [V.ref p] ∧ SqT X.K H1 p ys ∧ ∀ l, H1 l = none → Q (.ref l) (upd H1 l (.tup ys.reverse))) I h) fun us s1 ⟨vs, H1, I1, r1, q1⟩ => ?_) hs rfl))
  obtain ⟨p, ys, e1, hq, q⟩ := q1
  subst e1
  obtain ⟨u, rfl, rx⟩ := r1.one
  cases rx
  exact thn (tuprev_ok hc I1 hq q) fun u s2 h2 => Calls.spliced_nil h2
end
end L2

/-! ### runs of a line, as both texts reckon them -/
namespace Rp
def stepR (st : List Int × Int) (c : Int) : List Int × Int := if c = 1 then (st.1, st.2 + 1) else if 0 < st.2 then (st.1 ++ [st.2], 0) else st
def foldR (ns : List Int) : List Int × Int := ns.foldl stepR ([], 0)
def runsZ (ns : List Int) : List Int := if 0 < (foldR ns).2 then (foldR ns).1 ++ [(foldR ns).2] else (foldR ns).1
theorem foldR_nil : foldR [] = ([], 0) := rfl
theorem foldR_snoc (ns : List Int) (z : Int) : foldR (ns ++ [z]) = stepR (foldR ns) z := by unfold foldR; rw [List.foldl_append]; rfl
theorem foldR_take {ns : List Int} {i : Nat} {z : Int} (h : ns[i]? = some z) : foldR (ns.take (i + 1)) = stepR (foldR (ns.take i)) z := by
  rw [List.take_add_one, h]; exact foldR_snoc _ _
theorem stepR_len (st : List Int × Int) (z : Int) : (stepR st z).1.length ≤ st.1.length + 1 := by
  unfold stepR; split
  · simp
  · split <;> simp
theorem foldR_len : ∀ (ns : List Int) (st : List Int × Int), (ns.foldl stepR st).1.length ≤ st.1.length + ns.length
  | [], st => by simp
  | z :: r, st => by
    rw [List.foldl_cons]
    have h1 := foldR_len r (stepR st z)
    have h2 := stepR_len st z
    rw [List.length_cons]; omega
theorem foldR_length (ns : List Int) : (foldR ns).1.length ≤ ns.length := by
  have := foldR_len ns ([], 0)
  simpa [foldR] using this
theorem runsZ_length (ns : List Int) : (runsZ ns).length ≤ ns.length + 1 := by
  have := foldR_length ns
  unfold runsZ
  split
  · rw [List.length_append, List.length_singleton]; omega
  · omega
theorem runs_zero (ns : List Int) : (foldR (ns ++ [0])).1 = runsZ ns := by
  rw [foldR_snoc]
  unfold stepR runsZ
  rw [if_neg (by decide)]
  split <;> rfl
def mixZ (c k : Int) : Int :=
  ((((c * 69621 + 7001 * k + 3) % 2147483629) * ((c * 69621 + 7001 * k + 3) % 2147483629) + 39373 * ((c * 69621 + 7001 * k + 3) % 2147483629) + k) % 2147483647)
theorem mixed_lt (c k : Int) : 0 ≤ (c * 69621 + 7001 * k + 3) % 2147483629 ∧ (c * 69621 + 7001 * k + 3) % 2147483629 < 2147483629 := by omega
def bitZ (c k j : Int) : Int := mixZ c (50 * k + j) / 7 % 2
def bitsZ (c k : Int) (n : Nat) : List Int := (List.range n).map fun j => bitZ c k (j : Nat)
def cellZ (ns : List Int) (i : Nat) : Int := ns.getD i 0
end Rp

/-! ### rows of cells, boards, as data -/
namespace Rp
open PySem L2
def dRow (xs : List Int) : Dt := .lst (xs.map Dt.int)
def dRows (xss : List (List Int)) : Dt := .lst (xss.map dRow)
def dTup (xs : List Int) : Dt := .tup (xs.map Dt.int)
def dTups (xss : List (List Int)) : Dt := .tup (xss.map dTup)
def dBoard (b : List (List Int) × List (List Int)) : Dt := .tup [dTups b.1, dTups b.2]
def colZ (xss : List (List Int)) (j : Nat) : List Int := xss.map fun xs => xs.getD j 0
def boardZ (xss : List (List Int)) (w : Nat) : List (List Int) × List (List Int) := (xss.map runsZ, (List.range w).map fun j => runsZ (colZ xss j))

theorem isDs_ints_inv {H : Hp} : ∀ {xs : List Int} {ys : List V}, IsDs H (xs.map Dt.int) ys → ys = xs.map V.int
  | [], ys, h => by
    have h' : IsDs H [] ys := h
    unfold IsDs at h'
    exact h'
  | x :: r, ys, h => by
    have h' : IsDs H (Dt.int x :: r.map Dt.int) ys := h
    unfold IsDs at h'
    obtain ⟨y, r', rfl, hy, hr⟩ := h'
    unfold IsD at hy
    subst hy
    rw [isDs_ints_inv hr]
    rfl
theorem isD_row {H : Hp} {a : Addr} {xs : List Int} (h : H a = some (.lst (xs.map V.int))) : IsD H (dRow xs) (.ref a) := isD_lstI h
theorem isD_tup {H : Hp} {a : Addr} {xs : List Int} (h : H a = some (.tup (xs.map V.int))) : IsD H (dTup xs) (.ref a) := isD_tupI h
theorem row_inv {H : Hp} {xs : List Int} {v : V} (h : IsD H (dRow xs) v) : ∃ a, v = .ref a ∧ H a = some (.lst (xs.map V.int)) := by
  unfold dRow IsD at h
  obtain ⟨a, ys, rfl, ha, hs⟩ := h
  rw [isDs_ints_inv hs] at ha
  exact ⟨a, rfl, ha⟩
theorem tup_inv {H : Hp} {xs : List Int} {v : V} (h : IsD H (dTup xs) v) : ∃ a, v = .ref a ∧ H a = some (.tup (xs.map V.int)) := by
  unfold dTup IsD at h
  obtain ⟨a, ys, rfl, ha, hs⟩ := h
  rw [isDs_ints_inv hs] at ha
  exact ⟨a, rfl, ha⟩
theorem rows_inv {H : Hp} {xss : List (List Int)} {a : Addr} (h : IsD H (dRows xss) (.ref a)) : ∃ vs, H a = some (.lst vs) ∧ IsDs H (xss.map dRow) vs := by
  unfold dRows IsD at h
  obtain ⟨b, vs, e, hb, hs⟩ := h
  cases e
  exact ⟨vs, hb, hs⟩
theorem tups_inv {H : Hp} {xss : List (List Int)} {a : Addr} (h : IsD H (dTups xss) (.ref a)) : ∃ vs, H a = some (.tup vs) ∧ IsDs H (xss.map dTup) vs := by
  unfold dTups IsD at h
  obtain ⟨b, vs, e, hb, hs⟩ := h
  cases e
  exact ⟨vs, hb, hs⟩
theorem mk_rows {H : Hp} {xss : List (List Int)} {a : Addr} {vs : List V} (h : H a = some (.lst vs)) (hs : IsDs H (xss.map dRow) vs) : IsD H (dRows xss) (.ref a) := by
  unfold dRows IsD
  exact ⟨a, vs, rfl, h, hs⟩
theorem mk_tups {H : Hp} {xss : List (List Int)} {a : Addr} {vs : List V} (h : H a = some (.tup vs)) (hs : IsDs H (xss.map dTup) vs) : IsD H (dTups xss) (.ref a) := by
  unfold dTups IsD
  exact ⟨a, vs, rfl, h, hs⟩
theorem board_inv {H : Hp} {b : List (List Int) × List (List Int)} {a : Addr} (h : IsD H (dBoard b) (.ref a)) : ∃ r c, H a = some (.tup [.ref r, .ref c]) ∧ IsD H (dTups b.1) (.ref r) ∧ IsD H (dTups b.2) (.ref c) := by
  unfold dBoard IsD at h
  obtain ⟨x, vs, e, hx, hs⟩ := h
  cases e
  unfold IsDs at hs
  obtain ⟨v1, r1, rfl, h1, hs⟩ := hs
  unfold IsDs at hs
  obtain ⟨v2, r2, rfl, h2, hs⟩ := hs
  unfold IsDs at hs
  subst hs
  have h1' := h1
  have h2' := h2
  unfold dTups IsD at h1 h2
  obtain ⟨r, _, rfl, _⟩ := h1
  obtain ⟨c, _, rfl, _⟩ := h2
  exact ⟨r, c, hx, h1', h2'⟩
theorem mk_board {H : Hp} {b : List (List Int) × List (List Int)} {a r c : Addr} (h : H a = some (.tup [.ref r, .ref c])) (h1 : IsD H (dTups b.1) (.ref r)) (h2 : IsD H (dTups b.2) (.ref c)) : IsD H (dBoard b) (.ref a) := by
  unfold dBoard IsD
  refine ⟨a, _, rfl, h, ?_⟩
  unfold IsDs
  refine ⟨_, _, rfl, h1, ?_⟩
  unfold IsDs
  exact ⟨_, _, rfl, h2, by unfold IsDs; rfl⟩
theorem depth_le {f : List Int → Dt} {n : Nat} (hf : ∀ xs, depthD (f xs) ≤ n) : ∀ xss : List (List Int), depthDs (xss.map f) ≤ n
  | [] => by show depthDs [] ≤ n; unfold depthDs; exact Nat.zero_le _
  | x :: r => by
    show depthDs (f x :: r.map f) ≤ n
    unfold depthDs
    have h1 := hf x
    have h2 := depth_le hf r
    omega
theorem depth_row (xs : List Int) : depthD (dRow xs) ≤ 1 := by unfold dRow; rw [depth_l, depth_ints]; omega
theorem depth_tup (xs : List Int) : depthD (dTup xs) ≤ 1 := by unfold dTup; rw [depth_t, depth_ints]; omega
theorem depth_rows (xss : List (List Int)) : depthD (dRows xss) ≤ 2 := by unfold dRows; rw [depth_l]; have := depth_le depth_row xss; omega
theorem depth_tups (xss : List (List Int)) : depthD (dTups xss) ≤ 2 := by unfold dTups; rw [depth_t]; have := depth_le depth_tup xss; omega
theorem depth_board (b : List (List Int) × List (List Int)) : depthD (dBoard b) ≤ 3 := by
  unfold dBoard
  rw [depth_t]
  unfold depthDs depthDs depthDs
  have h1 := depth_tups b.1
  have h2 := depth_tups b.2
  omega
theorem rows_get {H : Hp} {f : List Int → Dt} {xss : List (List Int)} {vs : List V} {i : Nat} {v : V} (hs : IsDs H (xss.map f) vs) (e : vs[i]? = some v) : ∃ xs, xss[i]? = some xs ∧ IsD H (f xs) v := by
  obtain ⟨d, e1, e2⟩ := hs.get' e
  rw [List.getElem?_map] at e1
  cases q : xss[i]? with
  | none => rw [q] at e1; cases e1
  | some xs => rw [q] at e1; cases e1; exact ⟨xs, rfl, e2⟩
theorem rows_len {H : Hp} {f : List Int → Dt} {xss : List (List Int)} {vs : List V} (hs : IsDs H (xss.map f) vs) : vs.length = xss.length := by rw [← hs.length, List.length_map]
theorem map_range {α β : Type} (f : α → β) (d : α) (xs : List α) : (List.range xs.length).map (fun i => f (xs.getD i d)) = xs.map f := by
  apply List.ext_getElem?
  intro i
  rw [List.getElem?_map, List.getElem?_map]
  by_cases h : i < xs.length
  · rw [List.getElem?_range h, List.getElem?_eq_getElem h]
    simp [h]
  · rw [List.getElem?_eq_none (by simpa using h), List.getElem?_eq_none (by simpa using h)]
    rfl
theorem getD_of {α : Type} {xs : List α} {i : Nat} {x d : α} (h : xs[i]? = some x) : xs.getD i d = x := by rw [List.getD_eq_getElem?_getD, h]; rfl
theorem upd_swap {H : Hp} {a b : Addr} {o o' o2 : HO} (h : a ≠ b) : upd (upd (upd H a o) b o') a o2 = upd (upd H b o') a o2 := by
  funext c
  unfold upd
  by_cases h1 : c = a
  · simp [h1]
  · by_cases h2 : c = b
    · simp [h1, h2]
    · simp [h1, h2]
def pixZ (c : Int) (i j : Nat) : Int := if mixZ c 3 % 3 < mixZ c (1000 + 20 * (i : Int) + j) / 7 % 4 then 1 else 0
def picRow (c : Int) (w i : Nat) : List Int := (List.range w).map fun j => pixZ c i j
def picZ (c : Int) (r w : Nat) : List (List Int) := (List.range r).map fun i => picRow c w i
theorem picRow_len (c : Int) (w i : Nat) : (picRow c w i).length = w := by unfold picRow; simp
theorem picZ_len (c : Int) (r w : Nat) : (picZ c r w).length = r := by unfold picZ; simp
theorem picZ_row {c : Int} {r w : Nat} {xs : List Int} (h : xs ∈ picZ c r w) : xs.length = w := by
  unfold picZ at h
  obtain ⟨i, _, rfl⟩ := List.mem_map.mp h
  exact picRow_len c w i

theorem isDs_of_get {H : Hp} : ∀ {ds : List Dt} {xs : List V}, ds.length = xs.length → (∀ (i : Nat) d x, ds[i]? = some d → xs[i]? = some x → IsD H d x) → IsDs H ds xs
  | [], [], _, _ => by unfold IsDs; rfl
  | [], _ :: _, h, _ => by simp at h
  | _ :: _, [], h, _ => by simp at h
  | d :: ds, x :: xs, h, g => by
    unfold IsDs
    exact ⟨x, xs, rfl, g 0 d x rfl rfl, isDs_of_get (by simpa using h) fun i d' x' e1 e2 => g (i + 1) d' x' (by simpa using e1) (by simpa using e2)⟩
/-- a list of rows of one's own: all new since H0, no two one -/
structure Own (H0 H : Hp) (l : Addr) (as : List Addr) (xss : List (List Int)) : Prop where
  same : Same H0 H
  at' : H l = some (.lst (as.map V.ref))
  len : as.length = xss.length
  row : ∀ (i : Nat) a xs, as[i]? = some a → xss[i]? = some xs → H a = some (.lst (xs.map V.int))
  nd : as.Nodup
  nl : l ∉ as
  new : ∀ a ∈ as, H0 a = none
  newl : H0 l = none
theorem Own.isD {H0 H : Hp} {l : Addr} {as : List Addr} {xss : List (List Int)} (o : Own H0 H l as xss) : IsD H (dRows xss) (.ref l) := by
  refine mk_rows o.at' (isDs_of_get (by simp [o.len]) fun i d x e1 e2 => ?_)
  rw [List.getElem?_map] at e1 e2
  cases q1 : xss[i]? with
  | none => rw [q1] at e1; cases e1
  | some xs =>
    cases q2 : as[i]? with
    | none => rw [q2] at e2; cases e2
    | some a =>
      rw [q1] at e1; rw [q2] at e2
      cases e1; cases e2
      exact isD_row (o.row i a xs q2 q1)
theorem nodup_get {as : List Addr} (h : as.Nodup) {i j : Nat} {a : Addr} (e1 : as[i]? = some a) (e2 : as[j]? = some a) : i = j := by
  obtain ⟨h1, q1⟩ := List.getElem?_eq_some_iff.mp e1
  obtain ⟨h2, q2⟩ := List.getElem?_eq_some_iff.mp e2
  exact (List.getElem_inj h).mp (q1.trans q2.symm)
theorem Own.setRow {H0 H : Hp} {l : Addr} {as : List Addr} {xss : List (List Int)} (o : Own H0 H l as xss) {i : Nat} {a : Addr} (e : as[i]? = some a) (ys : List Int) : Own H0 (upd H a (.lst (ys.map V.int))) l as (xss.set i ys) := by
  have hm := List.mem_of_getElem? e
  refine ⟨same_upd' o.same (o.new a hm), ?_, by rw [List.length_set]; exact o.len, fun j b xs e1 e2 => ?_, o.nd, o.nl, o.new, o.newl⟩
  · have nn : l ≠ a := fun z => o.nl (by rw [z]; exact hm)
    rw [upd_ne nn]
    exact o.at'
  · by_cases hj : j = i
    · subst hj
      rw [e] at e1
      cases e1
      rw [List.getElem?_set_self (by rw [← o.len]; exact (List.getElem?_eq_some_iff.mp e).1)] at e2
      cases e2
      exact upd_same
    · rw [List.getElem?_set_ne (Ne.symm hj)] at e2
      have nn : b ≠ a := fun z => hj (nodup_get o.nd (by rw [← z]; exact e1) e)
      rw [upd_ne nn]
      exact o.row j b xs e1 e2
theorem set_mem {α : Type} {as : List α} {i : Nat} {c x : α} (h : x ∈ as.set i c) : x = c ∨ x ∈ as := by
  rcases List.mem_or_eq_of_mem_set h with h | h
  · exact .inr h
  · exact .inl h
theorem nodup_set {as : List Addr} (h : as.Nodup) {c : Addr} (hc : c ∉ as) : ∀ i, (as.set i c).Nodup := by
  induction as with
  | nil => intro i; simpa using h
  | cons x r ih =>
    intro i
    have h1 := List.nodup_cons.mp h
    cases i with
    | zero =>
      rw [List.set_cons_zero]
      exact List.nodup_cons.mpr ⟨fun z => hc (List.mem_cons_of_mem _ z), h1.2⟩
    | succ i =>
      rw [List.set_cons_succ]
      refine List.nodup_cons.mpr ⟨fun z => ?_, ih h1.2 (fun z => hc (List.mem_cons_of_mem _ z)) i⟩
      rcases set_mem z with z | z
      · exact hc (by rw [← z]; exact List.mem_cons_self)
      · exact h1.1 z
theorem Own.putRow {H0 H : Hp} {l c : Addr} {as : List Addr} {xss : List (List Int)} (o : Own H0 H l as xss) {i : Nat} (hi : i < as.length) (hc : H c = none) (ys : List Int) :
    Own H0 (upd (upd H c (.lst (ys.map V.int))) l (.lst ((as.map V.ref).set i (.ref c)))) l (as.set i c) (xss.set i ys) := by
  have ncl : c ≠ l := fun z => by rw [z, o.at'] at hc; cases hc
  have nca : c ∉ as := fun z => by
    obtain ⟨j, hj, e⟩ := List.getElem_of_mem z
    have q := o.row j c (xss[j]'(by rw [← o.len]; exact hj)) (by rw [List.getElem?_eq_getElem hj, e]) (List.getElem?_eq_getElem _)
    rw [hc] at q; cases q
  refine ⟨same_upd' (same_upd' o.same (o.same.free hc)) o.newl, by rw [upd_same, List.map_set], by rw [List.length_set, List.length_set]; exact o.len, fun j b xs e1 e2 => ?_, nodup_set o.nd nca i, fun z => ?_, fun a ha => ?_, o.newl⟩
  · by_cases hj : j = i
    · subst hj
      rw [List.getElem?_set_self hi] at e1
      cases e1
      rw [List.getElem?_set_self (by rw [← o.len]; exact hi)] at e2
      cases e2
      rw [upd_ne ncl, upd_same]
    · rw [List.getElem?_set_ne (Ne.symm hj)] at e1 e2
      have hb := List.mem_of_getElem? e1
      have n1 : b ≠ l := fun z => o.nl (by rw [← z]; exact hb)
      have n2 : b ≠ c := fun z => nca (by rw [← z]; exact hb)
      rw [upd_ne n1, upd_ne n2]
      exact o.row j b xs e1 e2
  · rcases set_mem z with z | z
    · exact ncl z.symm
    · exact o.nl z
  · rcases set_mem ha with z | z
    · rw [z]; exact o.same.free hc
    · exact o.new a z
theorem mem_set_len {xss : List (List Int)} {i wd : Nat} {ys : List Int} (h : ∀ xs ∈ xss, xs.length = wd) (hy : ys.length = wd) : ∀ xs ∈ xss.set i ys, xs.length = wd := fun xs hx => by
  rcases set_mem hx with z | z
  · rw [z]; exact hy
  · exact h xs z

/-! ### new lists of ints, one by one -/
structure Grow (H0 : Hp) (f : Nat → List Int) (i : Nat) (as : List Addr) (H' : Hp) : Prop where
  same : Same H0 H'
  len : as.length = i
  row : ∀ (j : Nat) a, as[j]? = some a → H' a = some (.lst ((f j).map V.int))
  nd : as.Nodup
  new : ∀ a ∈ as, H0 a = none
theorem Grow.zero {H0 : Hp} {f : Nat → List Int} : Grow H0 f 0 [] H0 := ⟨Same.refl _, rfl, fun j a e => by simp at e, List.nodup_nil, fun a h => by simp at h⟩
theorem Grow.there {H0 : Hp} {f : Nat → List Int} {i : Nat} {as : List Addr} {H' : Hp} (g : Grow H0 f i as H') {b : Addr} (hb : H' b = none) : b ∉ as := fun z => by
  obtain ⟨j, hj, e⟩ := List.getElem_of_mem z
  have q := g.row j b (by rw [List.getElem?_eq_getElem hj, e])
  rw [hb] at q; cases q
theorem Grow.next {H0 : Hp} {f : Nat → List Int} {i : Nat} {as : List Addr} {H1 H2 : Hp} (g : Grow H0 f i as H1) (s : Same H1 H2) {b : Addr} (hb : H1 b = none) (h : H2 b = some (.lst ((f i).map V.int))) : Grow H0 f (i + 1) (as ++ [b]) H2 := by
  refine ⟨g.same.trans s, by rw [List.length_append, List.length_singleton, g.len], fun j a e => ?_, List.nodup_append.mpr ⟨g.nd, by simp, fun x hx y hy => by rw [List.mem_singleton.mp hy]; intro z; exact g.there hb (z ▸ hx)⟩, fun a ha => ?_⟩
  · by_cases hj : j < as.length
    · rw [List.getElem?_append_left hj] at e
      exact s _ _ (g.row j a e)
    · rw [List.getElem?_append_right (by omega)] at e
      have hj0 : j - as.length = 0 := by
        have := (List.getElem?_eq_some_iff.mp e).1
        simp at this
        omega
      rw [hj0] at e
      have e' : b = a := Option.some.inj e
      have e2 : j = i := by have := g.len; omega
      rw [← e', e2]
      exact h
  · rcases List.mem_append.mp ha with z | z
    · exact g.new a z
    · rw [List.mem_singleton.mp z]; exact g.same.free hb
/-- rows at as, as tbl tells -/
def RowsAt (H : Hp) (as : List Addr) (tbl : List (List Int)) : Prop := as.length = tbl.length ∧ ∀ (i : Nat) a xs, as[i]? = some a → tbl[i]? = some xs → H a = some (.lst (xs.map V.int))
theorem RowsAt.isD {H : Hp} {as : List Addr} {tbl : List (List Int)} (r : RowsAt H as tbl) {l : Addr} (h : H l = some (.lst (as.map V.ref))) : IsD H (dRows tbl) (.ref l) := by
  refine mk_rows h (isDs_of_get (by simp [r.1]) fun i d x e1 e2 => ?_)
  rw [List.getElem?_map] at e1 e2
  cases q1 : tbl[i]? with
  | none => rw [q1] at e1; cases e1
  | some xs =>
    cases q2 : as[i]? with
    | none => rw [q2] at e2; cases e2
    | some a =>
      rw [q1] at e1; rw [q2] at e2
      cases e1; cases e2
      exact isD_row (r.2 i a xs q2 q1)
theorem RowsAt.set {H : Hp} {as : List Addr} {tbl : List (List Int)} (r : RowsAt H as tbl) (nd : as.Nodup) {i : Nat} {a : Addr} (e : as[i]? = some a) (ys : List Int) : RowsAt (upd H a (.lst (ys.map V.int))) as (tbl.set i ys) := by
  refine ⟨by rw [List.length_set]; exact r.1, fun j b xs e1 e2 => ?_⟩
  by_cases hj : j = i
  · subst hj
    rw [e] at e1
    cases e1
    rw [List.getElem?_set_self (by rw [← r.1]; exact (List.getElem?_eq_some_iff.mp e).1)] at e2
    cases e2
    exact upd_same
  · rw [List.getElem?_set_ne (Ne.symm hj)] at e2
    have nn : b ≠ a := fun z => hj (nodup_get nd (by rw [← z]; exact e1) e)
    rw [upd_ne nn]
    exact r.2 j b xs e1 e2
theorem RowsAt.mono {H H' : Hp} {as : List Addr} {tbl : List (List Int)} (r : RowsAt H as tbl) (s : Same H H') : RowsAt H' as tbl := ⟨r.1, fun i a xs e1 e2 => s _ _ (r.2 i a xs e1 e2)⟩
theorem Grow.rows {H0 : Hp} {f : Nat → List Int} {n : Nat} {as : List Addr} {H' : Hp} (g : Grow H0 f n as H') : RowsAt H' as ((List.range n).map f) := by
  refine ⟨by rw [List.length_map, List.length_range]; exact g.len, fun i a xs e1 e2 => ?_⟩
  have hi : i < n := by have := (List.getElem?_eq_some_iff.mp e2).1; rw [List.length_map, List.length_range] at this; exact this
  rw [List.getElem?_map, List.getElem?_range hi] at e2
  cases e2
  exact g.row i a e1
/-- kept but for as -/
def KeptBut (H H' : Hp) (as : List Addr) : Prop := ∀ b o, H b = some o → b ∉ as → H' b = some o
theorem KeptBut.refl (H : Hp) (as : List Addr) : KeptBut H H as := fun _ _ h _ => h
theorem KeptBut.same {H H1 H2 : Hp} {as : List Addr} (k : KeptBut H H1 as) (s : Same H1 H2) : KeptBut H H2 as := fun b o h n => s _ _ (k b o h n)
theorem KeptBut.upd {H H1 : Hp} {as : List Addr} {a : Addr} {o : HO} (k : KeptBut H H1 as) (ha : a ∈ as) : KeptBut H (upd H1 a o) as := fun b o' h n => by
  have nn : b ≠ a := fun z => n (by rw [z]; exact ha)
  rw [upd_ne nn]
  exact k b o' h n
end Rp

/-! ### layings, gone through in order; how many there are -/
namespace Rp
abbrev Sight := List (Option Int)
/-- a run of k finds room at the head of s -/
def fitsB (k : Nat) (s : Sight) : Bool := decide (k ≤ s.length) && (s.take k).all (fun x => decide (x ≠ some 0)) && (decide (k = s.length) || decide (s[k]? ≠ some (some 1)))
/-- a run with the empty cell behind it -/
def runCells (k n : Nat) : List Int := List.replicate k 1 ++ (if k < n then [0] else [])
def layL (rs : List Nat) (s : Sight) : List (List Int) :=
  match s with
  | [] => if rs = [] then [[]] else []
  | x :: t =>
    (if x = some 1 then [] else (layL rs t).map (fun c => 0 :: c)) ++
    (match rs with
     | [] => []
     | k :: rs' => if fitsB k (x :: t) = true then (layL rs' (t.drop k)).map (fun c => runCells k (t.length + 1) ++ c) else [])
termination_by s.length
decreasing_by
  · simp
  · simp; omega
theorem layL_nil (rs : List Nat) : layL rs [] = if rs = [] then [[]] else [] := by rw [layL.eq_def]
theorem layL_cons (rs : List Nat) (x : Option Int) (t : Sight) : layL rs (x :: t) = (if x = some 1 then [] else (layL rs t).map (fun c => 0 :: c)) ++
    (match rs with
     | [] => []
     | k :: rs' => if fitsB k (x :: t) = true then (layL rs' (t.drop k)).map (fun c => runCells k (t.length + 1) ++ c) else []) := by rw [layL.eq_def]
def waysN (rs : List Nat) (s : Sight) : Nat := (layL rs s).length
theorem ways_nil (rs : List Nat) : waysN rs [] = if rs = [] then 1 else 0 := by
  unfold waysN
  rw [layL_nil]
  split <;> rfl
def emptyN (rs : List Nat) (s : Sight) : Nat := match s with
  | [] => 0
  | x :: t => if x = some 1 then 0 else waysN rs t
def fullN (rs : List Nat) (s : Sight) : Nat := match rs with
  | [] => 0
  | k :: r => if fitsB k s = true then waysN r (s.drop (k + 1)) else 0
theorem ways_cons (rs : List Nat) (x : Option Int) (t : Sight) : waysN rs (x :: t) = emptyN rs (x :: t) + fullN rs (x :: t) := by
  unfold waysN
  rw [layL_cons, List.length_append]
  congr 1
  · unfold emptyN
    show _ = if x = some 1 then 0 else waysN rs t
    split
    · rfl
    · rw [List.length_map]; rfl
  · cases rs with
    | nil => rfl
    | cons k r =>
      unfold fullN
      show (if fitsB k (x :: t) = true then (layL r (t.drop k)).map (fun c => runCells k (t.length + 1) ++ c) else []).length = if fitsB k (x :: t) = true then waysN r ((x :: t).drop (k + 1)) else 0
      split
      · rw [List.length_map]; rfl
      · rfl
/-- the table: row p, column d -/
def wayT (rs : List Nat) (s : Sight) (p d : Nat) : Int := (waysN (rs.drop d) (s.drop p) : Nat)
theorem drop_at {α : Type} {l : List α} {p : Nat} (h : p < l.length) : l.drop p = l[p] :: l.drop (p + 1) := List.drop_eq_getElem_cons h
theorem wayT_end (rs : List Nat) (s : Sight) {d : Nat} (hd : d ≤ rs.length) : wayT rs s s.length d = if d = rs.length then 1 else 0 := by
  unfold wayT
  rw [List.drop_length, ways_nil]
  by_cases h : d = rs.length
  · rw [if_pos h, h, List.drop_length, if_pos rfl]; rfl
  · rw [if_neg h, if_neg]
    · rfl
    · intro z
      have := congrArg List.length z
      rw [List.length_drop] at this
      simp at this
      omega
/-- what the program reckons at (p, d), from the rows behind p -/
def emptyT (T : Nat → Nat → Int) (s : Sight) (p d : Nat) : Int := if s[p]? = some (some 1) then 0 else T (p + 1) d
def fullT (T : Nat → Nat → Int) (rs : List Nat) (s : Sight) (p d : Nat) : Int :=
  if d = rs.length then 0 else if fitsB (rs.getD d 0) (s.drop p) = true then T (min (p + rs.getD d 0 + 1) s.length) (d + 1) else 0
theorem wayT_step (rs : List Nat) (s : Sight) {p d : Nat} (hp : p < s.length) (hd : d ≤ rs.length) : wayT rs s p d = emptyT (wayT rs s) s p d + fullT (wayT rs s) rs s p d := by
  have e1 := drop_at hp
  unfold wayT
  rw [e1, ways_cons, Int.natCast_add]
  congr 1
  · unfold emptyT emptyN
    rw [List.getElem?_eq_getElem hp]
    show ((if s[p] = some 1 then 0 else waysN (rs.drop d) (s.drop (p + 1)) : Nat) : Int) = if some s[p] = some (some 1) then 0 else ((waysN (rs.drop d) (s.drop (p + 1)) : Nat) : Int)
    by_cases h : s[p] = some 1
    · rw [if_pos h, if_pos (by rw [h])]; rfl
    · rw [if_neg h, if_neg (fun z => h (Option.some.inj z))]
  · unfold fullT
    by_cases h : d = rs.length
    · rw [if_pos h, h, List.drop_length]; rfl
    · rw [if_neg h]
      have hd' : d < rs.length := by omega
      rw [drop_at hd']
      unfold fullN
      have eg : rs.getD d 0 = rs[d] := by rw [List.getD_eq_getElem?_getD, List.getElem?_eq_getElem hd']; rfl
      rw [eg, ← e1]
      show ((if fitsB rs[d] (s.drop p) = true then waysN (rs.drop (d + 1)) ((s.drop p).drop (rs[d] + 1)) else 0 : Nat) : Int) = _
      split
      · show ((waysN (rs.drop (d + 1)) ((s.drop p).drop (rs[d] + 1)) : Nat) : Int) = ((waysN (rs.drop (d + 1)) (s.drop (min (p + rs[d] + 1) s.length)) : Nat) : Int)
        rw [List.drop_drop]
        congr 2
        by_cases hm : p + rs[d] + 1 ≤ s.length
        · rw [Nat.min_eq_left hm]
          congr 1
        · rw [Nat.min_eq_right (by omega), List.drop_length, List.drop_eq_nil_of_le (by omega)]
      · rfl

/-! ### sights and tables on the heap -/
open PySem L2
def vO : Option Int → V
  | none => .non
  | some i => .int i
def sightV (s : Sight) : List V := s.map vO
def runsV (rs : List Nat) : List V := rs.map fun k => V.int (k : Nat)
theorem sightV_get {s : Sight} {p : Nat} (h : p < s.length) : (sightV s)[p]? = some (vO s[p]) := by unfold sightV; rw [List.getElem?_map, List.getElem?_eq_getElem h]; rfl
theorem runsV_get {rs : List Nat} {d : Nat} (h : d < rs.length) : (runsV rs)[d]? = some (.int (rs.getD d 0 : Nat)) := by
  unfold runsV
  rw [List.getElem?_map, List.getElem?_eq_getElem h, List.getD_eq_getElem?_getD, List.getElem?_eq_getElem h]
  rfl
theorem vO_one {x : Option Int} : decide (vO x = V.int 1) = decide (x = some 1) := by
  cases x with
  | none => rfl
  | some i =>
    by_cases h : i = 1
    · subst h; rfl
    · rw [decide_eq_false (fun z => h (by cases z; rfl)), decide_eq_false (fun z => h (by cases z; rfl))]
theorem vO_scal {x : Option Int} {i : Int} : scal (vO x) (.int i) = true := by cases x <;> rfl
theorem vO_flat {x : Option Int} : flatV (vO x) = true := by cases x <;> rfl
theorem sight_flat (s : Sight) : (sightV s).all flatV = true := by
  rw [List.all_eq_true]
  intro v hv
  obtain ⟨x, _, rfl⟩ := List.mem_map.mp hv
  exact vO_flat
theorem sight_in0 (s : Sight) : inV (.int 0) (sightV s) = !(s.all fun x => decide (x ≠ some 0)) := by
  unfold inV sightV
  induction s with
  | nil => rfl
  | cons x t ih =>
    rw [List.map_cons, List.any_cons, ih, List.all_cons]
    have e : eqV (vO x) (.int 0) = !decide (x ≠ some 0) := by
      cases x with
      | none => rfl
      | some i =>
        show (i == 0) = _
        by_cases h : i = 0
        · subst h; rfl
        · have h1 : (i == 0) = false := beq_eq_false_iff_ne.mpr h
          have h2 : some i ≠ some (0 : Int) := fun z => h (by cases z; rfl)
          rw [h1]
          simp [h2]
    rw [e, Bool.not_and]
theorem cut_sight {s : Sight} {p k : Nat} (h : p + k ≤ s.length) : cutV (sightV s) (some (p : Int)) (some ((p : Int) + (k : Int))) = sightV ((s.drop p).take k) := by
  have e : (p : Int) + (k : Int) = ((p + k : Nat) : Int) := by omega
  unfold cutV
  rw [e, HT.sIx_nat, HT.sIx_nat]
  unfold sightV
  rw [List.length_map, Nat.min_eq_left h, Nat.min_eq_left (by omega : p ≤ s.length), show p + k - p = k by omega, List.map_take, List.map_drop]
def getT (tbl : List (List Int)) (p d : Nat) : Int := (tbl.getD p []).getD d 0
theorem tbl_get {H : Hp} {tbl : List (List Int)} {lw : Addr} (hd : IsD H (dRows tbl) (.ref lw)) {p : Nat} (hp : p < tbl.length) : ∃ vs b, H lw = some (.lst vs) ∧ vs[p]? = some (.ref b) ∧ H b = some (.lst ((tbl.getD p []).map V.int)) := by
  obtain ⟨vs, hv, hs⟩ := rows_inv hd
  have hl := rows_len hs
  have hp' : p < vs.length := by omega
  obtain ⟨xs, hx, hxd⟩ := rows_get hs (List.getElem?_eq_getElem hp')
  obtain ⟨b, eb, hb⟩ := row_inv hxd
  rw [getD_of hx]
  exact ⟨vs, b, hv, by rw [List.getElem?_eq_getElem hp', eb], hb⟩
theorem row_get {row : List Int} {d : Nat} (h : d < row.length) : (row.map V.int)[d]? = some (.int (row.getD d 0)) := by
  rw [List.getElem?_map, List.getElem?_eq_getElem h, List.getD_eq_getElem?_getD, List.getElem?_eq_getElem h]
  rfl
/-! a Counts stands at c -/
def cflds (tr ls lw : Addr) : List (Str × V) := putF "ways" (.ref lw) (putF "sight" (.ref ls) (putF "runs" (.ref tr) []))
theorem kSR : ¬ (("sight" : Str) = "runs") := by decide +kernel
theorem kWR : ¬ (("runs" : Str) = "ways") := by decide +kernel
theorem kWS : ¬ (("sight" : Str) = "ways") := by decide +kernel
theorem kRS : ¬ (("runs" : Str) = "sight") := by decide +kernel
theorem lk_ways (tr ls lw : Addr) : (cflds tr ls lw).lookup ("ways" : Str) = some (.ref lw) := by unfold cflds; rw [lookup_putF, if_pos rfl]
theorem lk_sight (tr ls lw : Addr) : (cflds tr ls lw).lookup ("sight" : Str) = some (.ref ls) := by unfold cflds; rw [lookup_putF, if_neg kWS, lookup_putF, if_pos rfl]
theorem lk_runs (tr ls lw : Addr) : (cflds tr ls lw).lookup ("runs" : Str) = some (.ref tr) := by unfold cflds; rw [lookup_putF, if_neg kWR, lookup_putF, if_neg kRS, lookup_putF, if_pos rfl]
theorem lk_no (tr ls lw : Addr) {m : Str} (h1 : ¬ m = "ways") (h2 : ¬ m = "sight") (h3 : ¬ m = "runs") : (cflds tr ls lw).lookup m = none := by unfold cflds; rw [lookup_putF, if_neg h1, lookup_putF, if_neg h2, lookup_putF, if_neg h3]; rfl
structure CP (C : Addr) (H : Hp) (c : Addr) (rs : List Nat) (s : Sight) (tbl : List (List Int)) : Prop where
  ex : ∃ dx tr ls lw, H c = some (.ins C dx (cflds tr ls lw)) ∧ H tr = some (.tup (runsV rs)) ∧ H ls = some (.lst (sightV s)) ∧ IsD H (dRows tbl) (.ref lw)
  len : tbl.length = s.length + 1
  wid : ∀ row ∈ tbl, row.length = rs.length + 1
theorem CP.mono {C : Addr} {H H' : Hp} {c : Addr} {rs : List Nat} {s : Sight} {tbl : List (List Int)} (p : CP C H c rs s tbl) (e : Same H H') : CP C H' c rs s tbl := by
  obtain ⟨dx, tr, ls, lw, h1, h2, h3, h4⟩ := p.ex
  exact ⟨⟨dx, tr, ls, lw, e _ _ h1, e _ _ h2, e _ _ h3, IsD.mono e h4⟩, p.len, p.wid⟩
theorem CP.row {C : Addr} {H : Hp} {c : Addr} {rs : List Nat} {s : Sight} {tbl : List (List Int)} (p : CP C H c rs s tbl) {i : Nat} (h : i ≤ s.length) : (tbl.getD i []).length = rs.length + 1 := by
  have hi : i < tbl.length := by have := p.len; omega
  rw [List.getD_eq_getElem?_getD, List.getElem?_eq_getElem hi]
  exact p.wid _ (List.getElem_mem hi)
/-- the whole table -/
def wholeT (rs : List Nat) (s : Sight) : List (List Int) := (List.range (s.length + 1)).map fun p => (List.range (rs.length + 1)).map fun d => wayT rs s p d
theorem getT_whole (rs : List Nat) (s : Sight) {p d : Nat} (hp : p ≤ s.length) (hd : d ≤ rs.length) : getT (wholeT rs s) p d = wayT rs s p d := by
  unfold getT wholeT
  rw [getD_of (x := (List.range (rs.length + 1)).map fun d => wayT rs s p d) (by rw [List.getElem?_map, List.getElem?_range (by omega)]; rfl)]
  rw [getD_of (x := wayT rs s p d) (by rw [List.getElem?_map, List.getElem?_range (by omega)]; rfl)]

theorem getT_set {tbl : List (List Int)} {p d p' d' : Nat} {v : Int} (hp : p < tbl.length) (hd : d < (tbl.getD p []).length) : getT (tbl.set p ((tbl.getD p []).set d v)) p' d' = if p' = p ∧ d' = d then v else getT tbl p' d' := by
  unfold getT
  by_cases h : p' = p
  · subst h
    have e : (tbl.set p' ((tbl.getD p' []).set d v)).getD p' [] = (tbl.getD p' []).set d v := getD_of (List.getElem?_set_self hp)
    rw [e]
    by_cases h2 : d' = d
    · subst h2
      rw [if_pos ⟨rfl, rfl⟩]
      exact getD_of (List.getElem?_set_self hd)
    · rw [if_neg (fun z => h2 z.2), List.getD_eq_getElem?_getD, List.getElem?_set_ne (Ne.symm h2), ← List.getD_eq_getElem?_getD]
  · rw [if_neg (fun z => h z.1)]
    congr 1
    rw [List.getD_eq_getElem?_getD, List.getElem?_set_ne (Ne.symm h), ← List.getD_eq_getElem?_getD]
theorem set_wid {tbl : List (List Int)} {p d n : Nat} {v : Int} (hp : p < tbl.length) (h : ∀ row ∈ tbl, row.length = n) : ∀ row ∈ tbl.set p ((tbl.getD p []).set d v), row.length = n := fun row hr => by
  rcases set_mem hr with z | z
  · rw [z, List.length_set, List.getD_eq_getElem?_getD, List.getElem?_eq_getElem hp]
    exact h _ (List.getElem_mem hp)
  · exact h row z
theorem emptyT_congr {T T' : Nat → Nat → Int} {s : Sight} {p d : Nat} (h : T (p + 1) d = T' (p + 1) d) : emptyT T s p d = emptyT T' s p d := by unfold emptyT; rw [h]
theorem fullT_congr {T T' : Nat → Nat → Int} {rs : List Nat} {s : Sight} {p d : Nat} (hd : d ≤ rs.length) (hp : p < s.length) (h : ∀ p' d', p + 1 ≤ p' → p' ≤ s.length → d' ≤ rs.length → T p' d' = T' p' d') : fullT T rs s p d = fullT T' rs s p d := by
  unfold fullT
  by_cases h1 : d = rs.length
  · rw [if_pos h1, if_pos h1]
  · rw [if_neg h1, if_neg h1]
    split
    · exact h _ _ (by omega) (Nat.min_le_right _ _) (by omega)
    · rfl
theorem whole_ext {rs : List Nat} {s : Sight} {tbl : List (List Int)} (h1 : tbl.length = s.length + 1) (h2 : ∀ row ∈ tbl, row.length = rs.length + 1) (h3 : ∀ p d, p ≤ s.length → d ≤ rs.length → getT tbl p d = wayT rs s p d) : tbl = wholeT rs s := by
  unfold wholeT
  apply List.ext_getElem
  · rw [h1, List.length_map, List.length_range]
  · intro p hp1 hp2
    rw [List.getElem_map, List.getElem_range]
    have hw := h2 _ (List.getElem_mem hp1)
    apply List.ext_getElem
    · rw [hw, List.length_map, List.length_range]
    · intro d hd1 hd2
      rw [List.getElem_map, List.getElem_range]
      have q := h3 p d (by omega) (by omega)
      unfold getT at q
      rw [getD_of (List.getElem?_eq_getElem hp1), getD_of (List.getElem?_eq_getElem hd1)] at q
      exact q
end Rp

namespace Rp
/-! ### the runs of a line, from its front -/
def runsR (acc : Int) : List Int → List Int
  | [] => if 0 < acc then [acc] else []
  | z :: r => if z = 1 then runsR (acc + 1) r else if 0 < acc then acc :: runsR 0 r else runsR 0 r
theorem runsR_fold : ∀ (ns : List Int) (l : List Int) (acc : Int), 0 ≤ acc →
    (if 0 < (ns.foldl stepR (l, acc)).2 then (ns.foldl stepR (l, acc)).1 ++ [(ns.foldl stepR (l, acc)).2] else (ns.foldl stepR (l, acc)).1) = l ++ runsR acc ns
  | [], l, acc, h => by
    rw [List.foldl_nil]
    unfold runsR
    split <;> simp
  | z :: r, l, acc, h => by
    rw [List.foldl_cons]
    have e : stepR (l, acc) z = if z = 1 then (l, acc + 1) else if 0 < acc then (l ++ [acc], 0) else (l, acc) := rfl
    rw [e]
    unfold runsR
    by_cases h1 : z = 1
    · rw [if_pos h1, if_pos h1]
      exact runsR_fold r l (acc + 1) (by omega)
    · rw [if_neg h1, if_neg h1]
      by_cases h2 : 0 < acc
      · rw [if_pos h2, if_pos h2, runsR_fold r (l ++ [acc]) 0 (by omega)]
        simp
      · rw [if_neg h2, if_neg h2]
        have h3 : acc = 0 := by omega
        subst h3
        exact runsR_fold r l 0 (by omega)
theorem runsZ_R (ns : List Int) : runsZ ns = runsR 0 ns := by
  have := runsR_fold ns [] 0 (by omega)
  unfold runsZ foldR
  rw [this]
  rfl
theorem runsR_ones : ∀ (k : Nat) (acc : Int) (r : List Int), runsR acc (List.replicate k 1 ++ r) = runsR (acc + k) r
  | 0, acc, r => by simp
  | k + 1, acc, r => by
    rw [List.replicate_succ, List.cons_append]
    show runsR (acc + 1) _ = _
    rw [runsR_ones k (acc + 1) r]
    congr 1
    omega
theorem runsZ_zero (c : List Int) : runsZ (0 :: c) = runsZ c := by rw [runsZ_R, runsZ_R]; rfl
theorem runsZ_run {k : Nat} (hk : 1 ≤ k) (c : List Int) : runsZ (List.replicate k 1 ++ 0 :: c) = (k : Int) :: runsZ c := by
  rw [runsZ_R, runsR_ones, runsZ_R]
  show (if (0 : Int) = 1 then _ else if 0 < (0 : Int) + k then ((0 : Int) + k) :: runsR 0 c else _) = _
  rw [if_neg (by decide), if_pos (by omega), Int.zero_add]
theorem runsZ_runE {k : Nat} (hk : 1 ≤ k) : runsZ (List.replicate k 1) = [(k : Int)] := by
  have := runsR_ones k 0 []
  rw [List.append_nil] at this
  rw [runsZ_R, this]
  show (if 0 < (0 : Int) + k then [(0 : Int) + k] else []) = _
  rw [if_pos (by omega), Int.zero_add]
/-! ### what is kept of a sight -/
def keepsB : Sight → List Int → Bool
  | x :: s, z :: c => (decide (x = none) || decide (x = some z)) && keepsB s c
  | _, _ => true
def bitsP (c : List Int) : Prop := ∀ z ∈ c, z = 0 ∨ z = 1
def sightP (s : Sight) : Prop := ∀ x ∈ s, x = none ∨ x = some 0 ∨ x = some 1
theorem keeps_ones : ∀ (k : Nat) (s : Sight) (c : List Int), k ≤ s.length → sightP s → keepsB s (List.replicate k 1 ++ c) = ((s.take k).all (fun x => decide (x ≠ some 0)) && keepsB (s.drop k) c)
  | 0, s, c, h, p => by simp
  | k + 1, [], c, h, p => by simp at h
  | k + 1, x :: s, c, h, p => by
    rw [List.replicate_succ, List.cons_append, List.take_succ_cons, List.drop_succ_cons, List.all_cons]
    show ((decide (x = none) || decide (x = some 1)) && keepsB s _) = _
    rw [keeps_ones k s c (by simpa using h) (fun y hy => p y (List.mem_cons_of_mem _ hy)), Bool.and_assoc]
    congr 1
    rcases p x (List.mem_cons_self ..) with e | e | e <;> subst e <;> decide
theorem keeps_zero (x : Option Int) (s : Sight) (c : List Int) (p : x = none ∨ x = some 0 ∨ x = some 1) : keepsB (x :: s) (0 :: c) = (decide (x ≠ some 1) && keepsB s c) := by
  show ((decide (x = none) || decide (x = some 0)) && keepsB s _) = _
  congr 1
  rcases p with e | e | e <;> subst e <;> decide
/-- a line of bits that begins with a full cell begins with a run -/
theorem split_run : ∀ (c : List Int), bitsP c → ∃ k r, c = List.replicate k 1 ++ r ∧ (r = [] ∨ ∃ r', r = 0 :: r')
  | [], _ => ⟨0, [], rfl, .inl rfl⟩
  | z :: c, h => by
    rcases h z (List.mem_cons_self ..) with e | e
    · subst e
      exact ⟨0, 0 :: c, rfl, .inr ⟨c, rfl⟩⟩
    · subst e
      obtain ⟨k, r, e, hr⟩ := split_run c fun y hy => h y (List.mem_cons_of_mem _ hy)
      exact ⟨k + 1, r, by rw [e, List.replicate_succ, List.cons_append], hr⟩
def runsI (rs : List Nat) : List Int := rs.map fun (k : Nat) => (k : Int)
theorem runsI_inj : ∀ {a b : List Nat}, runsI a = runsI b → a = b
  | [], [], _ => rfl
  | [], _ :: _, h => by simp [runsI] at h
  | _ :: _, [], h => by simp [runsI] at h
  | x :: a, y :: b, h => by
    unfold runsI at h
    rw [List.map_cons, List.map_cons] at h
    injection h with h1 h2
    rw [runsI_inj h2, Int.ofNat.inj h1]
theorem fitsB_iff {k : Nat} {s : Sight} : fitsB k s = true ↔ k ≤ s.length ∧ (s.take k).all (fun x => decide (x ≠ some 0)) = true ∧ (k = s.length ∨ s[k]? ≠ some (some 1)) := by
  unfold fitsB
  rw [Bool.and_eq_true, Bool.and_eq_true, Bool.or_eq_true, decide_eq_true_eq, decide_eq_true_eq, decide_eq_true_eq, and_assoc]
def layF (rs : List Nat) (s : Sight) : List (List Int) := match rs with
  | [] => []
  | k :: rs' => if fitsB k s = true then (layL rs' (s.drop (k + 1))).map (fun c => runCells k s.length ++ c) else []
def layE (rs : List Nat) (s : Sight) : List (List Int) := match s with
  | [] => []
  | x :: t => if x = some 1 then [] else (layL rs t).map (fun c => 0 :: c)
theorem layL_parts (rs : List Nat) (x : Option Int) (t : Sight) : layL rs (x :: t) = layE rs (x :: t) ++ layF rs (x :: t) := by
  rw [layL_cons]
  congr 1
/-- just the layings stand in the list -/
theorem mem_lay : ∀ (n : Nat) (rs : List Nat) (s : Sight) (c : List Int), s.length = n → (∀ k ∈ rs, 1 ≤ k) → sightP s → bitsP c → (c ∈ layL rs s ↔ c.length = s.length ∧ runsZ c = runsI rs ∧ keepsB s c = true) := by
  intro n
  induction n using Nat.strongRecOn with
  | _ n ih =>
    intro rs s c hn hr hs hc
    cases s with
    | nil =>
      rw [layL_nil]
      constructor
      · intro h
        split at h
        · rename_i e
          have hc0 : c = [] := by simpa using h
          subst e hc0
          exact ⟨rfl, rfl, rfl⟩
        · simp at h
      · rintro ⟨h1, h2, _⟩
        have hc0 : c = [] := List.length_eq_zero_iff.mp (by simpa using h1)
        subst hc0
        have : rs = [] := by
          cases rs with
          | nil => rfl
          | cons k r => simp [runsI, runsZ, foldR] at h2
        rw [if_pos this]
        simp
    | cons x t =>
      have hst : sightP t := fun y hy => hs y (List.mem_cons_of_mem _ hy)
      have hx := hs x (List.mem_cons_self ..)
      have hnt : t.length < n := by rw [← hn]; simp
      rw [layL_parts, List.mem_append]
      obtain ⟨k, r, e, hrr⟩ := split_run c hc
      have hE : c ∈ layE rs (x :: t) ↔ ∃ c', c = 0 :: c' ∧ x ≠ some 1 ∧ c' ∈ layL rs t := by
        unfold layE
        show c ∈ (if x = some 1 then [] else (layL rs t).map (fun c => (0 : Int) :: c)) ↔ _
        split
        · rename_i h1
          simp [h1]
        · rename_i h1
          rw [List.mem_map]
          constructor
          · rintro ⟨c', h2, rfl⟩
            exact ⟨c', rfl, h1, h2⟩
          · rintro ⟨c', rfl, _, h2⟩
            exact ⟨c', h2, rfl⟩
      have hF : c ∈ layF rs (x :: t) ↔ ∃ k rs' c', rs = k :: rs' ∧ fitsB k (x :: t) = true ∧ c = runCells k (t.length + 1) ++ c' ∧ c' ∈ layL rs' (t.drop k) := by
        unfold layF
        cases rs with
        | nil => simp
        | cons k rs' =>
          show c ∈ (if fitsB k (x :: t) = true then (layL rs' (t.drop k)).map (fun c => runCells k (t.length + 1) ++ c) else []) ↔ _
          split
          · rename_i h1
            rw [List.mem_map]
            constructor
            · rintro ⟨c', h2, rfl⟩
              exact ⟨k, rs', c', rfl, h1, rfl, h2⟩
            · rintro ⟨k', rs'', c', e1, _, e2, h2⟩
              injection e1 with e3 e4
              subst e3 e4
              exact ⟨c', h2, e2.symm⟩
          · rename_i h1
            constructor
            · intro z; simp at z
            · rintro ⟨k', rs'', c', e1, h2, _⟩
              injection e1 with e3 e4
              subst e3
              exact absurd h2 h1
      rw [hE, hF]
      cases k with
      | zero =>
        -- an empty cell first (or nothing)
        rw [List.replicate_zero, List.nil_append] at e
        subst e
        have noF : ∀ k' (rs' : List Nat) c', rs = k' :: rs' → c ≠ runCells k' (t.length + 1) ++ c' := fun k' rs' c' e1 e2 => by
          have hk := hr k' (by rw [e1]; simp)
          obtain ⟨j, rfl⟩ : ∃ j, k' = j + 1 := ⟨k' - 1, by omega⟩
          unfold runCells at e2
          rw [List.replicate_succ, List.cons_append, List.cons_append] at e2
          rcases hrr with z | ⟨c0, z⟩
          · rw [z] at e2; cases e2
          · rw [z] at e2; injection e2 with e3 e4; exact absurd e3 (by decide)
        constructor
        · rintro (⟨c', rfl, h1, h2⟩ | ⟨k', rs', c', e1, _, e2, _⟩)
          · have hc' : bitsP c' := fun y hy => hc y (List.mem_cons_of_mem _ hy)
            obtain ⟨q1, q2, q3⟩ := (ih t.length hnt rs t c' rfl hr hst hc').mp h2
            exact ⟨by simp [q1], by rw [runsZ_zero]; exact q2, by rw [keeps_zero x t c' hx, decide_eq_true h1, q3]; rfl⟩
          · exact absurd e2 (noF k' rs' c' e1)
        · rintro ⟨h1, h2, h3⟩
          rcases hrr with z | ⟨c', z⟩
          · rw [z] at h1; simp at h1
          · subst z
            have hc' : bitsP c' := fun y hy => hc y (List.mem_cons_of_mem _ hy)
            rw [keeps_zero x t c' hx, Bool.and_eq_true, decide_eq_true_eq] at h3
            exact .inl ⟨c', rfl, h3.1, (ih t.length hnt rs t c' rfl hr hst hc').mpr ⟨by simpa using h1, by rw [← runsZ_zero]; exact h2, h3.2⟩⟩
      | succ j =>
        have noE : ∀ c', c ≠ 0 :: c' := fun c' e2 => by
          rw [e, List.replicate_succ, List.cons_append] at e2
          injection e2 with e3 e4
          exact absurd e3 (by decide)
        constructor
        · rintro (⟨c', e1, _⟩ | ⟨k', rs', c', e1, hf, e2, h2⟩)
          · exact absurd e1 (noE c')
          · obtain ⟨f1, f2, f3⟩ := fitsB_iff.mp hf
            have hk := hr k' (by rw [e1]; simp)
            have hr' : ∀ k ∈ rs', 1 ≤ k := fun k hk => hr k (by rw [e1]; exact List.mem_cons_of_mem _ hk)
            have hc' : bitsP c' := fun y hy => hc y (by rw [e2]; exact List.mem_append_right _ hy)
            have hs' : sightP (t.drop k') := fun y hy => hst y (List.mem_of_mem_drop hy)
            have hlt : (t.drop k').length < n := by rw [List.length_drop]; omega
            obtain ⟨q1, q2, q3⟩ := (ih _ hlt rs' (t.drop k') c' rfl hr' hs' hc').mp h2
            rw [List.length_drop] at q1
            have f1' : k' ≤ t.length + 1 := by simpa using f1
            by_cases hkn : k' < t.length + 1
            · have e3 : c = List.replicate k' 1 ++ 0 :: c' := by
                rw [e2]; unfold runCells; rw [if_pos hkn]; simp
              have hd : (x :: t).drop k' = (x :: t)[k'] :: t.drop k' := by rw [drop_at (by simpa using hkn), List.drop_succ_cons]
              refine ⟨by rw [e3]; simp [q1]; omega, by rw [e3, runsZ_run hk, q2, e1]; rfl, ?_⟩
              rw [e3, keeps_ones k' (x :: t) _ f1 hs, f2, hd, keeps_zero _ _ _ (hs _ (List.getElem_mem _)), q3]
              have : (x :: t)[k'] ≠ some 1 := fun z => by
                rcases f3 with w | w
                · simp at w; omega
                · rw [List.getElem?_eq_getElem (by simpa using hkn), z] at w; exact w rfl
              rw [decide_eq_true this]
              rfl
            · have hkn' : k' = t.length + 1 := by omega
              have hc0 : c' = [] := List.length_eq_zero_iff.mp (by omega)
              have e3 : c = List.replicate k' 1 := by
                rw [e2, hc0]; unfold runCells; rw [if_neg hkn]; simp
              have hrs : rs' = [] := by
                rw [hc0] at q2
                cases rs' with
                | nil => rfl
                | cons k r => simp [runsI, runsZ, foldR] at q2
              refine ⟨by rw [e3]; simp [hkn'], by rw [e3, runsZ_runE hk, e1, hrs]; rfl, ?_⟩
              have := keeps_ones k' (x :: t) [] f1 hs
              rw [List.append_nil] at this
              rw [e3, this, f2, hkn']
              simp [keepsB]
        · rintro ⟨h1, h2, h3⟩
          right
          rw [e, List.length_append, List.length_replicate] at h1
          have hjl : j + 1 ≤ (x :: t).length := by omega
          rw [e, keeps_ones (j + 1) (x :: t) r hjl hs, Bool.and_eq_true] at h3
          rcases hrr with z | ⟨c', z⟩
          · subst z
            have hjn : j + 1 = t.length + 1 := by simpa using h1
            rw [e, List.append_nil, runsZ_runE (by omega)] at h2
            have e1 : rs = [j + 1] := runsI_inj (by rw [← h2]; rfl)
            refine ⟨j + 1, [], [], e1, fitsB_iff.mpr ⟨hjl, h3.1, .inl (by simpa using hjn)⟩, ?_, ?_⟩
            · rw [e]; unfold runCells; rw [if_neg (by omega)]; simp
            · rw [List.drop_eq_nil_of_le (by omega), layL_nil, if_pos rfl]; simp
          · subst z
            have hjn : j + 1 < t.length + 1 := by simp at h1; omega
            rw [e, runsZ_run (by omega)] at h2
            cases rs with
            | nil => simp [runsI] at h2
            | cons k rs' =>
              have h2' : ((j + 1 : Nat) : Int) :: runsZ c' = (k : Int) :: runsI rs' := h2
              injection h2' with h4 h5
              have hk : j + 1 = k := by omega
              subst hk
              have hd : (x :: t).drop (j + 1) = (x :: t)[j + 1] :: t.drop (j + 1) := by rw [drop_at (by simpa using hjn), List.drop_succ_cons]
              rw [hd, keeps_zero _ _ _ (hs _ (List.getElem_mem _)), Bool.and_eq_true, decide_eq_true_eq] at h3
              have hc' : bitsP c' := fun y hy => hc y (by rw [e]; exact List.mem_append_right _ (List.mem_cons_of_mem _ hy))
              have hs' : sightP (t.drop (j + 1)) := fun y hy => hst y (List.mem_of_mem_drop hy)
              have hlt : (t.drop (j + 1)).length < n := by rw [List.length_drop]; omega
              refine ⟨j + 1, rs', c', rfl, fitsB_iff.mpr ⟨hjl, h3.1, .inr ?_⟩, ?_, (ih _ hlt rs' _ c' rfl (fun k hk => hr k (List.mem_cons_of_mem _ hk)) hs' hc').mpr ⟨?_, h5, h3.2.2⟩⟩
              · rw [List.getElem?_eq_getElem (by simpa using hjn)]
                exact fun z => h3.2.1 (Option.some.inj z)
              · rw [e]; unfold runCells; rw [if_pos hjn]; simp
              · rw [List.length_drop]; simp at h1; omega
theorem layE_bits {rs : List Nat} {x : Option Int} {t : Sight} {c : List Int} (h : c ∈ layE rs (x :: t)) : ∃ c', c = 0 :: c' ∧ x ≠ some 1 ∧ c' ∈ layL rs t := by
  unfold layE at h
  have h' : c ∈ (if x = some 1 then [] else (layL rs t).map (fun c => (0 : Int) :: c)) := h
  split at h'
  · simp at h'
  · rename_i h1
    obtain ⟨c', h2, rfl⟩ := List.mem_map.mp h'
    exact ⟨c', rfl, h1, h2⟩
theorem layF_bits {rs : List Nat} {s : Sight} {c : List Int} (h : c ∈ layF rs s) : ∃ k rs' c', rs = k :: rs' ∧ fitsB k s = true ∧ c = runCells k s.length ++ c' ∧ c' ∈ layL rs' (s.drop (k + 1)) := by
  unfold layF at h
  cases rs with
  | nil => simp at h
  | cons k rs' =>
    have h' : c ∈ (if fitsB k s = true then (layL rs' (s.drop (k + 1))).map (fun c => runCells k s.length ++ c) else []) := h
    split at h'
    · rename_i h1
      obtain ⟨c', h2, rfl⟩ := List.mem_map.mp h'
      exact ⟨k, rs', c', rfl, h1, rfl, h2⟩
    · simp at h'
theorem runCells_bits (k n : Nat) : bitsP (runCells k n) := fun z hz => by
  unfold runCells at hz
  rcases List.mem_append.mp hz with h | h
  · exact .inr (List.eq_of_mem_replicate h)
  · split at h
    · exact .inl (by simpa using h)
    · simp at h
theorem lay_bits : ∀ (n : Nat) (rs : List Nat) (s : Sight) (c : List Int), s.length = n → c ∈ layL rs s → bitsP c := by
  intro n
  induction n using Nat.strongRecOn with
  | _ n ih =>
    intro rs s c hn h
    cases s with
    | nil =>
      rw [layL_nil] at h
      split at h
      · have : c = [] := by simpa using h
        subst this
        intro z hz; simp at hz
      · simp at h
    | cons x t =>
      rw [layL_parts] at h
      rcases List.mem_append.mp h with h | h
      · obtain ⟨c', rfl, _, h2⟩ := layE_bits h
        intro z hz
        rcases List.mem_cons.mp hz with e | e
        · exact .inl e
        · exact ih t.length (by rw [← hn]; simp) rs t c' rfl h2 z e
      · obtain ⟨k, rs', c', _, _, rfl, h2⟩ := layF_bits h
        intro z hz
        rcases List.mem_append.mp hz with e | e
        · exact runCells_bits k _ z e
        · exact ih _ (by rw [← hn, List.length_drop]; simp; omega) rs' _ c' rfl h2 z e
/-- what a laying of the list is -/
theorem lay_sound {rs : List Nat} {s : Sight} {c : List Int} (hr : ∀ k ∈ rs, 1 ≤ k) (hs : sightP s) (h : c ∈ layL rs s) : c.length = s.length ∧ runsZ c = runsI rs ∧ keepsB s c = true :=
  (mem_lay _ rs s c rfl hr hs (lay_bits _ rs s c rfl h)).mp h
/-! ### in order -/
open L2 in
theorem lexLt_pre : ∀ (p a b : List Int), HT.lexLt (p ++ a) (p ++ b) = HT.lexLt a b
  | [], a, b => rfl
  | x :: p, a, b => by
    rw [List.cons_append, List.cons_append, HT.lexLt_cons, if_pos rfl]
    exact lexLt_pre p a b
open L2 in
theorem lay_sorted : ∀ (n : Nat) (rs : List Nat) (s : Sight), s.length = n → (∀ k ∈ rs, 1 ≤ k) → (layL rs s).Pairwise (fun a b => HT.lexLt a b = true) := by
  intro n
  induction n using Nat.strongRecOn with
  | _ n ih =>
    intro rs s hn hr
    cases s with
    | nil =>
      rw [layL_nil]
      split
      · exact List.pairwise_singleton _ _
      · exact List.Pairwise.nil
    | cons x t =>
      rw [layL_parts, List.pairwise_append]
      refine ⟨?_, ?_, ?_⟩
      · show (if x = some 1 then [] else (layL rs t).map (fun c => (0 : Int) :: c)).Pairwise _
        split
        · exact List.Pairwise.nil
        · rw [List.pairwise_map]
          refine (ih t.length (by rw [← hn]; simp) rs t rfl hr).imp fun {a b} h => ?_
          rw [HT.lexLt_cons, if_pos rfl]
          exact h
      · unfold layF
        cases rs with
        | nil => exact List.Pairwise.nil
        | cons k rs' =>
          show (if fitsB k (x :: t) = true then (layL rs' ((x :: t).drop (k + 1))).map (fun c => runCells k (x :: t).length ++ c) else []).Pairwise _
          split
          · rw [List.pairwise_map]
            refine (ih _ (by rw [← hn, List.length_drop]; simp; omega) rs' _ rfl (fun k hk => hr k (List.mem_cons_of_mem _ hk))).imp fun {a b} h => ?_
            rw [lexLt_pre]
            exact h
          · exact List.Pairwise.nil
      · intro a ha b hb
        obtain ⟨a', rfl, _⟩ := layE_bits ha
        obtain ⟨k, rs', b', e, _, rfl, _⟩ := layF_bits hb
        have hk := hr k (by rw [e]; simp)
        obtain ⟨j, rfl⟩ : ∃ j, k = j + 1 := ⟨k - 1, by omega⟩
        unfold runCells
        rw [List.replicate_succ, List.cons_append, List.cons_append, HT.lexLt_cons, if_neg (by decide)]
        rfl
/-! ### one step through the list -/
theorem emptyT_nat (rs : List Nat) (s : Sight) {p d : Nat} (hp : p < s.length) : emptyT (wayT rs s) s p d = ((layE (rs.drop d) (s.drop p)).length : Nat) := by
  unfold emptyT
  rw [List.getElem?_eq_getElem hp, drop_at hp]
  unfold layE
  show _ = (((if s[p] = some 1 then [] else (layL (rs.drop d) (s.drop (p + 1))).map (fun c => (0 : Int) :: c)) : List (List Int)).length : Int)
  by_cases h : s[p] = some 1
  · rw [if_pos (by rw [h]), if_pos h]; rfl
  · rw [if_neg (fun z => h (Option.some.inj z)), if_neg h, List.length_map]; rfl
theorem drop_min (s : Sight) (p : Nat) : s.drop (min p s.length) = s.drop p := by
  by_cases h : p ≤ s.length
  · rw [Nat.min_eq_left h]
  · rw [Nat.min_eq_right (by omega), List.drop_length, List.drop_eq_nil_of_le (by omega)]
theorem lay_step {rs : List Nat} {s : Sight} {p d a : Nat} {c : List Int} (hp : p < s.length) (h : (layL (rs.drop d) (s.drop p))[a]? = some c) :
    ∃ m : Nat, emptyT (wayT rs s) s p d = (m : Int) ∧
     ((a < m ∧ ∃ c', c = 0 :: c' ∧ (layL (rs.drop d) (s.drop (p + 1)))[a]? = some c') ∨
      (m ≤ a ∧ d < rs.length ∧ fitsB (rs.getD d 0) (s.drop p) = true ∧ ∃ c', c = runCells (rs.getD d 0) (s.length - p) ++ c' ∧ (layL (rs.drop (d + 1)) (s.drop (min (p + rs.getD d 0 + 1) s.length)))[a - m]? = some c')) := by
  refine ⟨_, emptyT_nat rs s hp, ?_⟩
  generalize hE : layE (rs.drop d) (s.drop p) = El
  have hh : El[a]? = some c ∧ a < El.length ∨ El.length ≤ a ∧ (layF (rs.drop d) (s.drop p))[a - El.length]? = some c := by
    rw [drop_at hp, layL_parts, ← drop_at hp, hE] at h
    by_cases ha : a < El.length
    · rw [List.getElem?_append_left ha] at h
      exact .inl ⟨h, ha⟩
    · rw [List.getElem?_append_right (by omega)] at h
      exact .inr ⟨by omega, h⟩
  rcases hh with ⟨h1, h2⟩ | ⟨h1, h2⟩
  · refine .inl ⟨h2, ?_⟩
    rw [← hE, drop_at hp] at h1
    have h3 : (if s[p] = some 1 then [] else (layL (rs.drop d) (s.drop (p + 1))).map (fun c => (0 : Int) :: c))[a]? = some c := h1
    split at h3
    · simp at h3
    · rw [List.getElem?_map] at h3
      cases q : (layL (rs.drop d) (s.drop (p + 1)))[a]? with
      | none => rw [q] at h3; cases h3
      | some c' => rw [q] at h3; exact ⟨c', (Option.some.inj h3).symm, rfl⟩
  · by_cases hd : d < rs.length
    · have eg : rs.getD d 0 = rs[d] := by rw [List.getD_eq_getElem?_getD, List.getElem?_eq_getElem hd]; rfl
      unfold layF at h2
      rw [drop_at hd] at h2
      have h3 : (if fitsB rs[d] (s.drop p) = true then (layL (rs.drop (d + 1)) ((s.drop p).drop (rs[d] + 1))).map (fun c => runCells rs[d] (s.drop p).length ++ c) else [])[a - El.length]? = some c := h2
      split at h3
      · rename_i hf
        rw [List.getElem?_map, List.drop_drop, List.length_drop] at h3
        rw [eg, drop_min]
        refine .inr ⟨h1, hd, hf, ?_⟩
        rw [show p + (rs[d] + 1) = p + rs[d] + 1 by omega] at h3
        cases q : (layL (rs.drop (d + 1)) (s.drop (p + rs[d] + 1)))[a - El.length]? with
        | none => rw [q] at h3; cases h3
        | some c' => rw [q] at h3; exact ⟨c', (Option.some.inj h3).symm, rfl⟩
      · simp at h3
    · rw [List.drop_eq_nil_of_le (by omega : rs.length ≤ d)] at h2
      simp [layF] at h2
theorem runCells_len {k n : Nat} (h : k ≤ n) : (runCells k n).length = min (k + 1) n := by
  unfold runCells
  rw [List.length_append, List.length_replicate]
  split
  · simp; omega
  · simp; omega
end Rp

/-! ### all lines of a length, in order; the layings are those that fit -/
namespace Rp
open PySem L2
theorem lexLt_irrefl : ∀ a : List Int, HT.lexLt a a = false
  | [] => HT.lexLt_nil_nil
  | x :: r => by rw [HT.lexLt_cons, if_pos rfl]; exact lexLt_irrefl r
theorem lexLt_asymm : ∀ a b : List Int, HT.lexLt a b = true → HT.lexLt b a = false
  | [], [], h => by rw [HT.lexLt_nil_nil]
  | [], y :: s, h => by rw [HT.lexLt_cons_nil]
  | x :: r, [], h => by rw [HT.lexLt_cons_nil] at h; cases h
  | x :: r, y :: s, h => by
    rw [HT.lexLt_cons] at h ⊢
    by_cases e : x = y
    · rw [if_pos e] at h
      rw [if_pos e.symm]
      exact lexLt_asymm r s h
    · rw [if_neg e] at h
      rw [if_neg (Ne.symm e)]
      have := of_decide_eq_true h
      exact decide_eq_false (by omega)
theorem sorted_eq : ∀ {l1 l2 : List (List Int)}, l1.Pairwise (fun a b => HT.lexLt a b = true) → l2.Pairwise (fun a b => HT.lexLt a b = true) → (∀ c, c ∈ l1 ↔ c ∈ l2) → l1 = l2
  | [], [], _, _, _ => rfl
  | [], b :: l2, _, _, h => by have := (h b).mpr (List.mem_cons_self ..); cases this
  | a :: l1, [], _, _, h => by have := (h a).mp (List.mem_cons_self ..); cases this
  | a :: l1, b :: l2, p1, p2, h => by
    rw [List.pairwise_cons] at p1 p2
    have hab : a = b := by
      rcases List.mem_cons.mp ((h a).mp (List.mem_cons_self ..)) with e | e
      · exact e
      · rcases List.mem_cons.mp ((h b).mpr (List.mem_cons_self ..)) with e' | e'
        · exact e'.symm
        · have q1 := p2.1 a e
          have q2 := p1.1 b e'
          rw [lexLt_asymm _ _ q1] at q2
          cases q2
    subst hab
    have ht : ∀ c, c ∈ l1 ↔ c ∈ l2 := fun c => by
      constructor
      · intro hc
        rcases List.mem_cons.mp ((h c).mp (List.mem_cons_of_mem _ hc)) with e | e
        · have := p1.1 c hc
          rw [e, lexLt_irrefl] at this
          cases this
        · exact e
      · intro hc
        rcases List.mem_cons.mp ((h c).mpr (List.mem_cons_of_mem _ hc)) with e | e
        · have := p2.1 c hc
          rw [e, lexLt_irrefl] at this
          cases this
        · exact e
    rw [sorted_eq p1.2 p2.2 ht]
def allBits : Nat → List (List Int)
  | 0 => [[]]
  | n + 1 => (allBits n).map (fun c => 0 :: c) ++ (allBits n).map (fun c => 1 :: c)
theorem allBits_len : ∀ n, (allBits n).length = 2 ^ n
  | 0 => rfl
  | n + 1 => by unfold allBits; rw [List.length_append, List.length_map, List.length_map, allBits_len n, Nat.pow_succ]; omega
theorem mem_allBits : ∀ (n : Nat) (c : List Int), c ∈ allBits n ↔ c.length = n ∧ bitsP c
  | 0, c => by
    unfold allBits
    rw [List.mem_singleton]
    constructor
    · rintro rfl; exact ⟨rfl, fun z hz => by cases hz⟩
    · rintro ⟨h, _⟩; exact List.length_eq_zero_iff.mp h
  | n + 1, c => by
    unfold allBits
    rw [List.mem_append, List.mem_map, List.mem_map]
    constructor
    · rintro (⟨d, hd, rfl⟩ | ⟨d, hd, rfl⟩)
      · obtain ⟨h1, h2⟩ := (mem_allBits n d).mp hd
        refine ⟨by rw [List.length_cons, h1], fun z hz => ?_⟩
        rcases List.mem_cons.mp hz with e | e
        · exact .inl e
        · exact h2 z e
      · obtain ⟨h1, h2⟩ := (mem_allBits n d).mp hd
        refine ⟨by rw [List.length_cons, h1], fun z hz => ?_⟩
        rcases List.mem_cons.mp hz with e | e
        · exact .inr e
        · exact h2 z e
    · rintro ⟨h1, h2⟩
      match c, h1, h2 with
      | z :: d, h1, h2 =>
        have hd : d ∈ allBits n := (mem_allBits n d).mpr ⟨by simpa using h1, fun y hy => h2 y (List.mem_cons_of_mem _ hy)⟩
        rcases h2 z (List.mem_cons_self ..) with e | e
        · exact .inl ⟨d, hd, by rw [e]⟩
        · exact .inr ⟨d, hd, by rw [e]⟩
theorem allBits_sorted : ∀ n, (allBits n).Pairwise (fun a b => HT.lexLt a b = true)
  | 0 => by unfold allBits; exact List.pairwise_singleton ..
  | n + 1 => by
    unfold allBits
    rw [List.pairwise_append]
    refine ⟨?_, ?_, ?_⟩
    · rw [List.pairwise_map]
      refine (allBits_sorted n).imp fun {a b} h => ?_
      rw [HT.lexLt_cons, if_pos rfl]
      exact h
    · rw [List.pairwise_map]
      refine (allBits_sorted n).imp fun {a b} h => ?_
      rw [HT.lexLt_cons, if_pos rfl]
      exact h
    · intro a ha b hb
      obtain ⟨a', _, rfl⟩ := List.mem_map.mp ha
      obtain ⟨b', _, rfl⟩ := List.mem_map.mp hb
      rw [HT.lexLt_cons, if_neg (by decide)]
      rfl
def fitB (rs : List Nat) (s : Sight) (c : List Int) : Bool := keepsB s c && decide (runsZ c = runsI rs)
theorem fit_lay {rs : List Nat} {s : Sight} (hr : ∀ k ∈ rs, 1 ≤ k) (hs : sightP s) : (allBits s.length).filter (fitB rs s) = layL rs s := by
  refine sorted_eq ((allBits_sorted _).filter _) (lay_sorted _ rs s rfl hr) fun c => ?_
  rw [List.mem_filter, mem_allBits]
  unfold fitB
  rw [Bool.and_eq_true, decide_eq_true_eq]
  constructor
  · rintro ⟨⟨h1, h2⟩, h3, h4⟩
    exact (mem_lay _ rs s c rfl hr hs h2).mpr ⟨h1, h4, h3⟩
  · intro h
    have hb := lay_bits _ rs s c rfl h
    obtain ⟨h1, h2, h3⟩ := (mem_lay _ rs s c rfl hr hs hb).mp h
    exact ⟨⟨h1, hb⟩, h3, h2⟩
end Rp

/-! ### layings in a sight of which nothing is told -/
namespace Rp
open PySem L2
def blank (n : Nat) : Sight := List.replicate n none
theorem blank_len (n : Nat) : (blank n).length = n := by unfold blank; simp
theorem blank_drop (n j : Nat) : (blank n).drop j = blank (n - j) := by unfold blank; rw [List.drop_replicate]
theorem blank_succ (n : Nat) : blank (n + 1) = none :: blank n := rfl
theorem blank_P (n : Nat) : sightP (blank n) := fun x hx => .inl (by unfold blank at hx; exact (List.mem_replicate.mp hx).2)
theorem blank_fits (k n : Nat) : fitsB k (blank n) = decide (k ≤ n) := by
  rw [Bool.eq_iff_iff, fitsB_iff, decide_eq_true_eq, blank_len]
  constructor
  · exact fun h => h.1
  · intro h
    refine ⟨h, ?_, ?_⟩
    · rw [List.all_eq_true]
      intro x hx
      have := List.mem_of_mem_take hx
      unfold blank at this
      rw [(List.mem_replicate.mp this).2]
      rfl
    · by_cases e : k = n
      · exact .inl e
      · refine .inr ?_
        unfold blank
        rw [List.getElem?_replicate, if_pos (by omega)]
        exact fun z => by cases z
theorem lay_blank0 (rs : List Nat) : layL rs (blank 0) = if rs = [] then [[]] else [] := layL_nil rs
theorem lay_blankE (n : Nat) : layL [] (blank (n + 1)) = (layL [] (blank n)).map (fun c => 0 :: c) := by
  rw [blank_succ, layL_parts]
  show (if (none : Option Int) = some 1 then [] else (layL [] (blank n)).map (fun c => (0 : Int) :: c)) ++ [] = _
  rw [if_neg (by intro z; cases z), List.append_nil]
theorem lay_blank (k : Nat) (rs : List Nat) (n : Nat) : layL (k :: rs) (blank (n + 1)) = (layL (k :: rs) (blank n)).map (fun c => 0 :: c) ++ (if k ≤ n + 1 then (layL rs (blank (n - k))).map (fun c => runCells k (n + 1) ++ c) else []) := by
  rw [blank_succ, layL_parts, ← blank_succ]
  have e1 : layE (k :: rs) (blank (n + 1)) = (layL (k :: rs) (blank n)).map (fun c => 0 :: c) := by
    show (if (none : Option Int) = some 1 then [] else (layL (k :: rs) (blank n)).map (fun c => (0 : Int) :: c)) = _
    rw [if_neg (by intro z; cases z)]
  have e2 : layF (k :: rs) (blank (n + 1)) = if k ≤ n + 1 then (layL rs (blank (n - k))).map (fun c => runCells k (n + 1) ++ c) else [] := by
    show (if fitsB k (blank (n + 1)) = true then (layL rs ((blank (n + 1)).drop (k + 1))).map (fun c => runCells k (blank (n + 1)).length ++ c) else []) = _
    rw [blank_fits, blank_drop, blank_len]
    by_cases h : k ≤ n + 1
    · rw [if_pos (decide_eq_true h), if_pos h, show n + 1 - (k + 1) = n - k by omega]
    · rw [if_neg (by rw [decide_eq_false h]; decide), if_neg h]
  rw [e1, e2]
/-- how many cells the runs need -/
def need : List Nat → Nat
  | [] => 0
  | [k] => k
  | k :: k' :: r => k + 1 + need (k' :: r)
theorem need_sum : ∀ rs : List Nat, need rs + 1 = rs.sum + rs.length + (if rs = [] then 1 else 0)
  | [] => rfl
  | [k] => by simp [need]
  | k :: k' :: r => by
    have := need_sum (k' :: r)
    rw [if_neg (by intro z; cases z)] at this
    rw [if_neg (by intro z; cases z)]
    unfold need
    rw [List.sum_cons, List.length_cons]
    omega
def ch : Nat → Nat → Nat
  | _, 0 => 1
  | 0, _ + 1 => 0
  | n + 1, k + 1 => ch n k + ch n (k + 1)
theorem ch_zero (n : Nat) : ch n 0 = 1 := by cases n <;> rfl
theorem ch_lt : ∀ {n k : Nat}, n < k → ch n k = 0
  | _, 0, h => absurd h (Nat.not_lt_zero _)
  | 0, k + 1, _ => rfl
  | n + 1, k + 1, h => by unfold ch; rw [ch_lt (by omega), ch_lt (by omega)]
theorem ch_self : ∀ n : Nat, ch n n = 1
  | 0 => rfl
  | n + 1 => by unfold ch; rw [ch_self n, ch_lt (by omega)]
theorem ch_mul : ∀ (n k : Nat), ch n (k + 1) * (k + 1) = ch n k * (n - k)
  | 0, k => by
    have : ch 0 (k + 1) = 0 := rfl
    rw [this, Nat.zero_sub]
    simp
  | n + 1, 0 => by
    have h := ch_mul n 0
    rw [ch_zero] at h ⊢
    show (ch n 0 + ch n (0 + 1)) * (0 + 1) = 1 * (n + 1 - 0)
    rw [ch_zero]
    omega
  | n + 1, k + 1 => by
    have h1 := ch_mul n k
    have h2 := ch_mul n (k + 1)
    show (ch n (k + 1) + ch n (k + 1 + 1)) * (k + 1 + 1) = (ch n k + ch n (k + 1)) * (n + 1 - (k + 1))
    by_cases hk : k < n
    · obtain ⟨m, hm⟩ : ∃ m, n - (k + 1) = m := ⟨_, rfl⟩
      have e1 : n + 1 - (k + 1) = m + 1 := by omega
      have e2 : n - k = m + 1 := by omega
      rw [e2] at h1
      rw [hm] at h2
      rw [e1, Nat.add_mul, Nat.add_mul, h2, ← h1, Nat.mul_add _ (k + 1) 1, Nat.mul_add _ m 1]
      omega
    · have z1 : ch n (k + 1) = 0 := ch_lt (by omega)
      have z2 : ch n (k + 1 + 1) = 0 := ch_lt (by omega)
      rw [z1, z2, show n + 1 - (k + 1) = 0 by omega]
      simp
theorem ways_blank : ∀ (n : Nat) (rs : List Nat), (∀ k ∈ rs, 1 ≤ k) → waysN rs (blank n) = if need rs ≤ n then ch (n - need rs + rs.length) rs.length else 0
  | 0, [], _ => by unfold waysN; rw [lay_blank0, if_pos rfl]; rfl
  | 0, k :: rs, h => by
    unfold waysN
    rw [lay_blank0, if_neg (by intro z; cases z)]
    have hk := h k (List.mem_cons_self ..)
    have : ¬ need (k :: rs) ≤ 0 := by cases rs <;> unfold need <;> omega
    rw [if_neg this]
    rfl
  | n + 1, [], h => by
    have ih := ways_blank n [] h
    unfold waysN at ih ⊢
    rw [lay_blankE, List.length_map, ih]
    show (if 0 ≤ n then ch (n - 0 + 0) 0 else 0) = if 0 ≤ n + 1 then ch (n + 1 - 0 + 0) 0 else 0
    rw [if_pos (Nat.zero_le _), if_pos (Nat.zero_le _), ch_zero, ch_zero]
  | n + 1, k :: rs, h => by
    have ih := ways_blank n (k :: rs) h
    have hr : ∀ j ∈ rs, 1 ≤ j := fun j hj => h j (List.mem_cons_of_mem _ hj)
    have hk := h k (List.mem_cons_self ..)
    have ih2 := ways_blank (n - k) rs hr
    unfold waysN at ih ih2 ⊢
    rw [lay_blank, List.length_append, List.length_map, ih]
    have hn : need (k :: rs) = k + (if rs = [] then 0 else 1 + need rs) := by
      cases rs with
      | nil => rfl
      | cons a b => rw [if_neg (by intro z; cases z)]; show k + 1 + need (a :: b) = _; omega
    have hn0 : rs = [] → need rs = 0 := fun e => by rw [e]; rfl
    have hn1 : rs ≠ [] → 1 ≤ need rs := fun e => by
      cases rs with
      | nil => exact absurd rfl e
      | cons a b =>
        have := hr a (List.mem_cons_self ..)
        cases b <;> unfold need <;> omega
    have hl : (k :: rs).length = rs.length + 1 := rfl
    rw [hl]
    by_cases hrs : rs = []
    · have hn' : need (k :: rs) = k := by rw [hn, if_pos hrs]; omega
      have hlr : rs.length = 0 := by rw [hrs]; rfl
      rw [hn', hlr]
      have c1 : ∀ m, ch (m + (0 + 1)) (0 + 1) = m + 1 := fun m => by
        induction m with
        | zero => rfl
        | succ m ihm =>
          show ch (m + 1) 0 + ch (m + 1) (0 + 1) = _
          rw [ch_zero, show m + 1 = m + (0 + 1) from rfl, ihm]
          omega
      have hw : (if k ≤ n + 1 then (layL rs (blank (n - k))).map (fun c => runCells k (n + 1) ++ c) else []).length = if k ≤ n + 1 then 1 else 0 := by
        by_cases q : k ≤ n + 1
        · rw [if_pos q, if_pos q, List.length_map, ih2, hn0 hrs, if_pos (Nat.zero_le _), hlr, ch_zero]
        · rw [if_neg q, if_neg q]; rfl
      rw [hw]
      by_cases q : k ≤ n
      · rw [if_pos q, if_pos (by omega), if_pos (by omega), c1, c1]; omega
      · by_cases q2 : k ≤ n + 1
        · rw [if_neg q, if_pos q2, if_pos q2, c1]; omega
        · rw [if_neg q, if_neg q2, if_neg q2]
    · have h1 := hn1 hrs
      rw [hn, if_neg hrs]
      have hw : (if k ≤ n + 1 then (layL rs (blank (n - k))).map (fun c => runCells k (n + 1) ++ c) else []).length = if k + (1 + need rs) ≤ n + 1 then ch (n + 1 - (k + (1 + need rs)) + rs.length) rs.length else 0 := by
        by_cases q : k ≤ n + 1
        · rw [if_pos q, List.length_map, ih2]
          by_cases q2 : need rs ≤ n - k
          · rw [if_pos q2, if_pos (by omega), show n + 1 - (k + (1 + need rs)) = n - k - need rs by omega]
          · rw [if_neg q2, if_neg (by omega)]
        · rw [if_neg q, if_neg (by omega)]; rfl
      rw [hw]
      by_cases q : k + (1 + need rs) ≤ n + 1
      · rw [if_pos q, if_pos q]
        by_cases q2 : k + (1 + need rs) ≤ n
        · rw [if_pos q2]
          have e : n + 1 - (k + (1 + need rs)) + (rs.length + 1) = (n - (k + (1 + need rs)) + (rs.length + 1)) + 1 := by omega
          rw [e]
          show _ = ch (n - (k + (1 + need rs)) + (rs.length + 1)) rs.length + ch (n - (k + (1 + need rs)) + (rs.length + 1)) (rs.length + 1)
          rw [show n + 1 - (k + (1 + need rs)) + rs.length = n - (k + (1 + need rs)) + (rs.length + 1) by omega]
          omega
        · rw [if_neg q2, show n + 1 - (k + (1 + need rs)) = 0 by omega, Nat.zero_add, Nat.zero_add, Nat.zero_add, ch_self, ch_self]
      · rw [if_neg q, if_neg q, if_neg (by omega)]
/-- the runs side by side -/
def body : List Nat → List Int
  | [] => []
  | [k] => List.replicate k 1
  | k :: k' :: r => List.replicate k 1 ++ 0 :: body (k' :: r)
theorem body_len : ∀ rs : List Nat, (body rs).length = need rs
  | [] => rfl
  | [k] => by simp [body, need]
  | k :: k' :: r => by
    unfold body need
    rw [List.length_append, List.length_replicate, List.length_cons, body_len (k' :: r)]
    omega
theorem body_snoc : ∀ (rs : List Nat) (k : Nat), rs ≠ [] → body (rs ++ [k]) = body rs ++ 0 :: List.replicate k 1
  | [], k, h => absurd rfl h
  | [j], k, _ => rfl
  | j :: j' :: r, k, _ => by
    show List.replicate j 1 ++ 0 :: body ((j' :: r) ++ [k]) = (List.replicate j 1 ++ 0 :: body (j' :: r)) ++ 0 :: List.replicate k 1
    rw [body_snoc (j' :: r) k (by intro z; cases z), List.append_assoc]
    rfl
theorem body_rev : ∀ rs : List Nat, (body rs.reverse).reverse = body rs
  | [] => rfl
  | [k] => by simp [body]
  | k :: k' :: r => by
    rw [List.reverse_cons, body_snoc _ k (by simp), List.reverse_append, List.reverse_cons, body_rev (k' :: r)]
    show (List.replicate k (1 : Int)).reverse ++ [0] ++ body (k' :: r) = List.replicate k 1 ++ 0 :: body (k' :: r)
    rw [List.reverse_replicate, List.append_assoc]
    rfl
theorem need_rev (rs : List Nat) : need rs.reverse = need rs := by rw [← body_len, ← body_len rs, ← body_rev rs, List.length_reverse]
theorem body_cons (k : Nat) {rs : List Nat} (h : rs ≠ []) : body (k :: rs) = List.replicate k 1 ++ 0 :: body rs := by
  cases rs with
  | nil => exact absurd rfl h
  | cons a b => rfl
theorem need_cons (k : Nat) {rs : List Nat} (h : rs ≠ []) : need (k :: rs) = k + 1 + need rs := by
  cases rs with
  | nil => exact absurd rfl h
  | cons a b => rfl
theorem lay_none {rs : List Nat} {n : Nat} (h : ∀ k ∈ rs, 1 ≤ k) (hn : ¬ need rs ≤ n) : layL rs (blank n) = [] := by
  have := ways_blank n rs h
  rw [if_neg hn] at this
  exact List.length_eq_zero_iff.mp this
theorem lay_empty : ∀ n, layL [] (blank n) = [List.replicate n 0]
  | 0 => by rw [lay_blank0, if_pos rfl]; rfl
  | n + 1 => by rw [lay_blankE, lay_empty n]; rfl
theorem getLast_map {α β : Type} (f : α → β) : ∀ (l : List α), (l.map f).getLast? = l.getLast?.map f := fun l => by rw [List.getLast?_map]
theorem lay_last : ∀ (rs : List Nat) (n : Nat), (∀ k ∈ rs, 1 ≤ k) → need rs ≤ n → (layL rs (blank n)).getLast? = some (body rs ++ List.replicate (n - need rs) 0)
  | [], n, _, _ => by rw [lay_empty]; rfl
  | k :: rs, 0, h, hn => by
    have hk := h k (List.mem_cons_self ..)
    cases rs <;> unfold need at hn <;> omega
  | k :: rs, n + 1, h, hn => by
    have hr : ∀ j ∈ rs, 1 ≤ j := fun j hj => h j (List.mem_cons_of_mem _ hj)
    have hk := h k (List.mem_cons_self ..)
    have hkn : k ≤ n + 1 := by cases rs <;> unfold need at hn <;> omega
    rw [lay_blank, if_pos hkn]
    by_cases hrs : rs = []
    · have ih := lay_last rs (n - k) hr (by rw [hrs]; exact Nat.zero_le _)
      have hne : (layL rs (blank (n - k))).map (fun c => runCells k (n + 1) ++ c) ≠ [] := by
        rw [hrs, lay_empty]
        exact fun z => by cases z
      rw [List.getLast?_append, List.getLast?_map, ih, hrs]
      show some (runCells k (n + 1) ++ ([] ++ List.replicate (n - k - 0) 0)) = some (List.replicate k 1 ++ List.replicate (n + 1 - k) 0)
      unfold runCells
      by_cases q : k < n + 1
      · rw [if_pos q, List.append_assoc, show n + 1 - k = (n - k - 0) + 1 by omega, List.replicate_succ]
        rfl
      · rw [if_neg q, show n - k - 0 = 0 by omega, show n + 1 - k = 0 by omega]
        simp
    · rw [need_cons k hrs] at hn
      have ih := lay_last rs (n - k) hr (by omega)
      have hne : (layL rs (blank (n - k))).map (fun c => runCells k (n + 1) ++ c) ≠ [] := fun z => by
        have z' := List.map_eq_nil_iff.mp z
        rw [z'] at ih
        cases ih
      rw [List.getLast?_append, List.getLast?_map, ih, body_cons k hrs, need_cons k hrs]
      show some (runCells k (n + 1) ++ (body rs ++ List.replicate (n - k - need rs) 0)) = _
      unfold runCells
      rw [if_pos (by omega), show n + 1 - (k + 1 + need rs) = n - k - need rs by omega]
      simp [List.append_assoc]
theorem lay_head : ∀ (n : Nat) (rs : List Nat), (∀ k ∈ rs, 1 ≤ k) → need rs ≤ n → (layL rs (blank n)).head? = some (List.replicate (n - need rs) 0 ++ body rs)
  | n, [], _, _ => by
    rw [lay_empty]
    show some (List.replicate n 0) = some (List.replicate (n - 0) 0 ++ [])
    rw [List.append_nil]
    rfl
  | 0, k :: rs, h, hn => by
    have hk := h k (List.mem_cons_self ..)
    cases rs <;> unfold need at hn <;> omega
  | n + 1, k :: rs, h, hn => by
    have hr : ∀ j ∈ rs, 1 ≤ j := fun j hj => h j (List.mem_cons_of_mem _ hj)
    have hk := h k (List.mem_cons_self ..)
    have hkn : k ≤ n + 1 := by cases rs <;> unfold need at hn <;> omega
    rw [lay_blank, if_pos hkn]
    by_cases q : need (k :: rs) ≤ n
    · have ih := lay_head n (k :: rs) h q
      rw [List.head?_append, List.head?_map, ih, show n + 1 - need (k :: rs) = (n - need (k :: rs)) + 1 by omega, List.replicate_succ]
      rfl
    · rw [lay_none h q, show n + 1 - need (k :: rs) = 0 by omega]
      show ((layL rs (blank (n - k))).map (fun c => runCells k (n + 1) ++ c)).head? = some (body (k :: rs))
      by_cases hrs : rs = []
      · have e : need (k :: rs) = k := by rw [hrs]; rfl
        rw [hrs, lay_empty]
        show some (runCells k (n + 1) ++ List.replicate (n - k) 0) = some (List.replicate k 1)
        unfold runCells
        rw [if_neg (by omega), show n - k = 0 by omega]
        simp
      · rw [need_cons k hrs] at hn q
        have ih := lay_head (n - k) rs hr (by omega)
        rw [List.head?_map, ih, body_cons k hrs]
        show some (runCells k (n + 1) ++ (List.replicate (n - k - need rs) 0 ++ body rs)) = _
        unfold runCells
        rw [if_pos (by omega), show n - k - need rs = 0 by omega]
        simp [List.append_assoc]
end Rp

namespace K03
open PySem L2 Rp
def top (i : Nat) : Stmt := PySem.Challenge.pw_runpaint_k03_whole_long_lines.main.body.getD i (.Pass ⟨0, 0, 0, 0⟩)
abbrev s_runs_of : Stmt := top 5
abbrev s_layings : Stmt := top 6
abbrev s_laying : Stmt := top 7
abbrev s_number_of : Stmt := top 8
abbrev s_is_laying : Stmt := top 9
abbrev s_Counts___init__ : Stmt := inClass (top 10) 0
abbrev s_Counts_total : Stmt := inClass (top 10) 1
abbrev s_Counts_empty_ways : Stmt := inClass (top 10) 2
abbrev s_Counts_full_ways : Stmt := inClass (top 10) 3
abbrev s_Counts_has_room : Stmt := inClass (top 10) 4
abbrev s_Counts_place_behind : Stmt := inClass (top 10) 5
abbrev s_Counts_run_cells : Stmt := inClass (top 10) 6
abbrev s__law_cell_at : Stmt := top 12
abbrev s__law_whole : Stmt := top 13
abbrev s__law_mix : Stmt := top 14
abbrev s__law_runs : Stmt := top 15
abbrev s__law_cells : Stmt := top 16
abbrev s__law_ways : Stmt := top 17
abbrev s__law_packed : Stmt := top 18
abbrev s_law : Stmt := top 19
section
variable {P : Program} {w : World} {K : PySem.W.Frag} {mg : Str → Option Value} {base : Heap}
def sp__law_cell_at (K : PySem.W.Frag) : Sp := fun vs H Q _ => ∃ (a : Addr) (ns : List Int) (i : Nat), vs = [.ref a, .int i] ∧ SqL K H a (ns.map V.int) ∧ Q (.int (cellZ ns i)) H
theorem sc__law_cell_at : FnScope ["script", "k"] ["script", "k"] (defScope s__law_cell_at) := ⟨rfl, rfl, rfl, by decide +kernel, rfl, by decide +kernel, by decide +kernel⟩
theorem ok__law_cell_at {f : Addr} {fd : FuncData} (F : Fun K "_law_cell_at" "_law_cell_at" s__law_cell_at f fd) (B : Bt mg) : FnOk P w K mg base CX0 1 f fd ["script", "k"] (sp__law_cell_at K) := by
  refine F.ok sc__law_cell_at (fun vs H Q E h => ?_) (fun cdv A outer s H vs Q E hr h => ?_)
  · obtain ⟨a, ns, i, rfl, _⟩ := h
    rfl
  · obtain ⟨a, ns, i, rfl, hS, k⟩ := h
    refine ⟨_, (pss_cons (ps_if (pt_cmpR op_lt (pv 1) (pe_callB call_len_seq rfl B.len bt_len (pa_cons (pv 0) pa_nil)) (nomark _))
      (pss_one (ps_ret (pe_ix ix_list (pv 0) (pv 1) (fun _ _ => rfl))))
      pss_nil)
      (pss_one (ps_ret pe_int))), ?_⟩
    refine ⟨_, rfl, _, rfl, a, _, rfl, .inl hS, _, _, rfl, rfl, _, rfl, ?_⟩
    rw [List.length_map]
    refine ite2 (fun hc => ?_) (fun hc => ?_)
    · have hi : i < ns.length := by have := of_decide_eq_true hc; omega
      refine ⟨_, rfl, _, rfl, a, _, _, .int (cellZ ns i), rfl, rfl, hS, atI_nat ?_, k⟩
      unfold cellZ
      rw [List.getElem?_map, List.getElem?_eq_getElem hi, List.getD_eq_getElem?_getD, List.getElem?_eq_getElem hi]
      rfl
    · have hi : ns.length ≤ i := by have : ¬ (i : Int) < ns.length := fun z => hc (decide_eq_true z); omega
      have e : cellZ ns i = 0 := by
        unfold cellZ
        rw [List.getD_eq_getElem?_getD, List.getElem?_eq_none hi]
        rfl
      rw [e] at k
      exact k

def sp__law_whole : Sp := fun vs H Q _ => ∃ (x : V), vs = [x] ∧ ((∃ i, x = .int i ∧ Q (.bl true) H) ∨ (x = .non ∧ Q (.bl false) H) ∨ (∃ b, x = .bl b ∧ Q (.bl false) H))
theorem sc__law_whole : FnScope ["x"] ["x"] (defScope s__law_whole) := ⟨rfl, rfl, rfl, by decide +kernel, rfl, by decide +kernel, by decide +kernel⟩
theorem ok__law_whole {f : Addr} {fd : FuncData} (F : Fun K "_law_whole" "_law_whole" s__law_whole f fd) (B : Bt mg) : FnOk P w K mg base CX0 1 f fd ["x"] sp__law_whole := by
  refine F.ok sc__law_whole (fun vs H Q E h => ?_) (fun cdv A outer s H vs Q E hr h => ?_)
  · obtain ⟨x, rfl, _⟩ := h
    rfl
  · obtain ⟨x, rfl, h⟩ := h
    refine ⟨_, (pss_one (ps_ret (pe_and (pe_callB call_isinst rfl B.isinstance bt_isinstance (pa_cons (pv 0) (pa_cons (pe_bltn (v := .ty "int") rfl B.int bt_int rfl) pa_nil))) (pe_one (pe_not (pe_callB call_isinst rfl B.isinstance bt_isinstance (pa_cons (pv 0) (pa_cons (pe_bltn (v := .ty "bool") rfl B.bool bt_bool rfl) pa_nil)))))))), ?_⟩
    rcases h with ⟨i, rfl, k⟩ | ⟨rfl, k⟩ | ⟨b, rfl, k⟩
    · refine ⟨_, rfl, _, _, _, true, rfl, fun _ z => z, .int i, rfl, _, rfl, iteT ?_⟩
      exact ⟨_, rfl, _, _, _, false, rfl, fun _ z => z, .int i, rfl, _, rfl, k⟩
    · refine ⟨_, rfl, _, _, _, false, rfl, fun _ z => z, .non, rfl, _, rfl, iteF k⟩
    · refine ⟨_, rfl, _, _, _, true, rfl, fun _ z => z, .bl b, rfl, _, rfl, iteT ?_⟩
      exact ⟨_, rfl, _, _, _, true, rfl, fun _ z => z, .bl b, rfl, _, rfl, k⟩

def sp__law_mix : Sp := fun vs H Q _ => ∃ (c k : Int), vs = [.int c, .int k] ∧ Q (.int (mixZ c k)) H
theorem sc__law_mix : FnScope ["cell", "k", "mixed"] ["cell", "k"] (defScope s__law_mix) := ⟨rfl, rfl, rfl, by decide +kernel, rfl, by decide +kernel, by decide +kernel⟩
theorem ok__law_mix {f : Addr} {fd : FuncData} (F : Fun K "_law_mix" "_law_mix" s__law_mix f fd) : FnOk P w K mg base CX0 1 f fd ["cell", "k"] sp__law_mix := by
  refine F.ok sc__law_mix (fun vs H Q E h => ?_) (fun cdv A outer s H vs Q E hr h => ?_)
  · obtain ⟨c, k, rfl, _⟩ := h
    rfl
  · obtain ⟨c, kk, rfl, k⟩ := h
    refine ⟨_, (pss_cons (ps_set (i := 2) sc__law_mix.nd rfl (Or.inl rfl) (pe_op op_mod (pe_op op_add (pe_op op_add (pe_op op_mul (pv 0) pe_int) (pe_op op_mul pe_int (pv 1))) pe_int) pe_int))
      (pss_one (ps_ret (pe_op op_mod (pe_op op_add (pe_op op_add (pe_op op_mul (pv 2) (pv 2)) (pe_op op_mul pe_int (pv 2))) (pv 1)) pe_int)))), ?_⟩
    have hm := mixed_lt c kk
    refine ⟨_, rfl, _, _, rfl, rfl, .inr ⟨by decide, by decide⟩, _, rfl, _, _, rfl, rfl, .inl ⟨by decide, by decide⟩, _, _, rfl, rfl, _, _, rfl, rfl, _, _, rfl, rfl, (pz rfl), ?_⟩
    refine ⟨_, rfl, _, rfl, _, _, rfl, rfl, .inl ⟨by omega, by omega⟩, _, rfl, _, _, rfl, rfl, .inl ⟨by decide, by decide⟩, _, _, rfl, rfl, _, rfl, _, _, rfl, rfl, _, _, rfl, rfl, (pz rfl), k⟩

def sp_runs_of (K : PySem.W.Frag) : Sp := fun vs H Q _ => ∃ (a : Addr) (ns : List Int), vs = [.ref a] ∧ SqL K H a (ns.map V.int) ∧ ns.length ≤ 1000 ∧
  ∀ (t : Addr) (H' : Hp), Same H H' → H t = none → H' t = some (.tup ((runsZ ns).map V.int)) → Q (.ref t) H'
theorem sc_runs_of : FnScope ["cells", "runs", "length", "cell"] ["cells"] (defScope s_runs_of) := ⟨rfl, rfl, rfl, by decide +kernel, rfl, by decide +kernel, by decide +kernel⟩
theorem ok_runs_of {f : Addr} {fd : FuncData} (F : Fun K "runs_of" "runs_of" s_runs_of f fd) (B : Bt mg) : FnOk P w K mg base CX0 1 f fd ["cells"] (sp_runs_of K) := by
  refine F.ok sc_runs_of (fun vs H Q E h => ?_) (fun cdv A outer s H vs Q E hr h => ?_)
  · obtain ⟨a, ns, rfl, _⟩ := h
    rfl
  · obtain ⟨a, ns, rfl, hS, hn, k⟩ := h
    refine ⟨_, (pss_cons (ps_set (i := 1) sc_runs_of.nd rfl (Or.inl rfl) (pe_lst pa_nil))
      (pss_cons (ps_set (i := 2) sc_runs_of.nd rfl (Or.inl rfl) pe_int)
      (pss_cons (ps_for PassesOwn.never rfl (pi_list (pv 0)) (pg_name (i := 3) sc_runs_of.nd rfl (Or.inl rfl))
      (pss_one (ps_if (pt_cmpR op_eq (pv 3) pe_int (nomark _))
      (pss_one (ps_aug (i := 2) sc_runs_of.nd rfl (Or.inl rfl) pe_int ip_add))
      (pss_one (ps_if (pt_cmpR op_gt (pv 2) pe_int (nomark _))
      (pss_cons (ps_expr (pe_bm PySem.F.plainAttrs_list PySem.F.slot_list_append PySem.F.type_list_append mt_append (pv 1) (pa_cons (pv 2) pa_nil)))
      (pss_one (ps_set (i := 2) sc_runs_of.nd rfl (Or.inl rfl) pe_int)))
      pss_nil)))))
      (pss_cons (ps_if (pt_cmpR op_gt (pv 2) pe_int (nomark _))
      (pss_one (ps_expr (pe_bm PySem.F.plainAttrs_list PySem.F.slot_list_append PySem.F.type_list_append mt_append (pv 1) (pa_cons (pv 2) pa_nil))))
      pss_nil)
      (pss_one (ps_ret (pe_callTy call_tuple_of rfl B.tuple bt_tuple (pa_cons (pv 1) pa_nil)))))))), ?_⟩
    refine ⟨Nat.zero_le _, fun l hl => ?_⟩
    have hS1 : ∀ o, SqL K (upd H l o) a (ns.map V.int) := fun o => (same_upd hl).seq hS
    refine ⟨_, rfl, a, rfl, ⟨_, hS1 _⟩, for_list (K := K) (a := a) (xs := ns.map V.int) (fun i σ H2 => ∃ v : Option V, σ = [some (.ref a), some (.ref l), some (.int (foldR (ns.take i)).2), v] ∧ H2 = upd H l (.lst ((foldR (ns.take i)).1.map V.int))) ⟨none, rfl, rfl⟩ ?_ ?_ ?_⟩
    · rintro i σ H2 _ ⟨v, rfl, rfl⟩
      exact hS1 _
    · rintro i x σ H2 hi ⟨v, rfl, rfl⟩
      obtain ⟨z, hz, rfl⟩ := map_get hi
      have hlen : (foldR (ns.take i)).1.length ≤ 1000 := Nat.le_trans (foldR_length _) (by rw [List.length_take]; omega)
      have hst := foldR_take hz
      refine ⟨_, rfl, rfl, _, rfl, ?_⟩
      refine ite2 (fun hc => ?_) (fun hc => ?_)
      · have hz1 : z = 1 := dec_int1.mp hc
        refine ⟨_, rfl, _, _, rfl, rfl, ?_⟩
        rw [hst]
        unfold stepR
        rw [if_pos hz1]
        exact ⟨_, rfl, rfl⟩
      · have hz1 : z ≠ 1 := fun e => hc (dec_int1.mpr e)
        refine ⟨_, rfl, _, _, rfl, rfl, _, rfl, ?_⟩
        refine ite2 (fun hp => ?_) (fun hp => ?_)
        · have hp' := of_decide_eq_true hp
          refine ⟨_, rfl, .inl ⟨rfl, _, SqL.of upd_same⟩, _, rfl, l, _, _, rfl, rfl, upd_same, small1000 (by rw [List.length_map]; exact hlen), ?_⟩
          rw [upd_upd, hst]
          unfold stepR
          rw [if_neg hz1, if_pos hp']
          refine ⟨_, rfl, ?_⟩
          rw [List.map_append]
          rfl
        · have hp' : ¬ 0 < (foldR (ns.take i)).2 := fun e => hp (decide_eq_true e)
          show ∃ v, _
          rw [hst]
          unfold stepR
          rw [if_neg hz1, if_neg hp']
          exact ⟨_, rfl, rfl⟩
    · rintro σ H2 ⟨v, rfl, rfl⟩
      rw [List.length_map, List.take_length]
      have hlen : (foldR ns).1.length ≤ 1000 := Nat.le_trans (foldR_length _) hn
      refine ⟨_, rfl, _, _, rfl, rfl, _, rfl, ?_⟩
      refine ite2 (fun hp => ?_) (fun hp => ?_)
      · have hp' := of_decide_eq_true hp
        refine ⟨_, rfl, .inl ⟨rfl, _, SqL.of upd_same⟩, _, rfl, l, _, _, rfl, rfl, upd_same, small1000 (by rw [List.length_map]; exact hlen), ?_⟩
        rw [upd_upd]
        refine ⟨_, rfl, l, _, rfl, .inl ⟨SqL.of upd_same, fun t ht => ?_⟩⟩
        refine k t _ (same_upd' (same_upd hl) ((same_upd hl).free ht)) ((same_upd hl).free ht) ?_
        rw [upd_same]
        unfold runsZ
        rw [if_pos hp', List.map_append]
        rfl
      · have hp' : ¬ 0 < (foldR ns).2 := fun e => hp (decide_eq_true e)
        refine ⟨_, rfl, l, _, rfl, .inl ⟨SqL.of upd_same, fun t ht => ?_⟩⟩
        refine k t _ (same_upd' (same_upd hl) ((same_upd hl).free ht)) ((same_upd hl).free ht) ?_
        rw [upd_same]
        unfold runsZ
        rw [if_neg hp']

theorem sc__law_runs : FnScope ["cells", "found", "count", "cell"] ["cells"] (defScope s__law_runs) := ⟨rfl, rfl, rfl, by decide +kernel, rfl, by decide +kernel, by decide +kernel⟩
def sp__law_runs : Sp := fun vs H Q _ => ∃ (a : Addr) (ns : List Int), vs = [.ref a] ∧ H a = some (.lst (ns.map V.int)) ∧ ns.length ≤ 999 ∧
  ∀ (t : Addr) (H' : Hp), Same H H' → H t = none → H' t = some (.tup ((runsZ ns).map V.int)) → Q (.ref t) H'
theorem ok__law_runs {f : Addr} {fd : FuncData} (F : Fun K "_law_runs" "_law_runs" s__law_runs f fd) (B : Bt mg) : FnOk P w K mg base CX0 1 f fd ["cells"] sp__law_runs := by
  refine F.ok sc__law_runs (fun vs H Q E h => ?_) (fun cdv A outer s H vs Q E hr h => ?_)
  · obtain ⟨a, ns, rfl, _⟩ := h
    rfl
  · obtain ⟨a, ns, rfl, hS, hn, k⟩ := h
    refine ⟨_, (pss_cons (ps_set (i := 1) sc__law_runs.nd rfl (Or.inl rfl) (pe_lst pa_nil))
      (pss_cons (ps_set (i := 2) sc__law_runs.nd rfl (Or.inl rfl) pe_int)
      (pss_cons (ps_for PassesOwn.never rfl (pi_list (pe_op op_cat (pv 0) (pe_lst (pa_cons pe_int pa_nil)))) (pg_name (i := 3) sc__law_runs.nd rfl (Or.inl rfl))
      (pss_one (ps_if (pt_cmpR op_eq (pv 3) pe_int (nomark _))
      (pss_one (ps_set (i := 2) sc__law_runs.nd rfl (Or.inl rfl) (pe_op op_add (pv 2) pe_int)))
      (pss_one (ps_if (pt_cmpR op_gt (pv 2) pe_int (nomark _))
      (pss_cons (ps_expr (pe_bm PySem.F.plainAttrs_list PySem.F.slot_list_append PySem.F.type_list_append mt_append (pv 1) (pa_cons (pv 2) pa_nil)))
      (pss_one (ps_set (i := 2) sc__law_runs.nd rfl (Or.inl rfl) pe_int)))
      pss_nil)))))
      (pss_one (ps_ret (pe_callTy call_tuple_of rfl B.tuple bt_tuple (pa_cons (pv 1) pa_nil))))))), ?_⟩
    refine ⟨Nat.zero_le _, fun l hl => ?_⟩
    have s1 : ∀ o, Same H (upd H l o) := fun o => same_upd hl
    -- cells + [0]
    refine ⟨_, rfl, (by show 1 ≤ sizeLine; decide), fun z hz => ?_⟩
    have nla : a ≠ l := ne_of_none hS hl
    have nza : a ≠ z := ne_of_none (s1 _ _ _ hS) hz
    have nzl : z ≠ l := fun e => by subst e; rw [upd_same] at hz; cases hz
    refine ⟨a, z, _, _, rfl, rfl, (by rw [upd_ne nza]; exact s1 _ _ _ hS), upd_same, (by rw [List.length_map]; exact Nat.le_of_lt (small1000 (by show ns.length + 1 ≤ 1000; omega))), fun c hc => ?_⟩
    have nHz : H z = none := (s1 _).free hz
    have nHc : H c = none := (s1 (.lst [])).free ((same_upd hz).free hc)
    have ncl : c ≠ l := fun e => by subst e; rw [upd_ne (Ne.symm nzl), upd_same] at hc; cases hc
    have ncz : c ≠ z := fun e => by subst e; rw [upd_same] at hc; cases hc
    have eN : ns.map V.int ++ [V.int 0] = (ns ++ [0]).map V.int := by rw [List.map_append]; rfl
    rw [eN]
    refine ⟨c, rfl, ⟨_, SqL.of upd_same⟩, for_list (K := K) (a := c) (xs := (ns ++ [0]).map V.int) (fun i σ H2 => ∃ v : Option V, σ = [some (.ref a), some (.ref l), some (.int (foldR ((ns ++ [0]).take i)).2), v] ∧ Same H H2 ∧ H2 c = some (.lst ((ns ++ [0]).map V.int)) ∧ H2 l = some (.lst ((foldR ((ns ++ [0]).take i)).1.map V.int)))
      ⟨none, rfl, same_upd' (same_upd' (s1 _) nHz) nHc, upd_same, by rw [upd_ne (Ne.symm ncl), upd_ne (Ne.symm nzl), upd_same]; rfl⟩ ?_ ?_ ?_⟩
    · rintro i σ H2 _ ⟨v, rfl, _, hc2, _⟩
      exact SqL.of hc2
    · rintro i x σ H2 hi ⟨v, rfl, s2, hc2, hl2⟩
      obtain ⟨z, hz, rfl⟩ := map_get hi
      have hlen : (foldR ((ns ++ [0]).take i)).1.length ≤ 1000 := Nat.le_trans (foldR_length _) (by rw [List.length_take, List.length_append, List.length_singleton]; omega)
      have hst := foldR_take hz
      refine ⟨_, rfl, rfl, _, rfl, ?_⟩
      refine ite2 (fun hc => ?_) (fun hc => ?_)
      · have hz1 : z = 1 := dec_int1.mp hc
        refine ⟨_, rfl, _, _, rfl, rfl, ?_⟩
        show ∃ v, _
        rw [hst]
        unfold stepR
        rw [if_pos hz1]
        exact ⟨_, rfl, s2, hc2, hl2⟩
      · have hz1 : z ≠ 1 := fun e => hc (dec_int1.mpr e)
        refine ⟨_, rfl, _, _, rfl, rfl, _, rfl, ?_⟩
        refine ite2 (fun hp => ?_) (fun hp => ?_)
        · have hp' := of_decide_eq_true hp
          refine ⟨_, rfl, .inl ⟨rfl, _, SqL.of hl2⟩, _, rfl, l, _, _, rfl, rfl, hl2, small1000 (by rw [List.length_map]; exact hlen), ?_⟩
          show ∃ v, _
          rw [hst]
          unfold stepR
          rw [if_neg hz1, if_pos hp']
          refine ⟨_, rfl, same_upd' s2 hl, by rw [upd_ne ncl]; exact hc2, ?_⟩
          rw [upd_same, List.map_append]
          rfl
        · have hp' : ¬ 0 < (foldR ((ns ++ [0]).take i)).2 := fun e => hp (decide_eq_true e)
          show ∃ v, _
          rw [hst]
          unfold stepR
          rw [if_neg hz1, if_neg hp']
          exact ⟨_, rfl, s2, hc2, hl2⟩
    · rintro σ H2 ⟨v, rfl, s2, hc2, hl2⟩
      rw [List.length_map, List.take_length, runs_zero] at hl2
      refine ⟨_, rfl, l, _, rfl, .inl ⟨SqL.of hl2, fun t ht => ?_⟩⟩
      exact k t _ (same_upd' s2 (s2.free ht)) (s2.free ht) upd_same
end

section
variable {P : Program} {w : World} {K : PySem.W.Frag} {mg : Str → Option Value} {base : Heap} {C : Addr}
/-- what the walk asks of the class as the top has made it -/
structure CT (K : PySem.W.Frag) (C : Addr) : Prop where
  cl : Cls K C
  nR : NoAttr K C "runs"
  nS : NoAttr K C "sight"
  nW : NoAttr K C "ways"
def sp_total (C : Addr) : Sp := fun vs H Q _ => ∃ (c : Addr) (rs : List Nat) (s : Sight) (tbl : List (List Int)), vs = [.ref c] ∧ CP C H c rs s tbl ∧ Q (.int (getT tbl 0 0)) H
theorem sc_Counts_total : FnScope ["self"] ["self"] (defScope s_Counts_total) := ⟨rfl, rfl, rfl, by decide +kernel, rfl, by decide +kernel, by decide +kernel⟩
theorem ok_Counts_total {f : Addr} {fd : FuncData} (F : Fun K "total" "Counts.total" s_Counts_total f fd) (T : CT K C) : FnOk P w K mg base CX0 1 f fd ["self"] (sp_total C) := by
  refine F.ok sc_Counts_total (fun vs H Q E h => ?_) (fun cdv A outer s H vs Q E hr h => ?_)
  · obtain ⟨c, rs, s, tbl, rfl, _⟩ := h
    rfl
  · obtain ⟨c, rs, sg, tbl, rfl, cp, k⟩ := h
    refine ⟨_, (pss_one (ps_ret (pe_ix (ix_listK K) (pe_ix (ix_listK K) (pe_fld (pv 0) rfl) pe_int (fun _ _ => rfl)) pe_int (fun _ _ => rfl)))), ?_⟩
    obtain ⟨dx, tr, ls, lw, hc, htr, hls, hlw⟩ := cp.ex
    have hl := cp.len
    obtain ⟨vs, b, hv, hb0, hb⟩ := tbl_get hlw (p := 0) (by omega)
    have hr0 := cp.row (i := 0) (by omega)
    exact ⟨_, rfl, c, C, dx, _, _, rfl, hc, T.cl, T.nW, lk_ways _ _ _, lw, _, _, .ref b, rfl, rfl, SqL.of hv, atI_nat hb0, b, _, _, _, rfl, rfl, SqL.of hb, atI_nat (row_get (d := 0) (by omega)), k⟩
def sp_empty (C : Addr) : Sp := fun vs H Q _ => ∃ (c : Addr) (rs : List Nat) (s : Sight) (tbl : List (List Int)) (p d : Nat), vs = [.ref c, .int p, .int d] ∧ CP C H c rs s tbl ∧ p < s.length ∧ d ≤ rs.length ∧ Q (.int (emptyT (getT tbl) s p d)) H
theorem sc_Counts_empty_ways : FnScope ["self", "place", "done"] ["self", "place", "done"] (defScope s_Counts_empty_ways) := ⟨rfl, rfl, rfl, by decide +kernel, rfl, by decide +kernel, by decide +kernel⟩
theorem ok_Counts_empty_ways {f : Addr} {fd : FuncData} (F : Fun K "empty_ways" "Counts.empty_ways" s_Counts_empty_ways f fd) (T : CT K C) : FnOk P w K mg base CX0 1 f fd ["self", "place", "done"] (sp_empty C) := by
  refine F.ok sc_Counts_empty_ways (fun vs H Q E h => ?_) (fun cdv A outer s H vs Q E hr h => ?_)
  · obtain ⟨c, rs, s, tbl, p, d, rfl, _⟩ := h
    rfl
  · obtain ⟨c, rs, sg, tbl, p, d, rfl, cp, hp, hd, k⟩ := h
    refine ⟨_, (pss_cons (ps_if (pt_cmpR op_eq (pe_ix (ix_listK K) (pe_fld (pv 0) rfl) (pv 1) (fun _ _ => rfl)) pe_int (nomark _))
      (pss_one (ps_ret pe_int))
      pss_nil)
      (pss_one (ps_ret (pe_ix (ix_listK K) (pe_ix (ix_listK K) (pe_fld (pv 0) rfl) (pe_op op_add (pv 1) pe_int) (fun _ _ => rfl)) (pv 2) (fun _ _ => rfl))))), ?_⟩
    obtain ⟨dx, tr, ls, lw, hc, htr, hls, hlw⟩ := cp.ex
    have hl := cp.len
    refine ⟨_, rfl, c, C, dx, _, _, rfl, hc, T.cl, T.nS, lk_sight _ _ _, _, rfl, ls, _, _, _, rfl, rfl, SqL.of hls, atI_nat (sightV_get hp), vO_scal, _, rfl, ?_⟩
    have e0 : sg[p]? = some sg[p] := List.getElem?_eq_getElem hp
    unfold emptyT at k
    rw [e0] at k
    rw [vO_one]
    refine ite2 (fun hc1 => ?_) (fun hc1 => ?_)
    · rw [if_pos (by rw [of_decide_eq_true hc1])] at k
      exact k
    · rw [if_neg (fun z => hc1 (decide_eq_true (Option.some.inj z)))] at k
      obtain ⟨vs, b, hv, hb0, hb⟩ := tbl_get hlw (p := p + 1) (by omega)
      have hr1 := cp.row (i := p + 1) (by omega)
      exact ⟨_, rfl, c, C, dx, _, _, rfl, hc, T.cl, T.nW, lk_ways _ _ _, _, rfl, _, _, rfl, rfl, lw, _, _, .ref b, rfl, rfl, SqL.of hv, atI_nat hb0, _, rfl, b, _, _, _, rfl, rfl, SqL.of hb, atI_nat (row_get (d := d) (by omega)), k⟩
def sp_room (C : Addr) : Sp := fun vs H Q _ => ∃ (c : Addr) (rs : List Nat) (s : Sight) (tbl : List (List Int)) (p k : Nat), vs = [.ref c, .int p, .int k] ∧ CP C H c rs s tbl ∧ p < s.length ∧ ∀ H', Same H H' → Q (.bl (fitsB k (s.drop p))) H'
theorem sc_Counts_has_room : FnScope ["self", "place", "length", "end"] ["self", "place", "length"] (defScope s_Counts_has_room) := ⟨rfl, rfl, rfl, by decide +kernel, rfl, by decide +kernel, by decide +kernel⟩
theorem ok_Counts_has_room {f : Addr} {fd : FuncData} (F : Fun K "has_room" "Counts.has_room" s_Counts_has_room f fd) (B : Bt mg) (T : CT K C) : FnOk P w K mg base CX0 1 f fd ["self", "place", "length"] (sp_room C) := by
  refine F.ok sc_Counts_has_room (fun vs H Q E h => ?_) (fun cdv A outer s H vs Q E hr h => ?_)
  · obtain ⟨c, rs, s, tbl, p, d, rfl, _⟩ := h
    rfl
  · obtain ⟨c, rs, sg, tbl, p, kk, rfl, cp, hp, k⟩ := h
    refine ⟨_, (pss_cons (ps_set (i := 3) sc_Counts_has_room.nd rfl (Or.inl rfl) (pe_op op_add (pv 1) (pv 2)))
      (pss_cons (ps_if (PW.pt (pw_or (pt_cmpR op_gt (pv 3) (pe_callB (call_lenK K) rfl B.len bt_len (pa_cons (pe_fld (pv 0) rfl) pa_nil)) (nomark _)) (pw_or1 (pt_cmpR op_in_seq pe_int (pe_slice (sl_listK K) (pe_fld (pv 0) rfl) (po_some (pv 1)) (po_some (pv 3))) rfl))))
      (pss_one (ps_ret pe_bl))
      pss_nil)
      (pss_one (ps_ret (pe_or (pe_cmpR op_eq (pv 3) (pe_callB (call_lenK K) rfl B.len bt_len (pa_cons (pe_fld (pv 0) rfl) pa_nil)) (nomark _)) (pe_one (pe_cmpR op_ne (pe_ix (ix_listK K) (pe_fld (pv 0) rfl) (pv 3) (fun _ _ => rfl)) pe_int (nomark _)))))))), ?_⟩
    obtain ⟨dx, tr, ls, lw, hc, htr, hls, hlw⟩ := cp.ex
    have hsl : (sightV sg).length = sg.length := by unfold sightV; rw [List.length_map]
    refine ⟨_, rfl, _, rfl, _, _, rfl, rfl, ?_⟩
    refine ⟨_, rfl, _, rfl, c, C, dx, _, _, rfl, hc, T.cl, T.nS, lk_sight _ _ _, ls, _, rfl, .inl (SqL.of hls), _, _, rfl, rfl, _, rfl, ?_⟩
    have hdl : (sg.drop p).length = sg.length - p := List.length_drop
    refine ite2 (fun hc1 => iteT ?_) (fun hc1 => ?_)
    · have h1 : ((sightV sg).length : Int) < (p : Int) + (kk : Int) := of_decide_eq_true hc1
      rw [hsl] at h1
      have e : fitsB kk (sg.drop p) = false := by
        unfold fitsB
        rw [decide_eq_false (by rw [hdl]; omega)]
        rfl
      have q := k H (Same.refl H)
      rw [e] at q
      exact q
    · have h1 : ¬ ((sightV sg).length : Int) < (p : Int) + (kk : Int) := fun z => hc1 (decide_eq_true z)
      rw [hsl] at h1
      have h2 : p + kk ≤ sg.length := by omega
      refine ⟨_, rfl, c, C, dx, _, _, rfl, hc, T.cl, T.nS, lk_sight _ _ _, _, rfl, _, rfl, _, rfl, _, rfl, ls, _, rfl, SqL.of hls, fun z hz => ?_⟩
      have s1 : Same H (upd H z (.lst (cutV (sightV sg) (some (p : Int)) (some ((p : Int) + (kk : Int)))))) := same_upd hz
      refine ⟨z, _, rfl, .inl (SqL.of upd_same), rfl, (by rw [cut_sight h2]; exact sight_flat _), _, rfl, ?_⟩
      rw [cut_sight h2] at s1 ⊢
      rw [show (if false = true then !inV (V.int 0) (sightV ((sg.drop p).take kk)) else inV (V.int 0) (sightV ((sg.drop p).take kk))) = inV (V.int 0) (sightV ((sg.drop p).take kk)) from rfl, sight_in0]
      cases hall : (((sg.drop p).take kk).all fun x => decide (x ≠ some 0)) with
      | false =>
        refine iteT ?_
        have e : fitsB kk (sg.drop p) = false := by
          unfold fitsB
          rw [hall, Bool.and_false, Bool.false_and]
        have q := k _ s1
        rw [e] at q
        exact q
      | true =>
        refine iteF ?_
        have hc2 := s1 _ _ hc
        have hls2 := s1 _ _ hls
        have e : fitsB kk (sg.drop p) = (decide (kk = sg.length - p) || decide ((sg.drop p)[kk]? ≠ some (some 1))) := by
          unfold fitsB
          rw [hall, decide_eq_true (show kk ≤ (sg.drop p).length by rw [hdl]; omega), hdl]
          rfl
        have q := k _ s1
        rw [e] at q
        refine ⟨_, rfl, _, rfl, c, C, dx, _, _, rfl, hc2, T.cl, T.nS, lk_sight _ _ _, ls, _, rfl, .inl (SqL.of hls2), rfl, _, rfl, ?_⟩
        rw [hsl]
        by_cases h3 : p + kk = sg.length
        · have e1 : decide (V.int ((p : Int) + (kk : Int)) = V.int (sg.length : Nat)) = true := dec_int1.mpr (by omega)
          rw [e1]
          rw [decide_eq_true (show kk = sg.length - p by omega)] at q
          exact iteT q
        · have e1 : decide (V.int ((p : Int) + (kk : Int)) = V.int (sg.length : Nat)) = false := decide_eq_false (fun z => h3 (by have := V.int.inj z; omega))
          rw [e1]
          rw [decide_eq_false (show ¬ kk = sg.length - p by omega), Bool.false_or] at q
          refine iteF ?_
          have h4 : p + kk < sg.length := by omega
          have e2 : (p : Int) + (kk : Int) = ((p + kk : Nat) : Int) := by omega
          have hg : atI (sightV sg) ((p : Int) + (kk : Int)) = some (vO sg[p + kk]) := by rw [e2]; exact atI_nat (sightV_get h4)
          refine ⟨_, rfl, c, C, dx, _, _, rfl, hc2, T.cl, T.nS, lk_sight _ _ _, _, rfl, ls, _, _, _, rfl, rfl, SqL.of hls2, hg, vO_scal, ?_⟩
          rw [vO_one]
          rw [List.getElem?_drop, List.getElem?_eq_getElem h4] at q
          have e3 : (!decide (sg[p + kk] = some 1)) = decide (some sg[p + kk] ≠ some (some (1 : Int))) := by
            by_cases h5 : sg[p + kk] = some 1
            · rw [h5]; rfl
            · have h6 : some sg[p + kk] ≠ some (some (1 : Int)) := fun z => h5 (Option.some.inj z)
              rw [decide_eq_false h5, decide_eq_true h6]; rfl
          rw [e3]
          exact q
def sp_behind (C : Addr) : Sp := fun vs H Q _ => ∃ (c : Addr) (rs : List Nat) (s : Sight) (tbl : List (List Int)) (p d : Nat), vs = [.ref c, .int p, .int d] ∧ CP C H c rs s tbl ∧ d < rs.length ∧ Q (.int (min (p + rs.getD d 0 + 1) s.length : Nat)) H
theorem sc_Counts_place_behind : FnScope ["self", "place", "done"] ["self", "place", "done"] (defScope s_Counts_place_behind) := ⟨rfl, rfl, rfl, by decide +kernel, rfl, by decide +kernel, by decide +kernel⟩
theorem ok_Counts_place_behind {f : Addr} {fd : FuncData} (F : Fun K "place_behind" "Counts.place_behind" s_Counts_place_behind f fd) (B : Bt mg) (T : CT K C) : FnOk P w K mg base CX0 1 f fd ["self", "place", "done"] (sp_behind C) := by
  refine F.ok sc_Counts_place_behind (fun vs H Q E h => ?_) (fun cdv A outer s H vs Q E hr h => ?_)
  · obtain ⟨c, rs, s, tbl, p, d, rfl, _⟩ := h
    rfl
  · obtain ⟨c, rs, sg, tbl, p, d, rfl, cp, hd, k⟩ := h
    refine ⟨_, (pss_one (ps_ret (pe_callB (call_min2 rfl) rfl B.min bt_min (pa_cons (pe_op op_add (pe_op op_add (pv 1) (pe_ix (ix_tupK K) (pe_fld (pv 0) rfl) (pv 2) (fun _ _ => rfl))) pe_int) (pa_cons (pe_callB (call_lenK K) rfl B.len bt_len (pa_cons (pe_fld (pv 0) rfl) pa_nil)) pa_nil))))), ?_⟩
    obtain ⟨dx, tr, ls, lw, hc, htr, hls, hlw⟩ := cp.ex
    have hsl : (sightV sg).length = sg.length := by unfold sightV; rw [List.length_map]
    refine ⟨_, rfl, _, rfl, c, C, dx, _, _, rfl, hc, T.cl, T.nR, lk_runs _ _ _, _, rfl, tr, _, _, _, rfl, rfl, SqT.of htr, atI_nat (runsV_get hd), _, _, rfl, rfl, _, _, rfl, rfl, _, rfl, c, C, dx, _, _, rfl, hc, T.cl, T.nS, lk_sight _ _ _, ls, _, rfl, .inl (SqL.of hls), _, _, rfl, ?_⟩
    have e : (if ((sightV sg).length : Int) < (p : Int) + (rs.getD d 0 : Nat) + 1 then ((sightV sg).length : Int) else (p : Int) + (rs.getD d 0 : Nat) + 1) = (min (p + rs.getD d 0 + 1) sg.length : Nat) := by
      rw [hsl]
      split <;> omega
    rw [e]
    exact k
def sp_full (C : Addr) : Sp := fun vs H Q _ => ∃ (c : Addr) (rs : List Nat) (s : Sight) (tbl : List (List Int)) (p d : Nat), vs = [.ref c, .int p, .int d] ∧ CP C H c rs s tbl ∧ p < s.length ∧ d ≤ rs.length ∧ ∀ H', Same H H' → Q (.int (fullT (getT tbl) rs s p d)) H'
theorem sc_Counts_full_ways : FnScope ["self", "place", "done"] ["self", "place", "done"] (defScope s_Counts_full_ways) := ⟨rfl, rfl, rfl, by decide +kernel, rfl, by decide +kernel, by decide +kernel⟩
theorem ok_Counts_full_ways {f : Addr} {fd : FuncData} (F : Fun K "full_ways" "Counts.full_ways" s_Counts_full_ways f fd) (B : Bt mg) (T : CT K C) (m_has_room : Method P w K mg base CX0 C "has_room" 1 ["self", "place", "length"] (sp_room C)) (m_place_behind : Method P w K mg base CX0 C "place_behind" 1 ["self", "place", "done"] (sp_behind C)) :
    FnOk P w K mg base CX0 2 f fd ["self", "place", "done"] (sp_full C) := by
  refine F.ok sc_Counts_full_ways (fun vs H Q E h => ?_) (fun cdv A outer s H vs Q E hr h => ?_)
  · obtain ⟨c, rs, s, tbl, p, d, rfl, _⟩ := h
    rfl
  · obtain ⟨c, rs, sg, tbl, p, d, rfl, cp, hp, hd, k⟩ := h
    refine ⟨_, (pss_cons (ps_if (PW.pt (pw_or (pt_cmpR op_eq (pv 2) (pe_callB (call_lenK K) rfl B.len bt_len (pa_cons (pe_fld (pv 0) rfl) pa_nil)) (nomark _)) (pw_or1 (pt_not (pt_val (pe_met m_has_room (pv 0) hr (pa_cons (pv 1) (pa_cons (pe_ix (ix_tupK K) (pe_fld (pv 0) rfl) (pv 2) (fun _ _ => rfl)) pa_nil))))))))
      (pss_one (ps_ret pe_int))
      pss_nil)
      (pss_one (ps_ret (pe_ix (ix_listK K) (pe_ix (ix_listK K) (pe_fld (pv 0) rfl) (pe_met m_place_behind (pv 0) hr (pa_cons (pv 1) (pa_cons (pv 2) pa_nil))) (fun _ _ => rfl)) (pe_op op_add (pv 2) pe_int) (fun _ _ => rfl))))), ?_⟩
    obtain ⟨dx, tr, ls, lw, hc, htr, hls, hlw⟩ := cp.ex
    have hl := cp.len
    have hrl : (runsV rs).length = rs.length := by unfold runsV; rw [List.length_map]
    refine ⟨_, rfl, _, rfl, c, C, dx, _, _, rfl, hc, T.cl, T.nR, lk_runs _ _ _, tr, _, rfl, .inr (SqT.of htr), rfl, _, rfl, ?_⟩
    rw [hrl]
    unfold fullT at k
    by_cases hdl : d = rs.length
    · rw [dec_int1.mpr (show ((d : Nat) : Int) = (rs.length : Nat) by omega)]
      refine iteT (iteT ?_)
      have q := k H (Same.refl H)
      rw [if_pos hdl] at q
      exact q
    · have e1 : decide (V.int (d : Nat) = V.int (rs.length : Nat)) = false := decide_eq_false (fun z => hdl (by have := V.int.inj z; omega))
      rw [e1]
      refine iteF ?_
      have hd' : d < rs.length := by omega
      refine ⟨_, rfl, c, dx, _, rfl, hc, lk_no _ _ _ (by decide +kernel) (by decide +kernel) (by decide +kernel), _, rfl, _, rfl, c, C, dx, _, _, rfl, hc, T.cl, T.nR, lk_runs _ _ _, _, rfl, tr, _, _, _, rfl, rfl, SqT.of htr, atI_nat (runsV_get hd'), c, rs, sg, tbl, p, _, rfl, cp, hp, fun H1 s1 => ⟨_, rfl, ?_⟩⟩
      have q := k H1 s1
      rw [if_neg hdl] at q
      cases hf : fitsB (rs.getD d 0) (sg.drop p) with
      | false =>
        rw [hf] at q
        exact iteT q
      | true =>
        rw [hf] at q
        refine iteF ?_
        have cp1 := cp.mono s1
        have hc1 := s1 _ _ hc
        have hlw1 := IsD.mono s1 hlw
        have hm : min (p + rs.getD d 0 + 1) sg.length ≤ sg.length := Nat.min_le_right _ _
        obtain ⟨vs, b, hv, hb0, hb⟩ := tbl_get hlw1 (p := min (p + rs.getD d 0 + 1) sg.length) (by omega)
        have hr1 := cp.row hm
        exact ⟨_, rfl, c, C, dx, _, _, rfl, hc1, T.cl, T.nW, lk_ways _ _ _, _, rfl, c, dx, _, rfl, hc1, lk_no _ _ _ (by decide +kernel) (by decide +kernel) (by decide +kernel), _, rfl, _, rfl, c, rs, sg, tbl, p, d, rfl, cp1, hd', lw, _, _, .ref b, rfl, rfl, SqL.of hv, atI_nat hb0, _, rfl, _, _, rfl, rfl, b, _, _, _, rfl, rfl, SqL.of hb, atI_nat (row_get (d := d + 1) (by omega)), q⟩
def sp_run_cells (C : Addr) : Sp := fun vs H Q _ => ∃ (c : Addr) (rs : List Nat) (s : Sight) (tbl : List (List Int)) (p d : Nat), vs = [.ref c, .int p, .int d] ∧ CP C H c rs s tbl ∧ d < rs.length ∧ rs.getD d 0 ≤ 500 ∧
  ∀ l H', Same H H' → H l = none → H' l = some (.lst ((runCells (rs.getD d 0) (s.length - p)).map V.int)) → Q (.ref l) H'
theorem sc_Counts_run_cells : FnScope ["self", "place", "done", "cells"] ["self", "place", "done"] (defScope s_Counts_run_cells) := ⟨rfl, rfl, rfl, by decide +kernel, rfl, by decide +kernel, by decide +kernel⟩
theorem ok_Counts_run_cells {f : Addr} {fd : FuncData} (F : Fun K "run_cells" "Counts.run_cells" s_Counts_run_cells f fd) (B : Bt mg) (T : CT K C) : FnOk P w K mg base CX0 1 f fd ["self", "place", "done"] (sp_run_cells C) := by
  refine F.ok sc_Counts_run_cells (fun vs H Q E h => ?_) (fun cdv A outer s H vs Q E hr h => ?_)
  · obtain ⟨c, rs, s, tbl, p, d, rfl, _⟩ := h
    rfl
  · obtain ⟨c, rs, sg, tbl, p, d, rfl, cp, hd, hk, k⟩ := h
    refine ⟨_, (pss_cons (ps_set (i := 3) sc_Counts_run_cells.nd rfl (Or.inl rfl) (pe_op op_rep (pe_lst (pa_cons pe_int pa_nil)) (pe_ix (ix_tupK K) (pe_fld (pv 0) rfl) (pv 2) (fun _ _ => rfl))))
      (pss_cons (ps_if (pt_cmpR op_lt (pe_op op_add (pv 1) (pe_callB (call_lenK K) rfl B.len bt_len (pa_cons (pv 3) pa_nil))) (pe_callB (call_lenK K) rfl B.len bt_len (pa_cons (pe_fld (pv 0) rfl) pa_nil)) (nomark _))
      (pss_one (ps_expr (pe_bm PySem.F.plainAttrs_list PySem.F.slot_list_append PySem.F.type_list_append mt_append (pv 3) (pa_cons pe_int pa_nil))))
      pss_nil)
      (pss_one (ps_ret (pv 3))))), ?_⟩
    obtain ⟨dx, tr, ls, lw, hc, htr, hls, hlw⟩ := cp.ex
    generalize hkk : rs.getD d 0 = kk at hk k
    have hrg := runsV_get hd
    rw [hkk] at hrg
    refine ⟨(by show 1 ≤ sizeLine; decide), fun l0 hl0 => ?_⟩
    have s0 : Same H (upd H l0 (.lst [V.int 1])) := same_upd hl0
    have hc0 := s0 _ _ hc
    refine ⟨_, rfl, c, C, dx, _, _, rfl, hc0, T.cl, T.nR, lk_runs _ _ _, _, rfl, tr, _, _, _, rfl, rfl, SqT.of (s0 _ _ htr), atI_nat hrg, l0, _, _, rfl, rfl, upd_same, by omega, by omega, (by show 1 * ((kk : Int)).toNat ≤ sizeLine; have := small1000 (n := kk) (by omega); rw [Int.toNat_natCast]; omega), ?_⟩
    have erep : (List.replicate ((kk : Int)).toNat [V.int 1]).flatten = (List.replicate kk (1 : Int)).map V.int := by
      rw [Int.toNat_natCast]
      simp
    intro l1 hl1
    rw [erep]
    have nl1 : H l1 = none := s0.free hl1
    have s1 : Same H (upd (upd H l0 (.lst [V.int 1])) l1 (.lst ((List.replicate kk (1 : Int)).map V.int))) := same_upd' s0 nl1
    have hc1 := s1 _ _ hc
    refine ⟨_, rfl, _, rfl, l1, _, rfl, .inl (SqL.of upd_same), _, _, rfl, rfl, _, rfl, c, C, dx, _, _, rfl, hc1, T.cl, T.nS, lk_sight _ _ _, ls, _, rfl, .inl (SqL.of (s1 _ _ hls)), _, _, rfl, rfl, _, rfl, ?_⟩
    have hsl : (sightV sg).length = sg.length := by unfold sightV; rw [List.length_map]
    have hrl : ((List.replicate kk (1 : Int)).map V.int).length = kk := by simp
    rw [hsl, hrl]
    refine ite2 (fun hc2 => ?_) (fun hc2 => ?_)
    · have h2 : (p : Int) + (kk : Nat) < (sg.length : Nat) := of_decide_eq_true hc2
      refine ⟨_, rfl, .inl ⟨rfl, _, SqL.of upd_same⟩, l1, _, _, rfl, rfl, upd_same, small1000 (by rw [hrl]; omega), ?_⟩
      rw [upd_upd]
      refine ⟨_, rfl, k l1 _ (same_upd' s0 nl1) nl1 ?_⟩
      rw [upd_same]
      unfold runCells
      rw [if_pos (by omega), List.map_append]
      rfl
    · have h2 : ¬ (p : Int) + (kk : Nat) < (sg.length : Nat) := fun z => hc2 (decide_eq_true z)
      refine ⟨_, rfl, k l1 _ s1 nl1 ?_⟩
      rw [upd_same]
      unfold runCells
      rw [if_neg (by omega), List.append_nil]
end

section
variable {P : Program} {w : World} {K : PySem.W.Frag} {mg : Str → Option Value} {base : Heap} {C : Addr}
def sp_init (C : Addr) : Sp := fun vs H Q _ => ∃ (c dx tr ls : Addr) (rs : List Nat) (s : Sight), vs = [.ref c, .ref tr, .ref ls] ∧ H c = some (.ins C dx []) ∧ H tr = some (.tup (runsV rs)) ∧ H ls = some (.lst (sightV s)) ∧ s.length ≤ 100 ∧ rs.length ≤ 100 ∧
  ∀ H', (∀ b o, H b = some o → b ≠ c → H' b = some o) → CP C H' c rs s (wholeT rs s) → Q .non H'
theorem sc_Counts___init__ : FnScope ["self", "runs", "sight", "place", "done"] ["self", "runs", "sight"] (defScope s_Counts___init__) := ⟨rfl, rfl, rfl, by decide +kernel, rfl, by decide +kernel, by decide +kernel⟩
theorem ok_Counts___init__ {f : Addr} {fd : FuncData} (F : Fun K "__init__" "Counts.__init__" s_Counts___init__ f fd) (B : Bt mg) (T : CT K C) (m_empty_ways : Method P w K mg base CX0 C "empty_ways" 1 ["self", "place", "done"] (sp_empty C)) (m_full_ways : Method P w K mg base CX0 C "full_ways" 2 ["self", "place", "done"] (sp_full C)) :
    FnOk P w K mg base CX0 3 f fd ["self", "runs", "sight"] (sp_init C) := by
  refine F.ok sc_Counts___init__ (fun vs H Q E h => ?_) (fun cdv A outer s H vs Q E hr h => ?_)
  · obtain ⟨c, dx, tr, ls, rs, s, rfl, _⟩ := h
    rfl
  · obtain ⟨c, dx, tr, ls, rs, sg, rfl, hc, htr, hls, hn, hrn, k⟩ := h
    refine ⟨_, (pss_cons (ps_fld (pv 0) (pe_callTy (call_tupleK K) rfl B.tuple bt_tuple (pa_cons (pv 1) pa_nil)) rfl)
      (pss_cons (ps_fld (pv 0) (pe_callTy (call_listK K) rfl B.list bt_list (pa_cons (pv 2) pa_nil)) rfl)
      (pss_cons (ps_fld (pv 0) (pe_comp ["place"] [1] ⟨rfl, rfl, rfl, rfl, rfl⟩ rfl (pi_range1 rfl B.range (pa_cons (pe_op op_add (pe_callB (call_lenK K) rfl B.len bt_len (pa_cons (pv 2) pa_nil)) pe_int) pa_nil)) (fun _ _ _ _ _ => (pg_name (i := 0) (show (["place", "runs"] : List Str).Nodup by decide +kernel) rfl (Or.inl rfl))) (fun _ _ _ _ _ => pcb_elt (pe_op op_rep (pe_lst (pa_cons pe_int pa_nil)) (pe_op op_add (pe_callB (call_lenK K) rfl B.len bt_len (pa_cons (pv 1) pa_nil)) pe_int)))) rfl)
      (pss_cons (ps_asg pe_int (pg_sub (pe_ix (ix_listK K) (pe_fld (pv 0) rfl) (pe_callB (call_lenK K) rfl B.len bt_len (pa_cons (pv 2) pa_nil)) (fun _ _ => rfl)) (pe_callB (call_lenK K) rfl B.len bt_len (pa_cons (pv 1) pa_nil)) set_list))
      (pss_one (ps_for PassesOwn.never rfl (pi_rangeD rfl B.range (pa_cons (pe_op op_sub (pe_callB (call_lenK K) rfl B.len bt_len (pa_cons (pv 2) pa_nil)) pe_int) (pa_cons (pe_un un_neg pe_int) (pa_cons (pe_un un_neg pe_int) pa_nil)))) (pg_name (i := 3) sc_Counts___init__.nd rfl (Or.inl rfl))
      (pss_one (ps_for PassesOwn.never rfl (pi_range1 rfl B.range (pa_cons (pe_op op_add (pe_callB (call_lenK K) rfl B.len bt_len (pa_cons (pv 1) pa_nil)) pe_int) pa_nil)) (pg_name (i := 4) sc_Counts___init__.nd rfl (Or.inl rfl))
      (pss_one (ps_asg (pe_op op_add (pe_met m_empty_ways (pv 0) hr (pa_cons (pv 3) (pa_cons (pv 4) pa_nil))) (pe_met m_full_ways (pv 0) hr (pa_cons (pv 3) (pa_cons (pv 4) pa_nil)))) (pg_sub (pe_ix (ix_listK K) (pe_fld (pv 0) rfl) (pv 3) (fun _ _ => rfl)) (pv 4) set_list))))))))))), ?_⟩
    have hsl : (sightV sg).length = sg.length := by unfold sightV; rw [List.length_map]
    have hrl : (runsV rs).length = rs.length := by unfold runsV; rw [List.length_map]
    have nct : tr ≠ c := ne_of htr hc (by intro z; cases z)
    have ncl : ls ≠ c := ne_of hls hc (by intro z; cases z)
    -- self.runs, self.sight
    refine ⟨_, rfl, tr, _, rfl, .inr ⟨SqT.of htr, _, rfl, c, C, dx, [], rfl, hc, T.cl, T.nR, (by show 0 < 1000; decide), ?_⟩⟩
    have hls1 : ∀ o, (upd H c o) ls = some (.lst (sightV sg)) := fun o => by rw [upd_ne ncl]; exact hls
    refine ⟨_, rfl, ls, _, rfl, .inl (SqL.of (hls1 _)), fun l1 hl1 => ?_⟩
    have n1c : l1 ≠ c := fun z => by rw [z, upd_same] at hl1; cases hl1
    have nl1 : H l1 = none := by rw [upd_ne n1c] at hl1; exact hl1
    refine ⟨_, rfl, c, C, dx, _, rfl, (by rw [upd_ne (Ne.symm n1c), upd_same]), T.cl, T.nS, (by have := length_putF "runs" (V.ref tr) []; simp at this; omega), ?_⟩
    -- the heap with the two fields
    have hA : upd (upd (upd H c (.ins C dx (putF "runs" (.ref tr) []))) l1 (.lst (sightV sg))) c (.ins C dx (putF "sight" (.ref l1) (putF "runs" (.ref tr) []))) = upd (upd H l1 (.lst (sightV sg))) c (.ins C dx (putF "sight" (.ref l1) (putF "runs" (.ref tr) []))) := upd_swap (Ne.symm n1c)
    rw [hA]
    generalize hHA : upd (upd H l1 (.lst (sightV sg))) c (.ins C dx (putF "sight" (.ref l1) (putF "runs" (.ref tr) []))) = HA
    have kA : ∀ b o, H b = some o → b ≠ c → HA b = some o := fun b o e nb => by rw [← hHA, upd_ne nb, upd_ne (ne_of_none e nl1)]; exact e
    have hcA : HA c = some (.ins C dx (putF "sight" (.ref l1) (putF "runs" (.ref tr) []))) := by rw [← hHA]; exact upd_same
    have htrA := kA _ _ htr nct
    have hlsA := kA _ _ hls ncl
    have hl1A : HA l1 = some (.lst (sightV sg)) := by rw [← hHA, upd_ne n1c, upd_same]
    have nA : ∀ b, HA b = none → H b = none := fun b e => by
      cases q : H b with
      | none => rfl
      | some o =>
        by_cases hb : b = c
        · rw [hb, hcA] at e; cases e
        · rw [kA b o q hb] at e; cases e
    -- self.ways
    have e1 : ((sightV sg).length : Int) + 1 = ((sg.length + 1 : Nat) : Int) := by rw [hsl]; omega
    refine ⟨_, rfl, ls, _, rfl, .inl (SqL.of hlsA), _, _, rfl, rfl, ((sg.length + 1 : Nat) : Int), (by rw [← e1]), by omega, by omega, comp_range (fun i ys H' => ∃ as, ys = as.map V.ref ∧ Grow HA (fun _ => List.replicate (rs.length + 1) 0) i as H') ⟨[], rfl, Grow.zero⟩ ?_ ?_ ?_ ?_⟩
    · exact Nat.le_of_lt (small1000 (by omega))
    · rintro i ys H' ⟨as, rfl, g⟩
      rw [List.length_map, g.len]
      omega
    · rintro i ys H' hi ⟨as, rfl, g⟩
      refine ⟨rfl, ?_⟩
      refine ⟨(by show 1 ≤ sizeLine; decide), fun z hz => ?_⟩
      have s0 : Same H' (upd H' z (.lst [V.int 0])) := same_upd hz
      have e2 : ((runsV rs).length : Int) + 1 = ((rs.length + 1 : Nat) : Int) := by rw [hrl]; omega
      refine ⟨_, rfl, tr, _, rfl, .inr (SqT.of (s0 _ _ (g.same _ _ htrA))), _, _, rfl, rfl, z, ((rs.length + 1 : Nat) : Int), _, rfl, (by rw [← e2]), upd_same, by omega, by omega, (by show 1 * ((rs.length + 1 : Nat) : Int).toNat ≤ sizeLine; have := small1000 (n := rs.length + 1) (by omega); rw [Int.toNat_natCast]; omega), fun b hb => ?_⟩
      refine ⟨as ++ [b], by rw [List.map_append]; rfl, g.next (s0.trans (same_upd hb)) (s0.free hb) ?_⟩
      rw [upd_same, Int.toNat_natCast]
      simp
    rintro ys HB ⟨as, rfl, g⟩ lw hlw
    rw [Int.toNat_natCast] at g
    -- the rows apart
    have nas : ∀ b o, HA b = some o → b ∉ as := fun b o e z => by rw [g.new b z] at e; cases e
    have nlwas : lw ∉ as := g.there hlw
    have nlw : HA lw = none := g.same.free hlw
    have nlwc : lw ≠ c := fun z => by rw [z, hcA] at nlw; cases nlw
    have hcB := g.same _ _ hcA
    refine ⟨_, rfl, c, C, dx, _, rfl, (by rw [upd_ne (Ne.symm nlwc)]; exact hcB), T.cl, T.nW, (by have h1 := length_putF "sight" (V.ref l1) (putF "runs" (V.ref tr) []); have h2 := length_putF "runs" (V.ref tr) []; simp at h2; omega), ?_⟩
    generalize hHb : upd (upd HB lw (.lst (as.map V.ref))) c (.ins C dx (putF "ways" (.ref lw) (putF "sight" (.ref l1) (putF "runs" (.ref tr) [])))) = Hb
    have kB : ∀ b o, HA b = some o → b ≠ c → Hb b = some o := fun b o e nb => by
      have nb2 : b ≠ lw := ne_of_none e nlw
      rw [← hHb, upd_ne nb, upd_ne nb2]; exact g.same _ _ e
    have hcb : Hb c = some (.ins C dx (cflds tr l1 lw)) := by rw [← hHb]; exact upd_same
    have htrb := kB _ _ htrA nct
    have hlsb := kB _ _ hlsA ncl
    have hl1b := kB _ _ hl1A n1c
    have hlwb : Hb lw = some (.lst (as.map V.ref)) := by rw [← hHb, upd_ne nlwc, upd_same]
    have hrows : RowsAt Hb as ((List.range (sg.length + 1)).map fun _ => List.replicate (rs.length + 1) 0) := by
      refine ⟨by rw [List.length_map, List.length_range]; exact g.len, fun i a xs q1 q2 => ?_⟩
      have q := g.rows.2 i a xs q1 q2
      have ha := List.mem_of_getElem? q1
      have na : a ≠ c := fun z => nas c _ hcA (by rw [← z]; exact ha)
      have na2 : a ≠ lw := fun z => nlwas (by rw [← z]; exact ha)
      rw [← hHb, upd_ne na, upd_ne na2]
      exact q
    have ncas : c ∉ as := nas c _ hcA
    have ntas : tr ∉ as := nas tr _ htrA
    have nl1as : l1 ∉ as := nas l1 _ hl1A
    have nlsas : ls ∉ as := nas ls _ hlsA
    -- ways[len(sight)][len(runs)] = 1
    generalize ht0 : ((List.range (sg.length + 1)).map fun _ => List.replicate (rs.length + 1) (0 : Int)) = tbl0 at hrows
    have htl0 : tbl0.length = sg.length + 1 := by rw [← ht0]; simp
    have htw0 : ∀ row ∈ tbl0, row.length = rs.length + 1 := fun row hrow => by
      rw [← ht0] at hrow
      obtain ⟨_, _, rfl⟩ := List.mem_map.mp hrow
      simp
    have hg0 : ∀ p d, p ≤ sg.length → d ≤ rs.length → getT tbl0 p d = 0 := fun p d hp hd => by
      unfold getT
      rw [← ht0, getD_of (x := List.replicate (rs.length + 1) (0 : Int)) (by rw [List.getElem?_map, List.getElem?_range (by omega)]; rfl), List.getD_eq_getElem?_getD, List.getElem?_replicate, if_pos (by omega)]
      rfl
    have hasl : as.length = sg.length + 1 := g.len
    obtain ⟨an, han⟩ : ∃ an, as[sg.length]? = some an := ⟨_, List.getElem?_eq_getElem (by omega)⟩
    have hrowget : ∀ {i : Nat} {a : Addr} {H' : Hp} {tbl : List (List Int)}, RowsAt H' as tbl → as[i]? = some a → H' a = some (.lst ((tbl.getD i []).map V.int)) := fun {i a H' tbl} r e => by
      have hi : i < tbl.length := by rw [← r.1]; exact (List.getElem?_eq_some_iff.mp e).1
      rw [getD_of (List.getElem?_eq_getElem hi)]
      exact r.2 i a _ e (List.getElem?_eq_getElem hi)
    have hwidget : ∀ {i : Nat} {tbl : List (List Int)}, tbl.length = sg.length + 1 → (∀ row ∈ tbl, row.length = rs.length + 1) → i ≤ sg.length → (tbl.getD i []).length = rs.length + 1 := fun {i tbl} h1 h2 h3 => by
      have hi : i < tbl.length := by omega
      rw [getD_of (List.getElem?_eq_getElem hi)]
      exact h2 _ (List.getElem_mem hi)
    have hvget : ∀ {i : Nat} {a : Addr}, as[i]? = some a → (as.map V.ref)[i]? = some (.ref a) := fun e => by rw [List.getElem?_map, e]; rfl
    have hix0 : atI (as.map V.ref) ((sightV sg).length : Nat) = some (.ref an) := by rw [hsl]; exact atI_nat (hvget han)
    have hrow0 := hrowget hrows han
    refine ⟨_, rfl, c, C, dx, _, _, rfl, hcb, T.cl, T.nW, lk_ways _ _ _, _, rfl, ls, _, rfl, .inl (SqL.of hlsb), lw, _, _, .ref an, rfl, rfl, SqL.of hlwb, hix0, _, rfl, tr, _, rfl, .inr (SqT.of htrb), an, _, _, rs.length, rfl, rfl, hrow0, ?_, ?_⟩
    · rw [List.length_map, hwidget htl0 htw0 (Nat.le_refl _), hrl]
      unfold ixN
      rw [if_pos (by omega), if_pos (by omega)]
      rfl
    have hmem_an := List.mem_of_getElem? han
    have hrows1 := hrows.set g.nd han ((tbl0.getD sg.length []).set rs.length 1)
    rw [List.map_set] at hrows1
    generalize hH1 : upd Hb an (.lst (((tbl0.getD sg.length []).map V.int).set rs.length (V.int 1))) = H1 at hrows1 ⊢
    have kb1 : KeptBut Hb H1 as := by rw [← hH1]; exact (KeptBut.refl Hb as).upd hmem_an
    generalize ht1 : tbl0.set sg.length ((tbl0.getD sg.length []).set rs.length 1) = tbl1 at hrows1
    have htl1 : tbl1.length = sg.length + 1 := by rw [← ht1, List.length_set]; exact htl0
    have htw1 : ∀ row ∈ tbl1, row.length = rs.length + 1 := by rw [← ht1]; exact set_wid (by omega) htw0
    have hg1 : ∀ p d, sg.length ≤ p → p ≤ sg.length → d ≤ rs.length → getT tbl1 p d = wayT rs sg p d := fun p d h1 h2 h3 => by
      have hp : p = sg.length := by omega
      subst hp
      rw [← ht1, getT_set (by omega) (by rw [hwidget htl0 htw0 (Nat.le_refl _)]; omega), wayT_end rs sg h3]
      by_cases hd : d = rs.length
      · rw [if_pos ⟨rfl, hd⟩, if_pos hd]
      · rw [if_neg (fun z => hd z.2), if_neg hd]
        exact hg0 _ d (Nat.le_refl _) h3
    -- the loops
    have e3 : ((sightV sg).length : Int) - 1 = (sg.length : Int) - 1 := by rw [hsl]
    refine ⟨_, rfl, ls, _, rfl, .inl (SqL.of (kb1 _ _ hlsb nlsas)), _, _, rfl, rfl, _, rfl, _, rfl, (sg.length : Int) - 1, -1, (by rw [← e3]), ⟨by omega, by omega, by omega, by omega⟩, for_down (hi := (sg.length : Int) - 1) (n := ((sg.length : Int) - 1 - (-1)).toNat) (fun i σ H2 => ∃ (o3 o4 : Option V) (tbl : List (List Int)), σ = [some (.ref c), some (.ref tr), some (.ref ls), o3, o4] ∧
      KeptBut Hb H2 as ∧ RowsAt H2 as tbl ∧ tbl.length = sg.length + 1 ∧ (∀ row ∈ tbl, row.length = rs.length + 1) ∧ ∀ p d, sg.length - i ≤ p → p ≤ sg.length → d ≤ rs.length → getT tbl p d = wayT rs sg p d) ⟨none, none, tbl1, rfl, kb1, hrows1, htl1, htw1, fun p d h1 => hg1 p d (by omega)⟩ ?_ ?_⟩
    · rintro i σ H2 hi ⟨o3, o4, tbl, rfl, kb, hrw, htl, htw, hgt⟩
      have hi' : i < sg.length := by omega
      obtain ⟨p, hp⟩ : ∃ p : Nat, (sg.length : Int) - 1 - (i : Nat) = p := ⟨sg.length - 1 - i, by omega⟩
      have hpl : p < sg.length := by omega
      have hpe : sg.length - i = p + 1 := by omega
      show gName 3 (V.int ((sg.length : Int) - 1 - (i : Nat))) _ _ _
      rw [hp]
      have e4 : ((runsV rs).length : Int) + 1 = ((rs.length + 1 : Nat) : Int) := by rw [hrl]; omega
      obtain ⟨ap, hap⟩ : ∃ ap, as[p]? = some ap := ⟨_, List.getElem?_eq_getElem (by omega)⟩
      have hapm := List.mem_of_getElem? hap
      refine ⟨_, rfl, tr, _, rfl, .inr (SqT.of (kb _ _ htrb ntas)), _, _, rfl, rfl, ((rs.length + 1 : Nat) : Int), (by rw [← e4]), by omega, by omega, for_range (lo := 0) (n := ((rs.length + 1 : Nat) : Int).toNat) (fun j σ H3 => ∃ (o4 : Option V) (tbl : List (List Int)), σ = [some (.ref c), some (.ref tr), some (.ref ls), some (.int p), o4] ∧
        KeptBut Hb H3 as ∧ RowsAt H3 as tbl ∧ tbl.length = sg.length + 1 ∧ (∀ row ∈ tbl, row.length = rs.length + 1) ∧ (∀ p' d, p + 1 ≤ p' → p' ≤ sg.length → d ≤ rs.length → getT tbl p' d = wayT rs sg p' d) ∧ ∀ d, d < j → d ≤ rs.length → getT tbl p d = wayT rs sg p d)
        ⟨_, tbl, rfl, kb, hrw, htl, htw, fun p' d h1 => hgt p' d (by omega), fun d h => by omega⟩ ?_ ?_⟩
      · rintro j σ H3 hj ⟨o4, tb, rfl, kb3, hrw3, htl3, htw3, hgA, hgB⟩
        have hj' : j ≤ rs.length := by omega
        have ej : (0 : Int) + (j : Nat) = (j : Nat) := Int.zero_add _
        rw [ej]
        have hc3 := kb3 _ _ hcb ncas
        have hlw3 := kb3 _ _ hlwb nlwas
        have cp3 : CP C H3 c rs sg tb := ⟨⟨dx, tr, l1, lw, hc3, kb3 _ _ htrb ntas, kb3 _ _ hl1b nl1as, hrw3.isD hlw3⟩, htl3, htw3⟩
        refine ⟨_, rfl, c, dx, _, rfl, hc3, lk_no _ _ _ (by decide +kernel) (by decide +kernel) (by decide +kernel), _, rfl, _, rfl, c, rs, sg, tb, p, j, rfl, cp3, hpl, hj', ?_⟩
        refine ⟨_, rfl, c, dx, _, rfl, hc3, lk_no _ _ _ (by decide +kernel) (by decide +kernel) (by decide +kernel), _, rfl, _, rfl, c, rs, sg, tb, p, j, rfl, cp3, hpl, hj', fun H4 s4 => ?_⟩
        have ev : emptyT (getT tb) sg p j + fullT (getT tb) rs sg p j = wayT rs sg p j := by
          rw [wayT_step rs sg hpl hj', emptyT_congr (hgA (p + 1) j (Nat.le_refl _) (by omega) hj'), fullT_congr hj' hpl hgA]
        refine ⟨_, _, rfl, rfl, ?_⟩
        show gSub _ _ _ (V.int (emptyT (getT tb) sg p j + fullT (getT tb) rs sg p j)) _ _ _
        rw [ev]
        have hrw4 := hrw3.mono s4
        have kb4 := kb3.same s4
        have hrow4 := hrowget hrw4 hap
        refine ⟨_, rfl, c, C, dx, _, _, rfl, s4 _ _ hc3, T.cl, T.nW, lk_ways _ _ _, _, rfl, lw, _, _, .ref ap, rfl, rfl, SqL.of (s4 _ _ hlw3), atI_nat (hvget hap), _, rfl, ap, _, _, j, rfl, rfl, hrow4, ?_, ?_⟩
        · rw [List.length_map, hwidget htl3 htw3 (by omega)]
          unfold ixN
          rw [if_pos (by omega), if_pos (by omega)]
          rfl
        have hrw5 := hrw4.set g.nd hap ((tb.getD p []).set j (wayT rs sg p j))
        rw [List.map_set] at hrw5
        refine ⟨_, tb.set p ((tb.getD p []).set j (wayT rs sg p j)), rfl, kb4.upd hapm, hrw5, by rw [List.length_set]; exact htl3, set_wid (by omega) htw3, fun p' d h1 h2 h3 => ?_, fun d h1 h2 => ?_⟩
        · rw [getT_set (by omega) (by rw [hwidget htl3 htw3 (by omega)]; omega), if_neg (by omega)]
          exact hgA p' d h1 h2 h3
        · rw [getT_set (by omega) (by rw [hwidget htl3 htw3 (by omega)]; omega)]
          by_cases hd : d = j
          · rw [if_pos ⟨rfl, hd⟩, hd]
          · rw [if_neg (fun z => hd z.2)]
            exact hgB d (by omega) h2
      · rintro σ H3 ⟨o4, tb, rfl, kb3, hrw3, htl3, htw3, hgA, hgB⟩
        refine ⟨_, _, tb, rfl, kb3, hrw3, htl3, htw3, fun p' d h1 h2 h3 => ?_⟩
        by_cases hpp : p' = p
        · rw [hpp]
          exact hgB d (by omega) h3
        · exact hgA p' d (by omega) h2 h3
    · rintro σ H2 ⟨o3, o4, tbl, rfl, kb, hrw, htl, htw, hgt⟩
      have ew : tbl = wholeT rs sg := whole_ext htl htw fun p d h1 h2 => hgt p d (by omega) h1 h2
      subst ew
      refine k H2 (fun b o e nb => ?_) ⟨⟨dx, tr, l1, lw, kb _ _ hcb ncas, kb _ _ htrb ntas, kb _ _ hl1b nl1as, hrw.isD (kb _ _ hlwb nlwas)⟩, htl, htw⟩
      have eA := kA b o e nb
      exact kb _ _ (kB b o eA nb) (nas b o eA)
end

section
variable {P : Program} {w : World} {K : PySem.W.Frag} {mg : Str → Option Value} {base : Heap} {C : Addr}
theorem mk_counts {H : Hp} {tr ls x dx : Addr} {rs : List Nat} {s : Sight} {Q : VK} {E : XK} (htr : H tr = some (.tup (runsV rs))) (hls : H ls = some (.lst (sightV s))) (hn : s.length ≤ 100) (hr : rs.length ≤ 100) (hx : H x = none) (hdx : H dx = none)
    (k : ∀ H', Same H H' → CP C H' x rs s (wholeT rs s) → Q .non H') : sp_init C [.ref x, .ref tr, .ref ls] (upd (upd H dx (.own x)) x (.ins C dx [])) Q E := by
  have sm : Same H (upd (upd H dx (.own x)) x (.ins C dx [])) := same_upd' (same_upd hdx) hx
  exact ⟨x, dx, tr, ls, rs, s, rfl, upd_same, sm _ _ htr, sm _ _ hls, hn, hr, fun H' h1 cp => k H' (fun b o e => h1 b o (sm _ _ e) (fun z => by rw [z, hx] at e; cases e)) cp⟩
theorem cp_noattr {H : Hp} {c : Addr} {rs : List Nat} {s : Sight} {tbl : List (List Int)} (cp : CP C H c rs s tbl) {m : Str} (h1 : ¬ m = "ways") (h2 : ¬ m = "sight") (h3 : ¬ m = "runs") : ∃ dx fs, H c = some (.ins C dx fs) ∧ fs.lookup m = none := by
  obtain ⟨dx, tr, ls, lw, hc, _⟩ := cp.ex
  exact ⟨dx, _, hc, lk_no _ _ _ h1 h2 h3⟩
def sp_layings : Sp := fun vs H Q _ => ∃ (tr ls : Addr) (rs : List Nat) (s : Sight), vs = [.ref tr, .ref ls] ∧ H tr = some (.tup (runsV rs)) ∧ H ls = some (.lst (sightV s)) ∧ s.length ≤ 100 ∧ rs.length ≤ 100 ∧ ∀ H', Same H H' → Q (.int (waysN rs s : Nat)) H'
theorem total_whole (rs : List Nat) (s : Sight) : getT (wholeT rs s) 0 0 = (waysN rs s : Nat) := by
  rw [getT_whole rs s (Nat.zero_le _) (Nat.zero_le _)]
  rfl
theorem sc_layings : FnScope ["runs", "sight"] ["runs", "sight"] (defScope s_layings) := ⟨rfl, rfl, rfl, by decide +kernel, rfl, by decide +kernel, by decide +kernel⟩
theorem ok_layings {f : Addr} {fd : FuncData} (F : Fun K "layings" "layings" s_layings f fd) (mk_Counts : Maker P w K mg base CX0 "Counts" C 3 ["self", "runs", "sight"] (sp_init C)) (m_total : Method P w K mg base CX0 C "total" 1 ["self"] (sp_total C)) : FnOk P w K mg base CX0 5 f fd ["runs", "sight"] sp_layings := by
  refine F.ok sc_layings (fun vs H Q E h => ?_) (fun cdv A outer s H vs Q E hr h => ?_)
  · obtain ⟨tr, ls, rs, s, rfl, _⟩ := h
    rfl
  · obtain ⟨tr, ls, rs, sg, rfl, htr, hls, hn, hrn, k⟩ := h
    refine ⟨_, (pss_one (ps_ret (pe_met0 m_total (pe_mak mk_Counts hr (pa_cons (pv 0) (pa_cons (pv 1) pa_nil))) hr))), ?_⟩
    refine ⟨_, rfl, _, rfl, fun c dx0 hc0 hdx0 _ => mk_counts htr hls hn hrn hc0 hdx0 fun H1 s1 cp => ⟨rfl, ?_⟩⟩
    obtain ⟨dx, fs, h1, h2⟩ := cp_noattr cp (m := "total") (by decide +kernel) (by decide +kernel) (by decide +kernel)
    refine ⟨c, dx, fs, rfl, h1, h2, c, rs, sg, _, rfl, cp, ?_⟩
    rw [total_whole]
    exact k H1 s1
def sp_laying : Sp := fun vs H Q _ => ∃ (tr ls : Addr) (rs : List Nat) (s : Sight) (a : Nat) (c : List Int), vs = [.ref tr, .ref ls, .int a] ∧ H tr = some (.tup (runsV rs)) ∧ H ls = some (.lst (sightV s)) ∧ s.length ≤ 100 ∧ rs.length ≤ 100 ∧ (∀ k ∈ rs, k ≤ 500) ∧ (layL rs s)[a]? = some c ∧
  ∀ l H', Same H H' → H l = none → H' l = some (.lst (c.map V.int)) → Q (.ref l) H'
theorem sc_laying : FnScope ["runs", "sight", "number", "counts", "cells", "done", "ahead", "if_empty"] ["runs", "sight", "number"] (defScope s_laying) := ⟨rfl, rfl, rfl, by decide +kernel, rfl, by decide +kernel, by decide +kernel⟩
theorem ok_laying {f : Addr} {fd : FuncData} (F : Fun K "laying" "laying" s_laying f fd) (B : Bt mg) (mk_Counts : Maker P w K mg base CX0 "Counts" C 3 ["self", "runs", "sight"] (sp_init C)) (m_total : Method P w K mg base CX0 C "total" 1 ["self"] (sp_total C))
    (m_empty_ways : Method P w K mg base CX0 C "empty_ways" 1 ["self", "place", "done"] (sp_empty C)) (m_run_cells : Method P w K mg base CX0 C "run_cells" 1 ["self", "place", "done"] (sp_run_cells C)) : FnOk P w K mg base CX0 5 f fd ["runs", "sight", "number"] sp_laying := by
  refine F.ok sc_laying (fun vs H Q E h => ?_) (fun cdv A outer s H vs Q E hr h => ?_)
  · obtain ⟨tr, ls, rs, s, a, c, rfl, _⟩ := h
    rfl
  · obtain ⟨tr, ls, rs, sg, a, tc, rfl, htr, hls, hn, hrn, hrk, hidx, k⟩ := h
    refine ⟨_, (pss_cons (ps_set (i := 3) sc_laying.nd rfl (Or.inl rfl) (pe_mak mk_Counts hr (pa_cons (pv 0) (pa_cons (pv 1) pa_nil))))
      (pss_cons (ps_if (PW.pt (pw_or (pt_cmpR op_lt (pv 2) pe_int (nomark _)) (pw_or1 (pt_cmpR op_ge (pv 2) (pe_met0 m_total (pv 3) hr) (nomark _)))))
      (pss_one ps_never)
      pss_nil)
      (pss_cons (ps_set (i := 4) sc_laying.nd rfl (Or.inl rfl) (pe_lst pa_nil))
      (pss_cons (ps_set (i := 5) sc_laying.nd rfl (Or.inl rfl) pe_int)
      (pss_cons (ps_set (i := 6) sc_laying.nd rfl (Or.inl rfl) (pv 2))
      (pss_cons (ps_while PassesOwn.never (pt_cmpR op_lt (pe_callB (call_lenK K) rfl B.len bt_len (pa_cons (pv 4) pa_nil)) (pe_callB (call_lenK K) rfl B.len bt_len (pa_cons (pv 1) pa_nil)) (nomark _))
      (pss_cons (ps_set (i := 7) sc_laying.nd rfl (Or.inl rfl) (pe_met m_empty_ways (pv 3) hr (pa_cons (pe_callB (call_lenK K) rfl B.len bt_len (pa_cons (pv 4) pa_nil)) (pa_cons (pv 5) pa_nil))))
      (pss_one (ps_if (pt_cmpR op_lt (pv 6) (pv 7) (nomark _))
      (pss_one (ps_expr (pe_bm PySem.F.plainAttrs_list PySem.F.slot_list_append PySem.F.type_list_append mt_append (pv 4) (pa_cons pe_int pa_nil))))
      (pss_cons (ps_aug (i := 6) sc_laying.nd rfl (Or.inl rfl) (pv 7) ip_sub)
      (pss_cons (ps_set (i := 4) sc_laying.nd rfl (Or.inl rfl) (pe_op op_cat (pv 4) (pe_met m_run_cells (pv 3) hr (pa_cons (pe_callB (call_lenK K) rfl B.len bt_len (pa_cons (pv 4) pa_nil)) (pa_cons (pv 5) pa_nil)))))
      (pss_one (ps_aug (i := 5) sc_laying.nd rfl (Or.inl rfl) pe_int ip_add))))))))
      (pss_one (ps_ret (pv 4))))))))), ?_⟩
    have hsl : (sightV sg).length = sg.length := by unfold sightV; rw [List.length_map]
    have halt : a < waysN rs sg := (List.getElem?_eq_some_iff.mp hidx).1
    refine ⟨_, rfl, _, rfl, fun c dx0 hc0 hdx0 _ => mk_counts htr hls hn hrn hc0 hdx0 fun H1 s1 cp => ⟨rfl, ?_⟩⟩
    obtain ⟨dx, fs, h1, h2⟩ := cp_noattr cp (m := "total") (by decide +kernel) (by decide +kernel) (by decide +kernel)
    refine ⟨_, rfl, _, _, rfl, rfl, _, rfl, ?_⟩
    rw [decide_eq_false (show ¬ ((a : Nat) : Int) < 0 by omega)]
    refine iteF ⟨_, rfl, _, rfl, c, dx, fs, rfl, h1, h2, c, rs, sg, _, rfl, cp, ?_⟩
    rw [total_whole]
    refine ⟨_, _, rfl, rfl, _, rfl, ?_⟩
    rw [decide_eq_false (show ¬ ((waysN rs sg : Nat) : Int) ≤ (a : Nat) by omega)]
    refine iteF ?_
    refine ⟨Nat.zero_le _, fun l0 hl0 => ?_⟩
    have nl0 : H l0 = none := s1.free hl0
    refine ⟨_, rfl, ?_⟩
    have hls1 := s1 _ _ hls
    refine ⟨fun m σ H2 => ∃ (l : Addr) (pre : List Int) (d b : Nat) (c' : List Int) (o7 : Option V), σ = [some (.ref tr), some (.ref ls), some (.int a), some (.ref c), some (.ref l), some (.int d), some (.int b), o7] ∧
      Same H1 H2 ∧ H1 l = none ∧ H2 l = some (.lst (pre.map V.int)) ∧ pre.length ≤ sg.length ∧ m = sg.length - pre.length ∧ tc = pre ++ c' ∧ (layL (rs.drop d) (sg.drop pre.length))[b]? = some c' ∧ d ≤ rs.length,
      ⟨_, l0, [], 0, a, tc, none, rfl, same_upd hl0, hl0, upd_same, Nat.zero_le _, rfl, rfl, hidx, Nat.zero_le _⟩, ?_⟩
    rintro m σ H2 ⟨l, pre, d, b, c', o7, rfl, s2, nl, hl, hpl, rfl, htc, hix, hd⟩
    have hpm : (pre.map V.int).length = pre.length := List.length_map _
    refine ⟨_, rfl, l, _, rfl, .inl (SqL.of hl), _, rfl, ls, _, rfl, .inl (SqL.of (s2 _ _ hls1)), _, _, rfl, rfl, _, rfl, ?_⟩
    rw [hsl, hpm]
    refine ite2 (fun hc => ?_) (fun hc => ?_)
    · have hp : pre.length < sg.length := by have := of_decide_eq_true hc; omega
      refine ⟨_, fun σ' H' z => z, ?_⟩
      have cp2 := cp.mono s2
      obtain ⟨dx2, fs2, h3, h4⟩ := cp_noattr cp2 (m := "empty_ways") (by decide +kernel) (by decide +kernel) (by decide +kernel)
      refine ⟨_, rfl, c, dx2, fs2, rfl, h3, h4, _, rfl, l, _, rfl, .inl (SqL.of hl), _, rfl, c, rs, sg, _, pre.length, d, (by rw [hpm]; rfl), cp2, hp, hd, ?_⟩
      have ee : emptyT (getT (wholeT rs sg)) sg pre.length d = emptyT (wayT rs sg) sg pre.length d := emptyT_congr (getT_whole rs sg (by omega) hd)
      rw [ee]
      obtain ⟨mm, hm, hcase⟩ := lay_step hp hix
      rw [hm]
      refine ⟨_, rfl, _, rfl, _, _, rfl, rfl, _, rfl, ?_⟩
      rcases hcase with ⟨hb, c2, e2, hi2⟩ | ⟨hb, hd2, hf, c2, e2, hi2⟩
      · rw [decide_eq_true (show ((b : Nat) : Int) < (mm : Nat) by omega)]
        refine iteT ⟨_, rfl, .inl ⟨rfl, _, SqL.of hl⟩, l, _, _, rfl, rfl, hl, small1000 (by rw [hpm]; omega), ?_⟩
        refine ⟨sg.length - (pre ++ [0]).length, (by simp; omega), l, pre ++ [0], d, b, c2, _, rfl, same_upd' s2 nl, nl, (by rw [upd_same, List.map_append]; rfl), (by simp; omega), rfl, (by rw [htc, e2]; simp), ?_, hd⟩
        rw [List.length_append, List.length_singleton]
        exact hi2
      · rw [decide_eq_false (show ¬ ((b : Nat) : Int) < (mm : Nat) by omega)]
        refine iteF ⟨_, rfl, _, rfl, _, _, rfl, rfl, ?_⟩
        obtain ⟨dx3, fs3, h5, h6⟩ := cp_noattr cp2 (m := "run_cells") (by decide +kernel) (by decide +kernel) (by decide +kernel)
        refine ⟨_, rfl, _, rfl, c, dx3, fs3, rfl, h5, h6, _, rfl, l, _, rfl, .inl (SqL.of hl), _, rfl, c, rs, sg, _, pre.length, d, (by rw [hpm]; rfl), cp2, hd2, ?_, fun l3 H3 s3 nl3 hl3 => ?_⟩
        · rw [List.getD_eq_getElem?_getD, List.getElem?_eq_getElem hd2]
          exact hrk _ (List.getElem_mem hd2)
        have hk : rs.getD d 0 ≤ sg.length - pre.length := by
          have := (fitsB_iff.mp hf).1
          rwa [List.length_drop] at this
        have hrl := runCells_len hk
        refine ⟨l, l3, _, _, rfl, rfl, s3 _ _ hl, hl3, ?_, fun l4 hl4 => ?_⟩
        · rw [hpm, List.length_map, hrl]
          have := small1000 (n := 200) (by omega)
          omega
        have nl4 : H1 l4 = none := (s2.trans s3).free hl4
        refine ⟨_, rfl, _, _, rfl, rfl, ?_⟩
        have eb : ((b : Nat) : Int) - (mm : Nat) = ((b - mm : Nat) : Int) := by omega
        refine ⟨sg.length - (pre ++ runCells (rs.getD d 0) (sg.length - pre.length)).length, (by rw [List.length_append, hrl]; omega), l4, pre ++ runCells (rs.getD d 0) (sg.length - pre.length), d + 1, b - mm, c2, _, (by rw [← eb]; rfl), same_upd' (s2.trans s3) nl4, nl4, (by rw [upd_same, List.map_append]), (by rw [List.length_append, hrl]; omega), rfl, (by rw [htc, e2, List.append_assoc]), ?_, hd2⟩
        rw [List.length_append, hrl]
        have e9 : pre.length + min (rs.getD d 0 + 1) (sg.length - pre.length) = min (pre.length + rs.getD d 0 + 1) sg.length := by omega
        rw [e9]
        exact hi2
    · have hp : pre.length = sg.length := by have : ¬ ((pre.length : Nat) : Int) < (sg.length : Nat) := fun z => hc (decide_eq_true z); omega
      rw [hp, List.drop_length, layL_nil] at hix
      have hc0 : c' = [] := by
        split at hix
        · have := List.mem_of_getElem? hix
          simpa using this
        · simp at hix
      rw [hc0, List.append_nil] at htc
      refine ⟨_, rfl, ?_⟩
      refine k l H2 (s1.trans s2) (s1.free nl) ?_
      rw [htc]
      exact hl
end

section
variable {P : Program} {w : World} {K : PySem.W.Frag} {mg : Str → Option Value} {base : Heap} {C : Addr}
def keepF (x : Option Int) (z : Int) : Bool := decide (x = none) || decide (x = some z)
theorem keepsB_zip : ∀ (s : Sight) (c : List Int), keepsB s c = (List.zipWith keepF s c).all id
  | [], _ => by simp [keepsB]
  | _ :: _, [] => by simp [keepsB]
  | x :: s, z :: c => by
    rw [List.zipWith_cons_cons, List.all_cons, ← keepsB_zip s c]
    rfl
theorem vO_eq {x : Option Int} {z : Int} : decide (vO x = V.int z) = decide (x = some z) := by
  cases x with
  | none => rfl
  | some i =>
    by_cases h : i = z
    · subst h; simp [vO]
    · show decide (V.int i = V.int z) = _
      rw [decide_eq_false (fun q => h (V.int.inj q)), decide_eq_false (fun q => h (Option.some.inj q))]
theorem vO_non {x : Option Int} : decide (vO x = V.non) = decide (x = none) := by cases x <;> rfl
theorem runsV_I (rs : List Nat) : runsV rs = (runsI rs).map V.int := by
  unfold runsV runsI
  rw [List.map_map]
  rfl
theorem eqDs_ints : ∀ (a b : List Int), eqDs (a.map Dt.int) (b.map Dt.int) = decide (a = b)
  | [], [] => by simp [eqDs]
  | [], _ :: _ => by simp [eqDs]
  | _ :: _, [] => by simp [eqDs]
  | x :: a, y :: b => by
    rw [List.map_cons, List.map_cons]
    unfold eqDs
    rw [eqDs_ints a b, eqD_flat rfl rfl]
    show ((x == y) && decide (a = b)) = _
    by_cases h : x = y
    · subst h
      simp
    · have : (x == y) = false := beq_eq_false_iff_ne.mpr h
      rw [this, Bool.false_and]
      exact (decide_eq_false (fun z => h (List.cons.inj z).1)).symm
theorem eqD_tup (a b : List Int) : eqD (dTup a) (dTup b) = decide (a = b) := by unfold dTup; rw [eqD_tt, eqDs_ints]
theorem eqD_row (a b : List Int) : eqD (dRow a) (dRow b) = decide (a = b) := by unfold dRow; rw [eqD_ll, eqDs_ints]
def layOk (rs : List Nat) (s : Sight) (c : List Int) : Bool := decide (c.length = s.length) && (decide (runsZ c = runsI rs) && keepsB s c)
def sp_is_laying : Sp := fun vs H Q _ => ∃ (tr ls lc : Addr) (rs : List Nat) (s : Sight) (c : List Int), vs = [.ref tr, .ref ls, .ref lc] ∧ H tr = some (.tup (runsV rs)) ∧ H ls = some (.lst (sightV s)) ∧ H lc = some (.lst (c.map V.int)) ∧ s.length ≤ 100 ∧ c.length ≤ 900 ∧
  ∀ H', Same H H' → Q (.bl (layOk rs s c)) H'
theorem sc_is_laying : FnScope ["runs", "sight", "cells"] ["runs", "sight", "cells"] (defScope s_is_laying) := ⟨rfl, rfl, rfl, by decide +kernel, rfl, by decide +kernel, by decide +kernel⟩
theorem ok_is_laying {f : Addr} {fd : FuncData} (F : Fun K "is_laying" "is_laying" s_is_laying f fd) (B : Bt mg) (Z : Bz mg) (c_runs_of : Callee P w K mg base CX0 "runs_of" 1 ["cells"] (sp_runs_of K)) : FnOk P w K mg base CX0 2 f fd ["runs", "sight", "cells"] sp_is_laying := by
  refine F.ok sc_is_laying (fun vs H Q E h => ?_) (fun cdv A outer s H vs Q E hr h => ?_)
  · obtain ⟨tr, ls, lc, rs, s, c, rfl, _⟩ := h
    rfl
  · obtain ⟨tr, ls, lc, rs, sg, c, rfl, htr, hls, hlc, hn, hcn, k⟩ := h
    have hu := units20 hr
    refine ⟨_, (pss_cons (ps_if (PW.pt (pw_or (pt_cmpR op_ne (pe_callB (call_lenK K) rfl B.len bt_len (pa_cons (pv 2) pa_nil)) (pe_callB (call_lenK K) rfl B.len bt_len (pa_cons (pv 1) pa_nil)) (nomark _)) (pw_or1 (pt_cmpR (op_neD hu) (pe_cal c_runs_of hr (pa_cons (pv 2) pa_nil)) (pe_callTy (call_tupleK K) rfl B.tuple bt_tuple (pa_cons (pv 0) pa_nil)) (nomark _)))))
      (pss_one (ps_ret pe_bl))
      pss_nil)
      (pss_one (ps_ret (pe_callB (call_allK K rfl) rfl B.all bt_all (pa_cons (pe_comp ["told", "cell"] [] ⟨rfl, rfl, rfl, rfl, rfl⟩ rfl (pi_zipK K rfl Z.zip (pa_cons (pv 1) (pa_cons (pv 2) pa_nil))) (fun _ _ _ _ _ => (pg_tupK K 2 rfl (pgs_cons (pg_name (i := 0) (show (["told", "cell"] : List Str).Nodup by decide +kernel) rfl (Or.inl rfl)) (pgs_cons (pg_name (i := 1) (show (["told", "cell"] : List Str).Nodup by decide +kernel) rfl (Or.inl rfl)) pgs_nil)))) (fun _ _ _ _ _ => pcb_elt (pe_or (pe_cmpR op_isN (pv 0) pe_non (nomark _)) (pe_one (pe_cmpR op_eq (pv 0) (pv 1) (nomark _)))))) pa_nil))))), ?_⟩
    have hsl : (sightV sg).length = sg.length := by unfold sightV; rw [List.length_map]
    have hcl : (c.map V.int).length = c.length := List.length_map _
    refine ⟨_, rfl, lc, _, rfl, .inl (SqL.of hlc), _, rfl, ls, _, rfl, .inl (SqL.of hls), rfl, _, rfl, ?_⟩
    rw [hsl, hcl]
    unfold layOk at k
    by_cases h1 : c.length = sg.length
    · rw [dec_int1.mpr (show ((c.length : Nat) : Int) = (sg.length : Nat) by omega)]
      rw [decide_eq_true h1, Bool.true_and] at k
      refine iteF ⟨_, rfl, lc, c, rfl, SqL.of hlc, by omega, fun t H1 s1 nt ht => ?_⟩
      refine ⟨_, rfl, tr, _, rfl, .inr ⟨SqT.of (s1 _ _ htr), ?_⟩⟩
      refine ⟨dTup (runsZ c), dTup (runsI rs), isD_tup ht, isD_tup (by rw [s1 _ _ htr, runsV_I]), .inr ⟨_, _, rfl, rfl⟩, Nat.le_trans (depth_tup _) (by decide), _, rfl, ?_⟩
      rw [eqD_tup]
      by_cases h2 : runsZ c = runsI rs
      · rw [decide_eq_true h2] at k ⊢
        rw [Bool.true_and] at k
        refine iteF ?_
        refine ⟨_, rfl, _, rfl, ls, lc, rfl, ⟨_, SqL.of (s1 _ _ hls)⟩, ⟨_, SqL.of (s1 _ _ hlc)⟩, comp_zip (xs := sightV sg) (zs := c.map V.int) (fun i ys H' => ys = ((List.zipWith keepF sg c).take i).map V.bl ∧ Same H1 H') ⟨rfl, Same.refl _⟩ (by rw [hsl, hcl, h1]) ?_ ?_ ?_ ?_ ?_⟩
        · exact Nat.le_of_lt (small1000 (by rw [hsl]; omega))
        · rintro i ys H' ⟨rfl, _⟩
          rw [List.length_map, List.length_take]
          omega
        · rintro i ys H' _ ⟨_, s2⟩
          exact ⟨SqL.of (s2 _ _ (s1 _ _ hls)), SqL.of (s2 _ _ (s1 _ _ hlc))⟩
        · rintro i x z ys H' p hx hz ⟨rfl, s2⟩ hp
          obtain ⟨z0, hz0, rfl⟩ := map_get hz
          obtain ⟨x0, hx0, rfl⟩ : ∃ x0, sg[i]? = some x0 ∧ vO x0 = x := by
            unfold sightV at hx
            rw [List.getElem?_map] at hx
            cases q : sg[i]? with
            | none => rw [q] at hx; cases hx
            | some x0 => rw [q] at hx; exact ⟨x0, rfl, Option.some.inj hx⟩
          have s3 : Same H1 (upd H' p (.tup [vO x0, .int z0])) := s2.trans (same_upd hp)
          have hnext : ((List.zipWith keepF sg c).take i).map V.bl ++ [V.bl (keepF x0 z0)] = ((List.zipWith keepF sg c).take (i + 1)).map V.bl := by
            rw [List.take_add_one, List.map_append, List.getElem?_zipWith, hx0, hz0]
            rfl
          refine ⟨p, _, rfl, SqT.of upd_same, rfl, _, _, rfl, _, _, rfl, rfl, rfl, ?_⟩
          refine ⟨_, rfl, rfl, _, rfl, ?_⟩
          rw [vO_non]
          by_cases h3 : x0 = none
          · rw [decide_eq_true h3]
            refine iteT ⟨?_, s3⟩
            rw [← hnext]
            unfold keepF
            rw [decide_eq_true h3]
            rfl
          · rw [decide_eq_false h3]
            refine iteF ⟨_, rfl, _, rfl, vO_scal, ?_, s3⟩
            rw [← hnext]
            unfold keepF
            rw [decide_eq_false h3, vO_eq]
            rfl
        · rintro ys H' ⟨rfl, s2⟩ l hl
          refine ⟨l, _, rfl, SqL.of upd_same, ?_⟩
          have e : ((List.zipWith keepF sg c).take (sightV sg).length).all id = keepsB sg c := by
            rw [keepsB_zip, List.take_of_length_le]
            rw [List.length_zipWith, hsl]
            omega
          rw [e]
          exact k _ (s1.trans (s2.trans (same_upd hl)))
      · rw [decide_eq_false h2] at k ⊢
        exact iteT (k H1 s1)
    · have e1 : decide (V.int (c.length : Nat) = V.int (sg.length : Nat)) = false := decide_eq_false (fun z => h1 (by have := V.int.inj z; omega))
      rw [e1]
      rw [decide_eq_false h1] at k
      exact iteT (iteT (k H (Same.refl H)))
end

section
variable {P : Program} {w : World} {K : PySem.W.Frag} {mg : Str → Option Value} {base : Heap} {C : Addr}
theorem layOk_of {rs : List Nat} {s : Sight} {c : List Int} (hr : ∀ k ∈ rs, 1 ≤ k) (hs : sightP s) (h : c ∈ layL rs s) : layOk rs s c = true := by
  obtain ⟨h1, h2, h3⟩ := lay_sound hr hs h
  unfold layOk
  rw [decide_eq_true h1, decide_eq_true h2, h3]
  rfl
def sp_number_of : Sp := fun vs H Q _ => ∃ (tr ls lc : Addr) (rs : List Nat) (s : Sight) (c : List Int) (i : Nat), vs = [.ref tr, .ref ls, .ref lc] ∧ H tr = some (.tup (runsV rs)) ∧ H ls = some (.lst (sightV s)) ∧ H lc = some (.lst (c.map V.int)) ∧ s.length ≤ 100 ∧ rs.length ≤ 100 ∧ (∀ k ∈ rs, 1 ≤ k) ∧ sightP s ∧
  (layL rs s)[i]? = some c ∧ ∀ H', Same H H' → Q (.int i) H'
theorem sc_number_of : FnScope ["runs", "sight", "cells", "counts", "number", "place", "done"] ["runs", "sight", "cells"] (defScope s_number_of) := ⟨rfl, rfl, rfl, by decide +kernel, rfl, by decide +kernel, by decide +kernel⟩
theorem ok_number_of {f : Addr} {fd : FuncData} (F : Fun K "number_of" "number_of" s_number_of f fd) (B : Bt mg) (c_is_laying : Callee P w K mg base CX0 "is_laying" 2 ["runs", "sight", "cells"] sp_is_laying) (mk_Counts : Maker P w K mg base CX0 "Counts" C 3 ["self", "runs", "sight"] (sp_init C))
    (m_empty_ways : Method P w K mg base CX0 C "empty_ways" 1 ["self", "place", "done"] (sp_empty C)) (m_place_behind : Method P w K mg base CX0 C "place_behind" 1 ["self", "place", "done"] (sp_behind C)) : FnOk P w K mg base CX0 5 f fd ["runs", "sight", "cells"] sp_number_of := by
  refine F.ok sc_number_of (fun vs H Q E h => ?_) (fun cdv A outer s H vs Q E hr h => ?_)
  · obtain ⟨tr, ls, lc, rs, s, c, i, rfl, _⟩ := h
    rfl
  · obtain ⟨tr, ls, lc, rs, sg, cz, i, rfl, htr, hls, hlc, hn, hrn, hr1, hsp, hidx, k⟩ := h
    refine ⟨_, (pss_cons (ps_if (pt_not (pt_val (pe_cal c_is_laying hr (pa_cons (pv 0) (pa_cons (pv 1) (pa_cons (pv 2) pa_nil))))))
      (pss_one ps_never)
      pss_nil)
      (pss_cons (ps_set (i := 3) sc_number_of.nd rfl (Or.inl rfl) (pe_mak mk_Counts hr (pa_cons (pv 0) (pa_cons (pv 1) pa_nil))))
      (pss_cons (ps_set (i := 4) sc_number_of.nd rfl (Or.inl rfl) pe_int)
      (pss_cons (ps_set (i := 5) sc_number_of.nd rfl (Or.inl rfl) pe_int)
      (pss_cons (ps_set (i := 6) sc_number_of.nd rfl (Or.inl rfl) pe_int)
      (pss_cons (ps_while PassesOwn.never (pt_cmpR op_lt (pv 5) (pe_callB (call_lenK K) rfl B.len bt_len (pa_cons (pv 2) pa_nil)) (nomark _))
      (pss_one (ps_if (pt_cmpR op_eq (pe_ix (ix_listK K) (pv 2) (pv 5) (fun _ _ => rfl)) pe_int (nomark _))
      (pss_one (ps_aug (i := 5) sc_number_of.nd rfl (Or.inl rfl) pe_int ip_add))
      (pss_cons (ps_aug (i := 4) sc_number_of.nd rfl (Or.inl rfl) (pe_met m_empty_ways (pv 3) hr (pa_cons (pv 5) (pa_cons (pv 6) pa_nil))) ip_add)
      (pss_cons (ps_set (i := 5) sc_number_of.nd rfl (Or.inl rfl) (pe_met m_place_behind (pv 3) hr (pa_cons (pv 5) (pa_cons (pv 6) pa_nil))))
      (pss_one (ps_aug (i := 6) sc_number_of.nd rfl (Or.inl rfl) pe_int ip_add)))))))
      (pss_one (ps_ret (pv 4))))))))), ?_⟩
    have hmem := List.mem_of_getElem? hidx
    have hok := layOk_of hr1 hsp hmem
    have hlen : cz.length = sg.length := (lay_sound hr1 hsp hmem).1
    have hcm : (cz.map V.int).length = cz.length := List.length_map _
    refine ⟨_, rfl, _, rfl, _, rfl, tr, ls, lc, rs, sg, cz, rfl, htr, hls, hlc, hn, by omega, fun H0 s0 => ⟨_, rfl, ?_⟩⟩
    rw [hok]
    refine iteF ?_
    refine ⟨_, rfl, _, rfl, fun c dx0 hc0 hdx0 _ => mk_counts (s0 _ _ htr) (s0 _ _ hls) hn hrn hc0 hdx0 fun H1 s1 cp => ⟨rfl, ?_⟩⟩
    have hlc1 := s1 _ _ (s0 _ _ hlc)
    refine ⟨fun m σ H2 => H2 = H1 ∧ ∃ (nb p d j : Nat), σ = [some (.ref tr), some (.ref ls), some (.ref lc), some (.ref c), some (.int nb), some (.int p), some (.int d)] ∧
      p ≤ sg.length ∧ m = sg.length - p ∧ i = nb + j ∧ (layL (rs.drop d) (sg.drop p))[j]? = some (cz.drop p) ∧ d ≤ rs.length,
      ⟨_, rfl, 0, 0, 0, i, rfl, Nat.zero_le _, rfl, (Nat.zero_add _).symm, hidx, Nat.zero_le _⟩, ?_⟩
    rintro m σ H2 ⟨rfl, nb, p, d, j, rfl, hp, rfl, hij, hix, hd⟩
    refine ⟨_, rfl, _, rfl, lc, _, rfl, .inl (SqL.of hlc1), _, _, rfl, rfl, _, rfl, ?_⟩
    rw [hcm, hlen]
    refine ite2 (fun hc => ?_) (fun hc => ?_)
    · have hp : p < sg.length := by have := of_decide_eq_true hc; omega
      have hpc : p < cz.length := by omega
      refine ⟨_, fun σ' H' z => z, ?_⟩
      have hget : (cz.map V.int)[p]? = some (.int cz[p]) := by rw [List.getElem?_map, List.getElem?_eq_getElem hpc]; rfl
      refine ⟨_, rfl, _, rfl, lc, _, _, _, rfl, rfl, SqL.of hlc1, atI_nat hget, rfl, _, rfl, ?_⟩
      have hdr := drop_at hpc
      obtain ⟨mm, hm, hcase⟩ := lay_step hp hix
      rcases hcase with ⟨hb, c2, e2, hi2⟩ | ⟨hb, hd2, hf, c2, e2, hi2⟩
      · rw [hdr] at e2
        injection e2 with e3 e4
        rw [dec_int1.mpr e3]
        refine iteT ⟨_, rfl, _, _, rfl, rfl, ?_⟩
        exact ⟨sg.length - (p + 1), by omega, rfl, nb, p + 1, d, j, rfl, by omega, rfl, hij, by rw [e4]; exact hi2, hd⟩
      · have hk1 : 1 ≤ rs.getD d 0 := by
          rw [List.getD_eq_getElem?_getD, List.getElem?_eq_getElem hd2]
          exact hr1 _ (List.getElem_mem hd2)
        have hk : rs.getD d 0 ≤ sg.length - p := by
          have := (fitsB_iff.mp hf).1
          rwa [List.length_drop] at this
        have hrl := runCells_len hk
        have hz : cz[p] = 1 := by
          obtain ⟨q, hq⟩ : ∃ q, rs.getD d 0 = q + 1 := ⟨rs.getD d 0 - 1, by omega⟩
          rw [hdr] at e2
          unfold runCells at e2
          rw [hq, List.replicate_succ, List.cons_append, List.cons_append] at e2
          injection e2
        have e1 : decide (V.int cz[p] = V.int 0) = false := decide_eq_false (fun z => by have := V.int.inj z; rw [hz] at this; exact absurd this (by decide))
        rw [e1]
        obtain ⟨dx2, fs2, h3, h4⟩ := cp_noattr cp (m := "empty_ways") (by decide +kernel) (by decide +kernel) (by decide +kernel)
        obtain ⟨dx3, fs3, h5, h6⟩ := cp_noattr cp (m := "place_behind") (by decide +kernel) (by decide +kernel) (by decide +kernel)
        refine iteF ⟨_, rfl, _, rfl, c, dx2, fs2, rfl, h3, h4, _, rfl, _, rfl, c, rs, sg, _, p, d, rfl, cp, hp, hd, ?_⟩
        have ee : emptyT (getT (wholeT rs sg)) sg p d = emptyT (wayT rs sg) sg p d := emptyT_congr (getT_whole rs sg (by omega) hd)
        rw [ee, hm]
        refine ⟨_, _, rfl, rfl, _, rfl, c, dx3, fs3, rfl, h5, h6, _, rfl, _, rfl, c, rs, sg, _, p, d, rfl, cp, hd2, _, rfl, _, _, rfl, rfl, ?_⟩
        have e5 : c2 = cz.drop (min (p + rs.getD d 0 + 1) sg.length) := by
          have e6 := congrArg (List.drop (min (rs.getD d 0 + 1) (sg.length - p))) e2
          rw [← hrl, List.drop_left, List.drop_drop, hrl] at e6
          rw [← e6]
          congr 1
          omega
        refine ⟨sg.length - min (p + rs.getD d 0 + 1) sg.length, by omega, rfl, nb + mm, min (p + rs.getD d 0 + 1) sg.length, d + 1, j - mm, rfl, by omega, rfl, by omega, by rw [← e5]; exact hi2, hd2⟩
    · have hp : p = sg.length := by have : ¬ ((p : Nat) : Int) < (sg.length : Nat) := fun z => hc (decide_eq_true z); omega
      rw [hp, List.drop_length, layL_nil] at hix
      have hj : j = 0 := by
        have h7 := (List.getElem?_eq_some_iff.mp hix).1
        split at h7
        · simpa using h7
        · simp at h7
      refine ⟨_, rfl, ?_⟩
      have : nb = i := by omega
      rw [this]
      exact k _ (s0.trans s1)
end

section
variable {P : Program} {w : World} {K : PySem.W.Frag} {mg : Str → Option Value} {base : Heap} {C : Addr}
def sp__law_cells : Sp := fun vs H Q _ => ∃ (f d : Addr) (s : Sight), vs = [.ref f, .ref d] ∧ H f = some (.lst (sightV s)) ∧ H d = some (.lst (sightV s)) ∧ s.length ≤ 100 ∧ Q (.bl true) H
theorem sc__law_cells : FnScope ["found", "due", "k"] ["found", "due"] (defScope s__law_cells) := ⟨rfl, rfl, rfl, by decide +kernel, rfl, by decide +kernel, by decide +kernel⟩
theorem ok__law_cells {f : Addr} {fd : FuncData} (F : Fun K "_law_cells" "_law_cells" s__law_cells f fd) (B : Bt mg) (c__law_whole : Callee P w K mg base CX0 "_law_whole" 1 ["x"] sp__law_whole) : FnOk P w K mg base CX0 2 f fd ["found", "due"] sp__law_cells := by
  refine F.ok sc__law_cells (fun vs H Q E h => ?_) (fun cdv A outer s H vs Q E hr h => ?_)
  · obtain ⟨f, d, s, rfl, _⟩ := h
    rfl
  · obtain ⟨fa, da, sg, rfl, hf, hd, hn, k⟩ := h
    refine ⟨_, (pss_cons (ps_if (PW.pt (pw_or (pt_not (pt_val (pe_callB (call_isinstK K) rfl B.isinstance bt_isinstance (pa_cons (pv 0) (pa_cons (pe_bltn (v := .ty "list") rfl B.list bt_list rfl) pa_nil))))) (pw_or1 (pt_cmpR op_ne (pe_callB (call_lenK K) rfl B.len bt_len (pa_cons (pv 0) pa_nil)) (pe_callB (call_lenK K) rfl B.len bt_len (pa_cons (pv 1) pa_nil)) (nomark _)))))
      (pss_one (ps_ret pe_bl))
      pss_nil)
      (pss_cons (ps_for PassesOwn.never rfl (pi_range1 rfl B.range (pa_cons (pe_callB (call_lenK K) rfl B.len bt_len (pa_cons (pv 1) pa_nil)) pa_nil)) (pg_name (i := 2) sc__law_cells.nd rfl (Or.inl rfl))
      (pss_one (ps_if (pt_cmpR op_isN (pe_ix (ix_listK K) (pv 1) (pv 2) (fun _ _ => rfl)) pe_non (nomark _))
      (pss_one (ps_if (pt_cmpR op_notN (pe_ix (ix_listK K) (pv 0) (pv 2) (fun _ _ => rfl)) pe_non (nomark _))
      (pss_one (ps_ret pe_bl))
      pss_nil))
      (pss_one (ps_if (PW.pt (pw_or (pt_not (pt_val (pe_cal c__law_whole hr (pa_cons (pe_ix (ix_listK K) (pv 0) (pv 2) (fun _ _ => rfl)) pa_nil)))) (pw_or1 (pt_cmpR op_ne (pe_ix (ix_listK K) (pv 0) (pv 2) (fun _ _ => rfl)) (pe_ix (ix_listK K) (pv 1) (pv 2) (fun _ _ => rfl)) (nomark _)))))
      (pss_one (ps_ret pe_bl))
      pss_nil)))))
      (pss_one (ps_ret pe_bl)))), ?_⟩
    have hsl : (sightV sg).length = sg.length := by unfold sightV; rw [List.length_map]
    refine ⟨_, rfl, _, _, _, true, rfl, fun _ z => z, .lst hf, rfl, _, rfl, iteF ?_⟩
    refine ⟨_, rfl, fa, _, rfl, .inl (SqL.of hf), _, rfl, da, _, rfl, .inl (SqL.of hd), rfl, _, rfl, iteNS rfl ?_⟩
    refine ⟨_, rfl, da, _, rfl, .inl (SqL.of hd), (sg.length : Int), (by rw [hsl]), by omega, by omega, for_range (lo := 0) (n := ((sg.length : Int)).toNat) (fun i σ H4 => H4 = H ∧ ∃ o2, σ = [some (.ref fa), some (.ref da), o2]) ⟨rfl, none, rfl⟩ ?_ ?_⟩
    · rintro i σ H4 hi ⟨rfl, o2, rfl⟩
      have e0 : (0 : Int) + (i : Nat) = (i : Nat) := Int.zero_add _
      rw [e0]
      have hi' : i < sg.length := by omega
      have hg := sightV_get hi'
      generalize sg[i] = x at hg
      refine ⟨_, rfl, _, rfl, da, _, _, vO x, rfl, rfl, SqL.of hd, atI_nat hg, rfl, _, rfl, ?_⟩
      cases x with
      | none =>
        refine iteT ⟨_, rfl, _, rfl, fa, _, _, vO none, rfl, rfl, SqL.of hf, atI_nat hg, rfl, _, rfl, iteF ?_⟩
        exact ⟨rfl, _, rfl⟩
      | some z =>
        refine iteF ⟨_, rfl, _, rfl, fa, _, _, vO (some z), rfl, rfl, SqL.of hf, atI_nat hg, vO (some z), rfl, .inl ⟨z, rfl, _, rfl, iteF ?_⟩⟩
        refine ⟨_, rfl, _, rfl, fa, _, _, vO (some z), rfl, rfl, SqL.of hf, atI_nat hg, _, rfl, _, rfl, da, _, _, vO (some z), rfl, rfl, SqL.of hd, atI_nat hg, rfl, _, rfl, iteNS rfl ?_⟩
        exact ⟨rfl, _, rfl⟩
    · rintro σ H4 ⟨rfl, o2, rfl⟩
      exact k
end

section
variable {P : Program} {w : World} {K : PySem.W.Frag} {mg : Str → Option Value} {base : Heap} {C : Addr}
def sp__law_ways : Sp := fun vs H Q _ => ∃ (t p : Nat), vs = [.int t, .int p] ∧ p ≤ t ∧ t ≤ 100 ∧ Q (.int (ch t p : Nat)) H
theorem sc__law_ways : FnScope ["things", "places", "found", "k"] ["things", "places"] (defScope s__law_ways) := ⟨rfl, rfl, rfl, by decide +kernel, rfl, by decide +kernel, by decide +kernel⟩
theorem ok__law_ways {f : Addr} {fd : FuncData} (F : Fun K "_law_ways" "_law_ways" s__law_ways f fd) (B : Bt mg) : FnOk P w K mg base CX0 1 f fd ["things", "places"] sp__law_ways := by
  refine F.ok sc__law_ways (fun vs H Q E h => ?_) (fun cdv A outer s H vs Q E hr h => ?_)
  · obtain ⟨t, p, rfl, _⟩ := h
    rfl
  · obtain ⟨t, p, rfl, hp, ht, k⟩ := h
    refine ⟨_, (pss_cons (ps_set (i := 2) sc__law_ways.nd rfl (Or.inl rfl) pe_int)
      (pss_cons (ps_for PassesOwn.never rfl (pi_range1 rfl B.range (pa_cons (pv 1) pa_nil)) (pg_name (i := 3) sc__law_ways.nd rfl (Or.inl rfl))
      (pss_one (ps_set (i := 2) sc__law_ways.nd rfl (Or.inl rfl) (pe_op op_fdiv (pe_op op_mul (pv 2) (pe_op op_sub (pv 0) (pv 3))) (pe_op op_add (pv 3) pe_int)))))
      (pss_one (ps_ret (pv 2))))), ?_⟩
    refine ⟨_, rfl, _, rfl, by omega, by omega, for_range (lo := 0) (n := ((p : Int)).toNat) (fun i σ H2 => H2 = H ∧ ∃ o3, σ = [some (.int t), some (.int p), some (.int (ch t i : Nat)), o3]) ⟨rfl, none, by rw [ch_zero]; rfl⟩ ?_ ?_⟩
    · rintro i σ H2 hi ⟨rfl, o3, rfl⟩
      have e0 : (0 : Int) + (i : Nat) = (i : Nat) := Int.zero_add _
      rw [e0]
      refine ⟨_, rfl, _, rfl, _, rfl, _, _, rfl, rfl, _, _, rfl, rfl, .inr ⟨by omega, by omega⟩, _, rfl, _, _, rfl, rfl, _, _, rfl, rfl, ⟨by omega, by omega⟩, rfl, some (V.int i), ?_⟩
      have e1 : ((ch t i : Nat) : Int) * ((t : Nat) - (i : Nat)) / ((i : Nat) + 1) = ((ch t (i + 1) : Nat) : Int) := by
        have h1 := ch_mul t i
        have h2 : ((t : Nat) : Int) - (i : Nat) = ((t - i : Nat) : Int) := by omega
        have h3 : ((i : Nat) : Int) + 1 = ((i + 1 : Nat) : Int) := by omega
        rw [h2, h3, ← Int.natCast_mul, ← h1, Int.natCast_mul]
        exact Int.mul_ediv_cancel _ (by omega)
      show [some (V.int t), some (V.int p), some (V.int (((ch t i : Nat) : Int) * ((t : Nat) - (i : Nat)) / ((i : Nat) + 1))), some (V.int i)] = _
      rw [e1]
    · rintro σ H2 ⟨rfl, o3, rfl⟩
      have e : ((p : Int)).toNat = p := by omega
      rw [e]
      exact ⟨_, rfl, k⟩
def sp__law_packed : Sp := fun vs H Q _ => ∃ (tr : Addr) (rs : List Nat) (n : Nat), vs = [.ref tr, .int n] ∧ H tr = some (.tup (runsV rs)) ∧ (∀ k ∈ rs, 1 ≤ k) ∧ need rs ≤ n ∧ n ≤ 100 ∧ ∀ l H', Same H H' → H l = none → H' l = some (.lst ((body rs ++ List.replicate (n - need rs) 0).map V.int)) → Q (.ref l) H'
theorem need_take (rs : List Nat) : ∀ i, need (rs.take i) ≤ need rs := by
  induction rs with
  | nil => intro i; simp
  | cons k rs ih =>
    intro i
    cases i with
    | zero => exact Nat.zero_le _
    | succ i =>
      rw [List.take_succ_cons]
      by_cases h : rs.take i = []
      · rw [h]
        by_cases h2 : rs = []
        · rw [h2]; exact Nat.le_refl _
        · rw [need_cons k h2]; show k ≤ _; omega
      · have h2 : rs ≠ [] := fun z => h (by rw [z]; simp)
        rw [need_cons k h, need_cons k h2]
        have := ih i
        omega
theorem ones_comp (i : Nat) (z : Int) : (List.replicate i (V.int z)) = (List.replicate i z).map V.int := by simp
theorem sc__law_packed : FnScope ["runs", "size", "cells", "run"] ["runs", "size"] (defScope s__law_packed) := ⟨rfl, rfl, rfl, by decide +kernel, rfl, by decide +kernel, by decide +kernel⟩
theorem ok__law_packed {f : Addr} {fd : FuncData} (F : Fun K "_law_packed" "_law_packed" s__law_packed f fd) (B : Bt mg) : FnOk P w K mg base CX0 1 f fd ["runs", "size"] sp__law_packed := by
  refine F.ok sc__law_packed (fun vs H Q E h => ?_) (fun cdv A outer s H vs Q E hr h => ?_)
  · obtain ⟨tr, rs, n, rfl, _⟩ := h
    rfl
  · obtain ⟨tr, rs, n, rfl, htr, hk1, hnd, hn, k⟩ := h
    have hu := units20 hr
    refine ⟨_, (pss_cons (ps_set (i := 2) sc__law_packed.nd rfl (Or.inl rfl) (pe_lst pa_nil))
      (pss_cons (ps_for PassesOwn.never rfl (pi_tupK K (pv 0)) (pg_name (i := 3) sc__law_packed.nd rfl (Or.inl rfl))
      (pss_join (ps_if (pt_cmpR (op_neD hu) (pv 2) (pe_lst pa_nil) (nomark _))
      (pss_one (ps_expr (pe_bm PySem.F.plainAttrs_list PySem.F.slot_list_append PySem.F.type_list_append mt_append (pv 2) (pa_cons pe_int pa_nil))))
      pss_nil)
      (pss_one (ps_set (i := 2) sc__law_packed.nd rfl (Or.inl rfl) (pe_op op_cat (pv 2) (pe_comp ["j"] [] ⟨rfl, rfl, rfl, rfl, rfl⟩ rfl (pi_range1 rfl B.range (pa_cons (pv 3) pa_nil)) (fun _ _ _ _ _ => (pg_name (i := 0) (show (["j"] : List Str).Nodup by decide +kernel) rfl (Or.inl rfl))) (fun _ _ _ _ _ => pcb_elt pe_int)))))))
      (pss_one (ps_ret (pe_op op_cat (pv 2) (pe_comp ["j"] [] ⟨rfl, rfl, rfl, rfl, rfl⟩ rfl (pi_range1 rfl B.range (pa_cons (pe_op op_sub (pv 1) (pe_callB (call_lenK K) rfl B.len bt_len (pa_cons (pv 2) pa_nil))) pa_nil)) (fun _ _ _ _ _ => (pg_name (i := 0) (show (["j"] : List Str).Nodup by decide +kernel) rfl (Or.inl rfl))) (fun _ _ _ _ _ => pcb_elt pe_int))))))), ?_⟩
    have hrV : (runsV rs).length = rs.length := by unfold runsV; rw [List.length_map]
    refine ⟨Nat.zero_le _, fun l0 hl0 => ?_⟩
    have htr0 : (upd H l0 (.lst [])) tr = some (.tup (runsV rs)) := same_upd hl0 _ _ htr
    refine ⟨_, rfl, tr, rfl, ⟨_, SqT.of htr0⟩, for_tup (K := K) (a := tr) (xs := runsV rs) (fun i σ H2 => ∃ (l : Addr) (o3 : Option V), σ = [some (.ref tr), some (.int n), some (.ref l), o3] ∧ Same H H2 ∧ H l = none ∧ H2 l = some (.lst ((body (rs.take i)).map V.int))) ⟨l0, none, rfl, same_upd hl0, hl0, upd_same⟩ ?_ ?_ ?_⟩
    · rintro i σ H2 _ ⟨l, o3, rfl, s2, nl, hl⟩
      exact SqT.of (s2 _ _ htr)
    · rintro i x σ H2 hi ⟨l, o3, rfl, s2, nl, hl⟩
      have hil : i < rs.length := by have := (List.getElem?_eq_some_iff.mp hi).1; omega
      rw [runsV_get hil] at hi
      cases hi
      generalize hkk : rs.getD i 0 = kk
      have hkm : rs[i]? = some kk := by rw [List.getElem?_eq_getElem hil, ← hkk, getD_of (List.getElem?_eq_getElem hil)]
      have hkr : kk ∈ rs := List.mem_of_getElem? hkm
      have hb2 : need (rs.take (i + 1)) ≤ 100 := by have := need_take rs (i + 1); omega
      have hb1 : need (rs.take i) ≤ 100 := by have := need_take rs i; omega
      -- the list before the run
      let pre : List Int := if i = 0 then [] else body (rs.take i) ++ [0]
      have hpre : pre ++ List.replicate kk 1 = body (rs.take (i + 1)) := by
        show (if i = 0 then [] else body (rs.take i) ++ [0]) ++ List.replicate kk 1 = _
        rw [List.take_add_one, hkm]
        by_cases h0 : i = 0
        · rw [if_pos h0, h0]; rfl
        · rw [if_neg h0]
          show _ = body (rs.take i ++ [kk])
          have hne : rs.take i ≠ [] := fun z => by
            have : (rs.take i).length = 0 := by rw [z]; rfl
            rw [List.length_take] at this
            omega
          rw [body_snoc _ kk hne, List.append_assoc]
          rfl
      have hkk100 : kk ≤ 100 := by
        have := congrArg List.length hpre
        rw [List.length_append, List.length_replicate, body_len] at this
        omega
      have hprel : pre.length ≤ 101 := by
        have := congrArg List.length hpre
        rw [List.length_append, List.length_replicate, body_len] at this
        omega
      refine ⟨fun σ' H' => σ' = [some (.ref tr), some (.int n), some (.ref l), some (.int kk)] ∧ Same H H' ∧ H' l = some (.lst (pre.map V.int)), ?_, ?_⟩
      · refine ⟨_, rfl, Nat.zero_le _, fun e0 he0 => ?_⟩
        have s3 : Same H2 (upd H2 e0 (.lst [])) := same_upd he0
        refine ⟨dRow (body (rs.take i)), dRow [], isD_row (s3 _ _ hl), isD_row upd_same, .inl ⟨_, _, rfl, rfl⟩, Nat.le_trans (depth_row _) (by decide), _, rfl, ?_⟩
        generalize upd H2 e0 (.lst []) = H3 at s3 ⊢
        rw [eqD_row]
        by_cases h0 : i = 0
        · have e : body (rs.take i) = [] := by rw [h0]; rfl
          rw [e, decide_eq_true rfl]
          refine iteF ⟨rfl, s2.trans s3, ?_⟩
          rw [s3 _ _ hl, e]
          show _ = some (HO.lst ((if i = 0 then [] else body (rs.take i) ++ [0]).map V.int))
          rw [if_pos h0]
        · have hne : body (rs.take i) ≠ [] := fun z => by
            have h1 := congrArg List.length z
            rw [body_len] at h1
            have h2 : need (rs.take i) ≥ 1 := by
              obtain ⟨a, b, hab⟩ : ∃ a b, rs.take i = a :: b := by
                cases q : rs.take i with
                | nil =>
                  have : (rs.take i).length = 0 := by rw [q]; rfl
                  rw [List.length_take] at this
                  omega
                | cons a b => exact ⟨a, b, rfl⟩
              have ha : 1 ≤ a := hk1 a (List.mem_of_mem_take (by rw [hab]; exact List.mem_cons_self ..))
              rw [hab]
              cases b <;> unfold need <;> omega
            simp at h1
            omega
          rw [decide_eq_false hne]
          refine iteT ⟨_, rfl, .inl ⟨rfl, _, SqL.of (s3 _ _ hl)⟩, l, _, _, rfl, rfl, s3 _ _ hl, small1000 (by rw [List.length_map, body_len]; omega), rfl, same_upd' (s2.trans s3) nl, ?_⟩
          rw [upd_same]
          show _ = some (HO.lst ((if i = 0 then [] else body (rs.take i) ++ [0]).map V.int))
          rw [if_neg h0, List.map_append]
          rfl
      · rintro σ' H3 ⟨rfl, s3, hl3⟩
        refine ⟨_, rfl, _, rfl, (kk : Int), rfl, by omega, by omega, comp_range (fun j ys H' => H' = H3 ∧ ys = List.replicate j (V.int 1)) ⟨rfl, rfl⟩ ?_ ?_ ?_ ?_⟩
        · exact Nat.le_of_lt (small1000 (by omega))
        · rintro j ys H' ⟨_, rfl⟩
          rw [List.length_replicate]
          exact Nat.le_refl _
        · rintro j ys H' hj ⟨rfl, rfl⟩
          refine ⟨rfl, rfl, ?_⟩
          rw [List.replicate_succ']
        · rintro ys H' ⟨rfl, rfl⟩ lo hlo
          have s4 : Same H' (upd H' lo (.lst (List.replicate ((kk : Int)).toNat (V.int 1)))) := same_upd hlo
          refine ⟨l, lo, _, _, rfl, rfl, s4 _ _ hl3, upd_same, ?_, fun l2 hl2 => ?_⟩
          · rw [List.length_map, List.length_replicate]
            have := small1000 (n := 300) (by omega)
            omega
          have nl2 : H l2 = none := (s3.trans s4).free hl2
          refine ⟨l2, _, rfl, same_upd' (s3.trans s4) nl2, nl2, ?_⟩
          rw [upd_same, Int.toNat_natCast, ones_comp, ← List.map_append, hpre]
    · rintro σ H2 ⟨l, o3, rfl, s2, nl, hl⟩
      rw [hrV, List.take_length] at hl
      have hbl : ((body rs).map V.int).length = need rs := by rw [List.length_map, body_len]
      have e1 : ((n : Nat) : Int) - (((body rs).map V.int).length : Nat) = ((n - need rs : Nat) : Int) := by rw [hbl]; omega
      refine ⟨_, rfl, _, rfl, _, rfl, l, _, rfl, .inl (SqL.of hl), _, _, rfl, rfl, ((n - need rs : Nat) : Int), (by rw [← e1]), by omega, by omega, comp_range (fun j ys H' => H' = H2 ∧ ys = List.replicate j (V.int 0)) ⟨rfl, rfl⟩ ?_ ?_ ?_ ?_⟩
      · exact Nat.le_of_lt (small1000 (by omega))
      · rintro j ys H' ⟨_, rfl⟩
        rw [List.length_replicate]
        exact Nat.le_refl _
      · rintro j ys H' hj ⟨rfl, rfl⟩
        refine ⟨rfl, rfl, ?_⟩
        rw [List.replicate_succ']
      · rintro ys H' ⟨rfl, rfl⟩ lo hlo
        have s4 : Same H' (upd H' lo (.lst (List.replicate (((n - need rs : Nat) : Int)).toNat (V.int 0)))) := same_upd hlo
        refine ⟨l, lo, _, _, rfl, rfl, s4 _ _ hl, upd_same, ?_, fun l2 hl2 => ?_⟩
        · rw [hbl, List.length_replicate]
          have := small1000 (n := 300) (by omega)
          omega
        have nl2 : H l2 = none := (s2.trans s4).free hl2
        refine k l2 _ (same_upd' (s2.trans s4) nl2) nl2 ?_
        rw [upd_same, Int.toNat_natCast, ones_comp, ← List.map_append]
def sp_law (K : PySem.W.Frag) : Sp := fun vs H Q _ => ∃ (a : Addr) (ns : List Int), vs = [.ref a] ∧ SqL K H a (ns.map V.int) ∧ ns.length ≤ 63 ∧ ∀ H', Q (.bl true) H'
theorem cells_sight (c : List Int) : c.map V.int = sightV (c.map some) := by unfold sightV; rw [List.map_map]; rfl
theorem runs_sum (rs : List Nat) : (runsI rs).sum = ((rs.sum : Nat) : Int) := by
  induction rs with
  | nil => rfl
  | cons k r ih =>
    unfold runsI at ih ⊢
    rw [List.map_cons, List.sum_cons, List.sum_cons, ih]
    omega
theorem sc_law : FnScope ["script", "size", "cell", "runs", "sight", "spare", "due", "count", "which", "cells", "back"] ["script"] (defScope s_law) := ⟨rfl, rfl, rfl, by decide +kernel, rfl, by decide +kernel, by decide +kernel⟩
theorem ok_law {f : Addr} {fd : FuncData} (F : Fun K "law" "law" s_law f fd) (B : Bt mg) (c__law_cell_at : Callee P w K mg base CX0 "_law_cell_at" 1 ["script", "k"] (sp__law_cell_at K)) (c__law_whole : Callee P w K mg base CX0 "_law_whole" 1 ["x"] sp__law_whole) (c__law_mix : Callee P w K mg base CX0 "_law_mix" 1 ["cell", "k"] sp__law_mix) (c__law_runs : Callee P w K mg base CX0 "_law_runs" 1 ["cells"] sp__law_runs) (c__law_cells : Callee P w K mg base CX0 "_law_cells" 2 ["found", "due"] sp__law_cells)
    (c__law_ways : Callee P w K mg base CX0 "_law_ways" 1 ["things", "places"] sp__law_ways) (c__law_packed : Callee P w K mg base CX0 "_law_packed" 1 ["runs", "size"] sp__law_packed) (c_layings : Callee P w K mg base CX0 "layings" 5 ["runs", "sight"] sp_layings) (c_laying : Callee P w K mg base CX0 "laying" 5 ["runs", "sight", "number"] sp_laying) (c_number_of : Callee P w K mg base CX0 "number_of" 5 ["runs", "sight", "cells"] sp_number_of) : FnOk P w K mg base CX0 6 f fd ["script"] (sp_law K) := by
  refine F.ok sc_law (fun vs H Q E h => ?_) (fun cdv A outer s H vs Q E hr h => ?_)
  · obtain ⟨a, ns, rfl, _⟩ := h
    rfl
  · obtain ⟨a, ns, rfl, hS, hl, k⟩ := h
    have hu := units20 hr
    refine ⟨_, (pss_cons (ps_set (i := 1) sc_law.nd rfl (Or.inl rfl) (pe_op op_mod (pe_cal c__law_cell_at hr (pa_cons (pv 0) (pa_cons pe_int pa_nil))) pe_int))
      (pss_cons (ps_set (i := 2) sc_law.nd rfl (Or.inr rfl) (pe_cal c__law_cell_at hr (pa_cons (pv 0) (pa_cons pe_int pa_nil))))
      (pss_cons (ps_set (i := 3) sc_law.nd rfl (Or.inl rfl) (pe_callTy (call_tupleK K) rfl B.tuple bt_tuple (pa_cons (pe_comp ["j"] [2] ⟨rfl, rfl, rfl, rfl, rfl⟩ rfl (pi_range1 rfl B.range (pa_cons (pe_op op_mod (pe_cal c__law_mix hr (pa_cons (pv 2) (pa_cons pe_int pa_nil))) pe_int) pa_nil)) (fun _ _ _ _ _ => (pg_name (i := 0) (show (["j", "cell"] : List Str).Nodup by decide +kernel) rfl (Or.inl rfl))) (fun _ _ _ _ _ => pcb_elt (pe_op op_add pe_int (pe_op op_mod (pe_cal c__law_mix hr (pa_cons (pv 1) (pa_cons (pv 0) pa_nil))) (pe_ix (ix_listK K) (pe_lst (pa_cons pe_int (pa_cons pe_int (pa_cons pe_int (pa_cons pe_int pa_nil))))) (pe_op op_mod (pv 1) pe_int) (fun _ _ => rfl)))))) pa_nil)))
      (pss_cons (ps_setComp (i := 4) ["at"] [] sc_law.nd rfl rfl ⟨rfl, rfl, rfl, rfl, rfl⟩ rfl (pi_range1 rfl B.range (pa_cons (pv 1) pa_nil)) (fun _ _ _ _ _ => (pg_name (i := 0) (show (["at"] : List Str).Nodup by decide +kernel) rfl (Or.inl rfl))) (fun _ _ _ _ _ => pcb_elt pe_non))
      (pss_cons (ps_set (i := 5) sc_law.nd rfl (Or.inl rfl) (pe_op op_sub (pe_op op_sub (pv 1) (pe_callB (call_sumTK K rfl) rfl B.sum bt_sum (pa_cons (pv 3) pa_nil))) (pe_callB (call_max2 rfl) rfl B.max bt_max (pa_cons pe_int (pa_cons (pe_op op_sub (pe_callB (call_lenK K) rfl B.len bt_len (pa_cons (pv 3) pa_nil)) pe_int) pa_nil)))))
      (pss_cons (ps_set (i := 6) sc_law.nd rfl (Or.inl rfl) pe_int)
      (pss_join (ps_if (pt_cmpR op_ge (pv 5) pe_int (nomark _))
      (pss_one (ps_set (i := 6) sc_law.nd rfl (Or.inl rfl) (pe_cal c__law_ways hr (pa_cons (pe_op op_add (pv 5) (pe_callB (call_lenK K) rfl B.len bt_len (pa_cons (pv 3) pa_nil))) (pa_cons (pe_callB (call_lenK K) rfl B.len bt_len (pa_cons (pv 3) pa_nil)) pa_nil)))))
      pss_nil)
      (pss_cons (ps_set (i := 7) sc_law.nd rfl (Or.inl rfl) (pe_cal c_layings hr (pa_cons (pv 3) (pa_cons (pv 4) pa_nil))))
      (pss_cons (ps_if (PW.pt (pw_or (pt_not (pt_val (pe_cal c__law_whole hr (pa_cons (pv 7) pa_nil)))) (pw_or1 (pt_cmpR op_ne (pv 7) (pv 6) (nomark _)))))
      (pss_one (ps_ret pe_bl))
      pss_nil)
      (pss_cons (ps_if (pt_cmpR op_eq (pv 6) pe_int (nomark _))
      (pss_one (ps_ret pe_bl))
      pss_nil)
      (pss_cons (ps_set (i := 8) sc_law.nd rfl (Or.inl rfl) (pe_op op_mod (pe_cal c__law_cell_at hr (pa_cons (pv 0) (pa_cons pe_int pa_nil))) (pv 6)))
      (pss_cons (ps_set (i := 9) sc_law.nd rfl (Or.inl rfl) (pe_cal c_laying hr (pa_cons (pv 3) (pa_cons (pv 4) (pa_cons (pv 8) pa_nil)))))
      (pss_cons (ps_if (PW.pt (pw_or (pt_not (pt_val (pe_callB (call_isinstK K) rfl B.isinstance bt_isinstance (pa_cons (pv 9) (pa_cons (pe_bltn (v := .ty "list") rfl B.list bt_list rfl) pa_nil))))) (pw_or (pt_cmpR op_ne (pe_callB (call_lenK K) rfl B.len bt_len (pa_cons (pv 9) pa_nil)) (pv 1) (nomark _)) (pw_or1 (pt_cmpR (op_neD hu) (pe_cal c__law_runs hr (pa_cons (pv 9) pa_nil)) (pv 3) (nomark _))))))
      (pss_one (ps_ret pe_bl))
      pss_nil)
      (pss_cons (ps_if (pt_cmpR op_ne (pe_cal c_number_of hr (pa_cons (pv 3) (pa_cons (pv 4) (pa_cons (pe_callTy (call_listK K) rfl B.list bt_list (pa_cons (pv 9) pa_nil)) pa_nil)))) (pv 8) (nomark _))
      (pss_one (ps_ret pe_bl))
      pss_nil)
      (pss_cons (ps_if (pt_not (pt_val (pe_cal c__law_cells hr (pa_cons (pe_cal c_laying hr (pa_cons (pv 3) (pa_cons (pv 4) (pa_cons (pe_op op_sub (pv 6) pe_int) pa_nil)))) (pa_cons (pe_cal c__law_packed hr (pa_cons (pv 3) (pa_cons (pv 1) pa_nil))) pa_nil)))))
      (pss_one (ps_ret pe_bl))
      pss_nil)
      (pss_cons (ps_set (i := 10) sc_law.nd rfl (Or.inl rfl) (pe_cal c__law_packed hr (pa_cons (pe_tuprev rfl (pv 3) rfl B.tuple rfl B.reversed) (pa_cons (pv 1) pa_nil))))
      (pss_one (ps_ret (pe_cal c__law_cells hr (pa_cons (pe_cal c_laying hr (pa_cons (pv 3) (pa_cons (pv 4) (pa_cons pe_int pa_nil)))) (pa_cons (pe_listrev rfl (pv 10) rfl B.list rfl B.reversed) pa_nil))))))))))))))))))))), ?_⟩
    -- size, cell
    obtain ⟨n, hn⟩ : ∃ n : Nat, cellZ ns 0 % 41 = n := ⟨(cellZ ns 0 % 41).toNat, by omega⟩
    have hn40 : n ≤ 40 := by omega
    refine ⟨_, rfl, a, ns, 0, rfl, hS, _, _, rfl, rfl, pz rfl, ?_⟩
    show gName 1 (V.int (cellZ ns 0 % 41)) _ _ _
    rw [hn]
    refine ⟨_, rfl, a, ns, 1, rfl, hS, ?_⟩
    generalize cellZ ns 1 = c
    -- runs
    obtain ⟨m, hm⟩ : ∃ m : Nat, mixZ c 99 % 13 = m := ⟨(mixZ c 99 % 13).toNat, by omega⟩
    refine ⟨_, rfl, _, _, rfl, _, _, rfl, rfl, pz rfl, (m : Int), (show [V.int (mixZ c 99 % 13)] = [V.int (m : Nat)] by rw [hm]), by omega, by omega, comp_range (fun i ys H' => Same H H' ∧ ∃ rs : List Nat, ys = runsV rs ∧ rs.length = i ∧ ∀ k ∈ rs, 1 ≤ k ∧ k ≤ 6) ⟨Same.refl _, [], rfl, rfl, fun k hk => (by cases hk)⟩ ?_ ?_ ?_ ?_⟩
    · exact Nat.le_of_lt (small1000 (by omega))
    · rintro i ys H' ⟨_, rs, rfl, hl, _⟩
      unfold runsV
      rw [List.length_map]
      omega
    · rintro i ys H' hi ⟨s1, rs, rfl, hl, hk⟩
      refine ⟨rfl, ?_⟩
      refine ⟨_, rfl, _, rfl, _, _, rfl, by show 4 ≤ sizeLine; decide, fun z hz => ?_⟩
      have s2 := s1.trans (same_upd (o := HO.lst [.int 1, .int 2, .int 4, .int 6]) hz)
      have hz' : (upd H' z (.lst [.int 1, .int 2, .int 4, .int 6])) z = some (.lst [.int 1, .int 2, .int 4, .int 6]) := upd_same
      generalize upd H' z (.lst [V.int 1, V.int 2, V.int 4, V.int 6]) = H2 at s2 hz' ⊢
      obtain ⟨q, hq, hq0⟩ : ∃ q : Int, atI [V.int 1, V.int 2, V.int 4, V.int 6] (c % 4) = some (.int q) ∧ 0 < q ∧ q ≤ 6 := by
        rcases (by omega : c % 4 = 0 ∨ c % 4 = 1 ∨ c % 4 = 2 ∨ c % 4 = 3) with h0 | h0 | h0 | h0 <;> rw [h0]
        · exact ⟨1, rfl, by omega⟩
        · exact ⟨2, rfl, by omega⟩
        · exact ⟨4, rfl, by omega⟩
        · exact ⟨6, rfl, by omega⟩
      refine ⟨_, rfl, _, _, rfl, rfl, pz rfl, z, _, _, .int q, rfl, rfl, SqL.of hz', hq, _, _, rfl, rfl, hq0.1, _, _, rfl, rfl, s2, ?_⟩
      generalize mixZ c (0 + (i : Nat)) = mm
      obtain ⟨v, hv⟩ : ∃ v : Nat, 1 + mm % q = v := ⟨(1 + mm % q).toNat, by have := Int.emod_nonneg mm (Int.ne_of_gt hq0.1); omega⟩
      have hv6 : 1 ≤ v ∧ v ≤ 6 := by have := Int.emod_nonneg mm (Int.ne_of_gt hq0.1); have := Int.emod_lt_of_pos mm hq0.1; omega
      refine ⟨rs ++ [v], ?_, by rw [List.length_append, List.length_singleton, hl], fun k hk' => ?_⟩
      · show runsV rs ++ [V.int (1 + mm % q)] = _
        rw [hv]
        unfold runsV
        rw [List.map_append]
        rfl
      · rcases List.mem_append.mp hk' with z | z
        · exact hk k z
        · rw [List.mem_singleton.mp z]; exact hv6
    rintro ys H1 ⟨s1, rs, rfl, hrl, hrk⟩ lt hlt
    have hk1 : ∀ k ∈ rs, 1 ≤ k := fun k hk => (hrk k hk).1
    have hk5 : ∀ k ∈ rs, k ≤ 500 := fun k hk => by have := (hrk k hk).2; omega
    have hrl12 : rs.length ≤ 12 := by omega
    have hrV : (runsV rs).length = rs.length := by unfold runsV; rw [List.length_map]
    have s2 : Same H (upd H1 lt (.lst (runsV rs))) := s1.trans (same_upd hlt)
    refine ⟨lt, _, rfl, .inl ⟨SqL.of upd_same, fun tr ntr => ?_⟩⟩
    have s3 := s2.trans (same_upd (o := HO.tup (runsV rs)) ntr)
    have htr : (upd (upd H1 lt (.lst (runsV rs))) tr (.tup (runsV rs))) tr = some (.tup (runsV rs)) := upd_same
    generalize upd (upd H1 lt (.lst (runsV rs))) tr (.tup (runsV rs)) = H3 at s3 htr ⊢
    -- sight
    refine ⟨_, rfl, _, rfl, by omega, by omega, comp_range (fun i ys H' => H' = H3 ∧ ys = sightV (blank i)) ⟨rfl, rfl⟩ ?_ ?_ ?_ ?_⟩
    · exact Nat.le_of_lt (small1000 (by omega))
    · rintro i ys H' ⟨_, rfl⟩
      unfold sightV
      rw [List.length_map, blank_len]
      exact Nat.le_refl _
    · rintro i ys H' hi ⟨rfl, rfl⟩
      refine ⟨rfl, rfl, ?_⟩
      unfold sightV blank
      rw [List.replicate_succ', List.map_append]
      rfl
    rintro ys H4 ⟨rfl, rfl⟩ ls hls
    have en : ((n : Int)).toNat = n := by omega
    rw [en]
    have s4 : Same H4 (upd H4 ls (.lst (sightV (blank n)))) := same_upd hls
    have hls5 : (upd H4 ls (.lst (sightV (blank n)))) ls = some (.lst (sightV (blank n))) := upd_same
    generalize upd H4 ls (.lst (sightV (blank n))) = H5 at s4 hls5 ⊢
    have htr5 := s4 _ _ htr
    have s05 := s3.trans s4
    have hbP := blank_P n
    have hbl := blank_len n
    -- spare
    have hnd := need_sum rs
    refine ⟨_, rfl, _, rfl, tr, runsI rs, rfl, SqT.of (by rw [← runsV_I]; exact htr5), _, _, rfl, rfl, _, rfl, tr, _, rfl, .inr (SqT.of htr5), _, _, rfl, rfl, _, _, rfl, _, _, rfl, rfl, ?_⟩
    have hsp : ((n : Nat) : Int) - (runsI rs).sum - (if ((runsV rs).length : Int) - 1 > 0 then ((runsV rs).length : Int) - 1 else 0) = ((n : Nat) : Int) - (need rs : Nat) := by
      rw [runs_sum, hrV]
      by_cases h0 : rs = []
      · rw [h0]; rfl
      · rw [if_neg h0] at hnd
        have : rs.length ≠ 0 := fun z => h0 (List.length_eq_zero_iff.mp z)
        split <;> omega
    show gName 5 (V.int (((n : Nat) : Int) - (runsI rs).sum - (if ((runsV rs).length : Int) - 1 > 0 then ((runsV rs).length : Int) - 1 else 0))) _ _ _
    rw [hsp]
    -- due
    have hw := ways_blank n rs hk1
    refine ⟨fun σ' H' => σ' = [some (.ref a), some (.int n), some (.int c), some (.ref tr), some (.ref ls), some (.int (((n : Nat) : Int) - (need rs : Nat))), some (.int (waysN rs (blank n) : Nat)), none, none, none, none] ∧ H' = H5, ?_, ?_⟩
    · refine ⟨_, rfl, _, _, rfl, rfl, _, rfl, ?_⟩
      by_cases hc : need rs ≤ n
      · rw [decide_eq_true (show (0 : Int) ≤ ((n : Nat) : Int) - (need rs : Nat) by omega)]
        have e1 : ((n : Nat) : Int) - (need rs : Nat) + ((runsV rs).length : Nat) = ((n - need rs + rs.length : Nat) : Int) := by rw [hrV]; omega
        refine iteT ⟨_, rfl, _, rfl, tr, _, rfl, .inr (SqT.of htr5), _, _, rfl, rfl, _, rfl, tr, _, rfl, .inr (SqT.of htr5), n - need rs + rs.length, rs.length, ?_, by omega, by omega, ?_⟩
        · show [V.int (((n : Nat) : Int) - (need rs : Nat) + ((runsV rs).length : Nat)), V.int ((runsV rs).length : Nat)] = _
          rw [e1, hrV]
        · rw [if_pos hc] at hw
          rw [← hw]
          exact ⟨rfl, rfl⟩
      · rw [decide_eq_false (show ¬ (0 : Int) ≤ ((n : Nat) : Int) - (need rs : Nat) by omega)]
        refine iteF ⟨?_, rfl⟩
        rw [if_neg hc] at hw
        rw [hw]
        rfl
    rintro σ' H6 ⟨rfl, rfl⟩
    refine ⟨_, rfl, _, rfl, tr, ls, rs, blank n, rfl, htr5, hls5, by omega, by omega, fun H7 s7 => ?_⟩
    refine ⟨_, rfl, .int _, rfl, .inl ⟨_, rfl, _, rfl, iteF ?_⟩⟩
    refine ⟨_, rfl, _, rfl, rfl, _, rfl, iteNS rfl ?_⟩
    refine ⟨_, rfl, rfl, _, rfl, ?_⟩
    refine ite2 (fun _ => k H7) (fun hne => ?_)
    have hwp : 0 < waysN rs (blank n) := by
      have : waysN rs (blank n) ≠ 0 := fun z => hne (dec_int1.mpr (by rw [z]; rfl))
      omega
    have hnn : need rs ≤ n := by
      by_cases q : need rs ≤ n
      · exact q
      · rw [if_neg q] at hw; omega
    have hlay : waysN rs (blank n) = (layL rs (blank n)).length := rfl
    have hS7 : SqL K H7 a (ns.map V.int) := (s05.trans s7).seq hS
    have hpos : (0 : Int) < (waysN rs (blank n) : Nat) := by omega
    refine ⟨_, rfl, a, ns, 2, rfl, hS7, _, rfl, _, _, rfl, rfl, hpos, ?_⟩
    obtain ⟨q, hq⟩ : ∃ q : Nat, cellZ ns 2 % (waysN rs (blank n) : Nat) = q := ⟨(cellZ ns 2 % (waysN rs (blank n) : Nat)).toNat, by have := Int.emod_nonneg (cellZ ns 2) (Int.ne_of_gt hpos); omega⟩
    have hql : q < waysN rs (blank n) := by have := Int.emod_lt_of_pos (cellZ ns 2) hpos; omega
    show gName 8 (V.int (cellZ ns 2 % (waysN rs (blank n) : Nat))) _ _ _
    rw [hq]
    -- cells
    obtain ⟨cc, hcc⟩ : ∃ cc, (layL rs (blank n))[q]? = some cc := ⟨_, List.getElem?_eq_getElem (by omega)⟩
    obtain ⟨hcl, hcr, _⟩ := lay_sound hk1 hbP (List.mem_of_getElem? hcc)
    have htr7 := s7 _ _ htr5
    have hls7 := s7 _ _ hls5
    refine ⟨_, rfl, _, rfl, _, rfl, tr, ls, rs, blank n, q, cc, rfl, htr7, hls7, by omega, by omega, hk5, hcc, fun lc H8 s8 nlc hlc => ?_⟩
    have htr8 := s8 _ _ htr7
    have hls8 := s8 _ _ hls7
    have hcm : (cc.map V.int).length = n := by rw [List.length_map]; omega
    refine ⟨_, rfl, _, _, _, true, rfl, fun _ z => z, .lst hlc, rfl, _, rfl, iteF ?_⟩
    refine ⟨_, rfl, lc, _, rfl, .inl (SqL.of hlc), _, rfl, rfl, _, rfl, iteNS (by rw [hcm]) ?_⟩
    refine ⟨_, rfl, lc, cc, rfl, hlc, by omega, fun tz H9 s9 ntz htz => ?_⟩
    refine ⟨_, rfl, dTup (runsZ cc), dTup (runsI rs), isD_tup htz, isD_tup (by rw [← runsV_I]; exact s9 _ _ htr8), .inr ⟨_, _, rfl, rfl⟩, Nat.le_trans (depth_tup _) (by decide), _, rfl, ?_⟩
    rw [eqD_tup, decide_eq_true hcr]
    refine iteF ?_
    -- number_of
    have hlc9 := s9 _ _ hlc
    refine ⟨_, rfl, _, rfl, _, rfl, lc, _, rfl, .inl (SqL.of hlc9), fun lh hlh => ?_⟩
    have s10 : Same H9 (upd H9 lh (.lst (cc.map V.int))) := same_upd hlh
    have hlh' : (upd H9 lh (.lst (cc.map V.int))) lh = some (.lst (cc.map V.int)) := upd_same
    generalize upd H9 lh (.lst (cc.map V.int)) = H10 at s10 hlh' ⊢
    have s810 := s9.trans s10
    refine ⟨tr, ls, lh, rs, blank n, cc, q, rfl, s810 _ _ htr8, s810 _ _ hls8, hlh', by omega, by omega, hk1, hbP, hcc, fun H11 s11 => ?_⟩
    refine ⟨_, rfl, rfl, _, rfl, iteNS rfl ?_⟩
    -- the last one
    have s811 := s810.trans s11
    have htr11 := s811 _ _ htr8
    have hls11 := s811 _ _ hls8
    have hlast := lay_last rs n hk1 hnn
    have hlast' : (layL rs (blank n))[waysN rs (blank n) - 1]? = some (body rs ++ List.replicate (n - need rs) 0) := by rw [← hlast, List.getLast?_eq_getElem?]; rfl
    have e6 : ((waysN rs (blank n) : Nat) : Int) - 1 = ((waysN rs (blank n) - 1 : Nat) : Int) := by omega
    refine ⟨_, rfl, _, rfl, _, rfl, _, _, rfl, rfl, tr, ls, rs, blank n, waysN rs (blank n) - 1, _, ?_, htr11, hls11, by omega, by omega, hk5, hlast', fun l1 H12 s12 nl1 hl1 => ?_⟩
    · show [V.ref tr, V.ref ls, V.int (((waysN rs (blank n) : Nat) : Int) - 1)] = _
      rw [e6]
    have htr12 := s12 _ _ htr11
    refine ⟨_, rfl, _, rfl, tr, rs, n, rfl, htr12, hk1, hnn, by omega, fun l2 H13 s13 nl2 hl2 => ?_⟩
    have hbb : (body rs ++ List.replicate (n - need rs) 0).length ≤ 100 := by rw [List.length_append, body_len, List.length_replicate]; omega
    refine ⟨l1, l2, (body rs ++ List.replicate (n - need rs) 0).map some, rfl, by rw [← cells_sight]; exact s13 _ _ hl1, by rw [← cells_sight]; exact hl2, by rw [List.length_map]; exact hbb, _, rfl, iteF ?_⟩
    -- the first one
    have s1113 := s12.trans s13
    have htr13 := s1113 _ _ htr11
    have hls13 := s1113 _ _ hls11
    refine ⟨_, rfl, tr, _, rfl, SqT.of htr13, fun tv htv => ?_⟩
    have s14 : Same H13 (upd H13 tv (.tup (runsV rs).reverse)) := same_upd htv
    have htv' : (upd H13 tv (.tup (runsV rs).reverse)) tv = some (.tup (runsV rs.reverse)) := by
      rw [upd_same]
      unfold runsV
      rw [List.map_reverse]
    generalize upd H13 tv (.tup (runsV rs).reverse) = H14 at s14 htv' ⊢
    refine ⟨_, rfl, tv, rs.reverse, n, rfl, htv', fun k hk => hk1 k (List.mem_reverse.mp hk), by rw [need_rev]; exact hnn, by omega, fun lb H15 s15 nlb hlb => ?_⟩
    have s1115 := s14.trans s15
    have hhead := lay_head n rs hk1 hnn
    have hhead' : (layL rs (blank n))[0]? = some (List.replicate (n - need rs) 0 ++ body rs) := by rw [← hhead, List.head?_eq_getElem?]
    refine ⟨_, rfl, _, rfl, tr, ls, rs, blank n, 0, _, rfl, s1115 _ _ htr13, s1115 _ _ hls13, by omega, by omega, hk5, hhead', fun l3 H16 s16 nl3 hl3 => ?_⟩
    refine ⟨_, rfl, lb, _, rfl, SqL.of (s16 _ _ hlb), fun l4 hl4 => ?_⟩
    have s17 := same_upd (o := HO.lst ((body rs.reverse ++ List.replicate (n - need rs.reverse) 0).map V.int).reverse) hl4
    refine ⟨l3, l4, (List.replicate (n - need rs) 0 ++ body rs).map some, rfl, by rw [← cells_sight]; exact s17 _ _ hl3, ?_, by rw [List.length_map, List.length_append, body_len, List.length_replicate]; omega, k _⟩
    rw [← cells_sight, upd_same, ← List.map_reverse, List.reverse_append, List.reverse_replicate, body_rev, need_rev]
end

theorem all_mk {l : PySem.W.OpenLaw} {w : World} {K : PySem.W.Frag} {h : Heap} {mg : Str → Option Value} {fa : Addr} (X : K.In h) (G : h.Ns mainGlobals mg) (hfa : mg "law" = some (.ref fa))
    {C_Counts : Addr} (aC_Counts : PySem.W.nsIn K mainGlobals "Counts" = some (some (.ref C_Counts)))
    {f_runs_of : Addr} {od_runs_of an_runs_of : Option Addr} {sl_runs_of : Array (Option Value)} {oc_runs_of kV_runs_of dc_runs_of pm_runs_of cd_runs_of ct_runs_of : Value}
    (a_runs_of : PySem.W.nsIn K mainGlobals "runs_of" = some (some (.ref f_runs_of))) (l_runs_of : K.lookup f_runs_of = some ⟨oc_runs_of, od_runs_of, .func (PySem.W.fnOf "runs_of" "runs_of" (defArgs s_runs_of) (defBody s_runs_of) (defScope s_runs_of) .none kV_runs_of dc_runs_of pm_runs_of an_runs_of cd_runs_of ct_runs_of), sl_runs_of⟩) (c_runs_of : PySem.W.codeIn K cd_runs_of "runs_of" = true) (k_runs_of : PySem.W.keepIn K (.ref f_runs_of) = true)
    {f_Counts_total : Addr} {od_Counts_total an_Counts_total : Option Addr} {sl_Counts_total : Array (Option Value)} {oc_Counts_total kV_Counts_total dc_Counts_total pm_Counts_total cd_Counts_total ct_Counts_total : Value}
    (a_Counts_total : PySem.W.findIn K (.ref C_Counts) "total" = some (some (.ref f_Counts_total))) (i_Counts_total : PySem.W.isFn K (.ref f_Counts_total) = true) (l_Counts_total : K.lookup f_Counts_total = some ⟨oc_Counts_total, od_Counts_total, .func (PySem.W.fnOf "total" "Counts.total" (defArgs s_Counts_total) (defBody s_Counts_total) (defScope s_Counts_total) .none kV_Counts_total dc_Counts_total pm_Counts_total an_Counts_total cd_Counts_total ct_Counts_total), sl_Counts_total⟩) (c_Counts_total : PySem.W.codeIn K cd_Counts_total "Counts.total" = true) (k_Counts_total : PySem.W.keepIn K (.ref f_Counts_total) = true)
    {f_Counts_empty_ways : Addr} {od_Counts_empty_ways an_Counts_empty_ways : Option Addr} {sl_Counts_empty_ways : Array (Option Value)} {oc_Counts_empty_ways kV_Counts_empty_ways dc_Counts_empty_ways pm_Counts_empty_ways cd_Counts_empty_ways ct_Counts_empty_ways : Value}
    (a_Counts_empty_ways : PySem.W.findIn K (.ref C_Counts) "empty_ways" = some (some (.ref f_Counts_empty_ways))) (i_Counts_empty_ways : PySem.W.isFn K (.ref f_Counts_empty_ways) = true) (l_Counts_empty_ways : K.lookup f_Counts_empty_ways = some ⟨oc_Counts_empty_ways, od_Counts_empty_ways, .func (PySem.W.fnOf "empty_ways" "Counts.empty_ways" (defArgs s_Counts_empty_ways) (defBody s_Counts_empty_ways) (defScope s_Counts_empty_ways) .none kV_Counts_empty_ways dc_Counts_empty_ways pm_Counts_empty_ways an_Counts_empty_ways cd_Counts_empty_ways ct_Counts_empty_ways), sl_Counts_empty_ways⟩) (c_Counts_empty_ways : PySem.W.codeIn K cd_Counts_empty_ways "Counts.empty_ways" = true) (k_Counts_empty_ways : PySem.W.keepIn K (.ref f_Counts_empty_ways) = true)
    {f_Counts_has_room : Addr} {od_Counts_has_room an_Counts_has_room : Option Addr} {sl_Counts_has_room : Array (Option Value)} {oc_Counts_has_room kV_Counts_has_room dc_Counts_has_room pm_Counts_has_room cd_Counts_has_room ct_Counts_has_room : Value}
    (a_Counts_has_room : PySem.W.findIn K (.ref C_Counts) "has_room" = some (some (.ref f_Counts_has_room))) (i_Counts_has_room : PySem.W.isFn K (.ref f_Counts_has_room) = true) (l_Counts_has_room : K.lookup f_Counts_has_room = some ⟨oc_Counts_has_room, od_Counts_has_room, .func (PySem.W.fnOf "has_room" "Counts.has_room" (defArgs s_Counts_has_room) (defBody s_Counts_has_room) (defScope s_Counts_has_room) .none kV_Counts_has_room dc_Counts_has_room pm_Counts_has_room an_Counts_has_room cd_Counts_has_room ct_Counts_has_room), sl_Counts_has_room⟩) (c_Counts_has_room : PySem.W.codeIn K cd_Counts_has_room "Counts.has_room" = true) (k_Counts_has_room : PySem.W.keepIn K (.ref f_Counts_has_room) = true)
    {f_Counts_place_behind : Addr} {od_Counts_place_behind an_Counts_place_behind : Option Addr} {sl_Counts_place_behind : Array (Option Value)} {oc_Counts_place_behind kV_Counts_place_behind dc_Counts_place_behind pm_Counts_place_behind cd_Counts_place_behind ct_Counts_place_behind : Value}
    (a_Counts_place_behind : PySem.W.findIn K (.ref C_Counts) "place_behind" = some (some (.ref f_Counts_place_behind))) (i_Counts_place_behind : PySem.W.isFn K (.ref f_Counts_place_behind) = true) (l_Counts_place_behind : K.lookup f_Counts_place_behind = some ⟨oc_Counts_place_behind, od_Counts_place_behind, .func (PySem.W.fnOf "place_behind" "Counts.place_behind" (defArgs s_Counts_place_behind) (defBody s_Counts_place_behind) (defScope s_Counts_place_behind) .none kV_Counts_place_behind dc_Counts_place_behind pm_Counts_place_behind an_Counts_place_behind cd_Counts_place_behind ct_Counts_place_behind), sl_Counts_place_behind⟩) (c_Counts_place_behind : PySem.W.codeIn K cd_Counts_place_behind "Counts.place_behind" = true) (k_Counts_place_behind : PySem.W.keepIn K (.ref f_Counts_place_behind) = true)
    {f_Counts_full_ways : Addr} {od_Counts_full_ways an_Counts_full_ways : Option Addr} {sl_Counts_full_ways : Array (Option Value)} {oc_Counts_full_ways kV_Counts_full_ways dc_Counts_full_ways pm_Counts_full_ways cd_Counts_full_ways ct_Counts_full_ways : Value}
    (a_Counts_full_ways : PySem.W.findIn K (.ref C_Counts) "full_ways" = some (some (.ref f_Counts_full_ways))) (i_Counts_full_ways : PySem.W.isFn K (.ref f_Counts_full_ways) = true) (l_Counts_full_ways : K.lookup f_Counts_full_ways = some ⟨oc_Counts_full_ways, od_Counts_full_ways, .func (PySem.W.fnOf "full_ways" "Counts.full_ways" (defArgs s_Counts_full_ways) (defBody s_Counts_full_ways) (defScope s_Counts_full_ways) .none kV_Counts_full_ways dc_Counts_full_ways pm_Counts_full_ways an_Counts_full_ways cd_Counts_full_ways ct_Counts_full_ways), sl_Counts_full_ways⟩) (c_Counts_full_ways : PySem.W.codeIn K cd_Counts_full_ways "Counts.full_ways" = true) (k_Counts_full_ways : PySem.W.keepIn K (.ref f_Counts_full_ways) = true)
    {f_Counts_run_cells : Addr} {od_Counts_run_cells an_Counts_run_cells : Option Addr} {sl_Counts_run_cells : Array (Option Value)} {oc_Counts_run_cells kV_Counts_run_cells dc_Counts_run_cells pm_Counts_run_cells cd_Counts_run_cells ct_Counts_run_cells : Value}
    (a_Counts_run_cells : PySem.W.findIn K (.ref C_Counts) "run_cells" = some (some (.ref f_Counts_run_cells))) (i_Counts_run_cells : PySem.W.isFn K (.ref f_Counts_run_cells) = true) (l_Counts_run_cells : K.lookup f_Counts_run_cells = some ⟨oc_Counts_run_cells, od_Counts_run_cells, .func (PySem.W.fnOf "run_cells" "Counts.run_cells" (defArgs s_Counts_run_cells) (defBody s_Counts_run_cells) (defScope s_Counts_run_cells) .none kV_Counts_run_cells dc_Counts_run_cells pm_Counts_run_cells an_Counts_run_cells cd_Counts_run_cells ct_Counts_run_cells), sl_Counts_run_cells⟩) (c_Counts_run_cells : PySem.W.codeIn K cd_Counts_run_cells "Counts.run_cells" = true) (k_Counts_run_cells : PySem.W.keepIn K (.ref f_Counts_run_cells) = true)
    {f_Counts___init__ : Addr} {od_Counts___init__ an_Counts___init__ : Option Addr} {sl_Counts___init__ : Array (Option Value)} {oc_Counts___init__ kV_Counts___init__ dc_Counts___init__ pm_Counts___init__ cd_Counts___init__ ct_Counts___init__ : Value}
    (a_Counts___init__ : PySem.W.findIn K (.ref C_Counts) "__init__" = some (some (.ref f_Counts___init__))) (i_Counts___init__ : PySem.W.isFn K (.ref f_Counts___init__) = true) (l_Counts___init__ : K.lookup f_Counts___init__ = some ⟨oc_Counts___init__, od_Counts___init__, .func (PySem.W.fnOf "__init__" "Counts.__init__" (defArgs s_Counts___init__) (defBody s_Counts___init__) (defScope s_Counts___init__) .none kV_Counts___init__ dc_Counts___init__ pm_Counts___init__ an_Counts___init__ cd_Counts___init__ ct_Counts___init__), sl_Counts___init__⟩) (c_Counts___init__ : PySem.W.codeIn K cd_Counts___init__ "Counts.__init__" = true) (k_Counts___init__ : PySem.W.keepIn K (.ref f_Counts___init__) = true)
    {f_layings : Addr} {od_layings an_layings : Option Addr} {sl_layings : Array (Option Value)} {oc_layings kV_layings dc_layings pm_layings cd_layings ct_layings : Value}
    (a_layings : PySem.W.nsIn K mainGlobals "layings" = some (some (.ref f_layings))) (l_layings : K.lookup f_layings = some ⟨oc_layings, od_layings, .func (PySem.W.fnOf "layings" "layings" (defArgs s_layings) (defBody s_layings) (defScope s_layings) .none kV_layings dc_layings pm_layings an_layings cd_layings ct_layings), sl_layings⟩) (c_layings : PySem.W.codeIn K cd_layings "layings" = true) (k_layings : PySem.W.keepIn K (.ref f_layings) = true)
    {f_laying : Addr} {od_laying an_laying : Option Addr} {sl_laying : Array (Option Value)} {oc_laying kV_laying dc_laying pm_laying cd_laying ct_laying : Value}
    (a_laying : PySem.W.nsIn K mainGlobals "laying" = some (some (.ref f_laying))) (l_laying : K.lookup f_laying = some ⟨oc_laying, od_laying, .func (PySem.W.fnOf "laying" "laying" (defArgs s_laying) (defBody s_laying) (defScope s_laying) .none kV_laying dc_laying pm_laying an_laying cd_laying ct_laying), sl_laying⟩) (c_laying : PySem.W.codeIn K cd_laying "laying" = true) (k_laying : PySem.W.keepIn K (.ref f_laying) = true)
    {f_is_laying : Addr} {od_is_laying an_is_laying : Option Addr} {sl_is_laying : Array (Option Value)} {oc_is_laying kV_is_laying dc_is_laying pm_is_laying cd_is_laying ct_is_laying : Value}
    (a_is_laying : PySem.W.nsIn K mainGlobals "is_laying" = some (some (.ref f_is_laying))) (l_is_laying : K.lookup f_is_laying = some ⟨oc_is_laying, od_is_laying, .func (PySem.W.fnOf "is_laying" "is_laying" (defArgs s_is_laying) (defBody s_is_laying) (defScope s_is_laying) .none kV_is_laying dc_is_laying pm_is_laying an_is_laying cd_is_laying ct_is_laying), sl_is_laying⟩) (c_is_laying : PySem.W.codeIn K cd_is_laying "is_laying" = true) (k_is_laying : PySem.W.keepIn K (.ref f_is_laying) = true)
    {f_number_of : Addr} {od_number_of an_number_of : Option Addr} {sl_number_of : Array (Option Value)} {oc_number_of kV_number_of dc_number_of pm_number_of cd_number_of ct_number_of : Value}
    (a_number_of : PySem.W.nsIn K mainGlobals "number_of" = some (some (.ref f_number_of))) (l_number_of : K.lookup f_number_of = some ⟨oc_number_of, od_number_of, .func (PySem.W.fnOf "number_of" "number_of" (defArgs s_number_of) (defBody s_number_of) (defScope s_number_of) .none kV_number_of dc_number_of pm_number_of an_number_of cd_number_of ct_number_of), sl_number_of⟩) (c_number_of : PySem.W.codeIn K cd_number_of "number_of" = true) (k_number_of : PySem.W.keepIn K (.ref f_number_of) = true)
    {f__law_cell_at : Addr} {od__law_cell_at an__law_cell_at : Option Addr} {sl__law_cell_at : Array (Option Value)} {oc__law_cell_at kV__law_cell_at dc__law_cell_at pm__law_cell_at cd__law_cell_at ct__law_cell_at : Value}
    (a__law_cell_at : PySem.W.nsIn K mainGlobals "_law_cell_at" = some (some (.ref f__law_cell_at))) (l__law_cell_at : K.lookup f__law_cell_at = some ⟨oc__law_cell_at, od__law_cell_at, .func (PySem.W.fnOf "_law_cell_at" "_law_cell_at" (defArgs s__law_cell_at) (defBody s__law_cell_at) (defScope s__law_cell_at) .none kV__law_cell_at dc__law_cell_at pm__law_cell_at an__law_cell_at cd__law_cell_at ct__law_cell_at), sl__law_cell_at⟩) (c__law_cell_at : PySem.W.codeIn K cd__law_cell_at "_law_cell_at" = true) (k__law_cell_at : PySem.W.keepIn K (.ref f__law_cell_at) = true)
    {f__law_whole : Addr} {od__law_whole an__law_whole : Option Addr} {sl__law_whole : Array (Option Value)} {oc__law_whole kV__law_whole dc__law_whole pm__law_whole cd__law_whole ct__law_whole : Value}
    (a__law_whole : PySem.W.nsIn K mainGlobals "_law_whole" = some (some (.ref f__law_whole))) (l__law_whole : K.lookup f__law_whole = some ⟨oc__law_whole, od__law_whole, .func (PySem.W.fnOf "_law_whole" "_law_whole" (defArgs s__law_whole) (defBody s__law_whole) (defScope s__law_whole) .none kV__law_whole dc__law_whole pm__law_whole an__law_whole cd__law_whole ct__law_whole), sl__law_whole⟩) (c__law_whole : PySem.W.codeIn K cd__law_whole "_law_whole" = true) (k__law_whole : PySem.W.keepIn K (.ref f__law_whole) = true)
    {f__law_mix : Addr} {od__law_mix an__law_mix : Option Addr} {sl__law_mix : Array (Option Value)} {oc__law_mix kV__law_mix dc__law_mix pm__law_mix cd__law_mix ct__law_mix : Value}
    (a__law_mix : PySem.W.nsIn K mainGlobals "_law_mix" = some (some (.ref f__law_mix))) (l__law_mix : K.lookup f__law_mix = some ⟨oc__law_mix, od__law_mix, .func (PySem.W.fnOf "_law_mix" "_law_mix" (defArgs s__law_mix) (defBody s__law_mix) (defScope s__law_mix) .none kV__law_mix dc__law_mix pm__law_mix an__law_mix cd__law_mix ct__law_mix), sl__law_mix⟩) (c__law_mix : PySem.W.codeIn K cd__law_mix "_law_mix" = true) (k__law_mix : PySem.W.keepIn K (.ref f__law_mix) = true)
    {f__law_runs : Addr} {od__law_runs an__law_runs : Option Addr} {sl__law_runs : Array (Option Value)} {oc__law_runs kV__law_runs dc__law_runs pm__law_runs cd__law_runs ct__law_runs : Value}
    (a__law_runs : PySem.W.nsIn K mainGlobals "_law_runs" = some (some (.ref f__law_runs))) (l__law_runs : K.lookup f__law_runs = some ⟨oc__law_runs, od__law_runs, .func (PySem.W.fnOf "_law_runs" "_law_runs" (defArgs s__law_runs) (defBody s__law_runs) (defScope s__law_runs) .none kV__law_runs dc__law_runs pm__law_runs an__law_runs cd__law_runs ct__law_runs), sl__law_runs⟩) (c__law_runs : PySem.W.codeIn K cd__law_runs "_law_runs" = true) (k__law_runs : PySem.W.keepIn K (.ref f__law_runs) = true)
    {f__law_cells : Addr} {od__law_cells an__law_cells : Option Addr} {sl__law_cells : Array (Option Value)} {oc__law_cells kV__law_cells dc__law_cells pm__law_cells cd__law_cells ct__law_cells : Value}
    (a__law_cells : PySem.W.nsIn K mainGlobals "_law_cells" = some (some (.ref f__law_cells))) (l__law_cells : K.lookup f__law_cells = some ⟨oc__law_cells, od__law_cells, .func (PySem.W.fnOf "_law_cells" "_law_cells" (defArgs s__law_cells) (defBody s__law_cells) (defScope s__law_cells) .none kV__law_cells dc__law_cells pm__law_cells an__law_cells cd__law_cells ct__law_cells), sl__law_cells⟩) (c__law_cells : PySem.W.codeIn K cd__law_cells "_law_cells" = true) (k__law_cells : PySem.W.keepIn K (.ref f__law_cells) = true)
    {f__law_ways : Addr} {od__law_ways an__law_ways : Option Addr} {sl__law_ways : Array (Option Value)} {oc__law_ways kV__law_ways dc__law_ways pm__law_ways cd__law_ways ct__law_ways : Value}
    (a__law_ways : PySem.W.nsIn K mainGlobals "_law_ways" = some (some (.ref f__law_ways))) (l__law_ways : K.lookup f__law_ways = some ⟨oc__law_ways, od__law_ways, .func (PySem.W.fnOf "_law_ways" "_law_ways" (defArgs s__law_ways) (defBody s__law_ways) (defScope s__law_ways) .none kV__law_ways dc__law_ways pm__law_ways an__law_ways cd__law_ways ct__law_ways), sl__law_ways⟩) (c__law_ways : PySem.W.codeIn K cd__law_ways "_law_ways" = true) (k__law_ways : PySem.W.keepIn K (.ref f__law_ways) = true)
    {f__law_packed : Addr} {od__law_packed an__law_packed : Option Addr} {sl__law_packed : Array (Option Value)} {oc__law_packed kV__law_packed dc__law_packed pm__law_packed cd__law_packed ct__law_packed : Value}
    (a__law_packed : PySem.W.nsIn K mainGlobals "_law_packed" = some (some (.ref f__law_packed))) (l__law_packed : K.lookup f__law_packed = some ⟨oc__law_packed, od__law_packed, .func (PySem.W.fnOf "_law_packed" "_law_packed" (defArgs s__law_packed) (defBody s__law_packed) (defScope s__law_packed) .none kV__law_packed dc__law_packed pm__law_packed an__law_packed cd__law_packed ct__law_packed), sl__law_packed⟩) (c__law_packed : PySem.W.codeIn K cd__law_packed "_law_packed" = true) (k__law_packed : PySem.W.keepIn K (.ref f__law_packed) = true)
    {f_law : Addr} {od_law an_law : Option Addr} {sl_law : Array (Option Value)} {oc_law kV_law dc_law pm_law cd_law ct_law : Value}
    (a_law : PySem.W.nsIn K mainGlobals "law" = some (some (.ref f_law))) (l_law : K.lookup f_law = some ⟨oc_law, od_law, .func (PySem.W.fnOf "law" "law" (defArgs s_law) (defBody s_law) (defScope s_law) .none kV_law dc_law pm_law an_law cd_law ct_law), sl_law⟩) (c_law : PySem.W.codeIn K cd_law "law" = true) (k_law : PySem.W.keepIn K (.ref f_law) = true)
    (pg_Counts : PySem.W.plainGet K C_Counts Str.empty = true) (hd_Counts : PySem.W.hasDictIn K C_Counts = true) (po_Counts : PySem.W.plainOver K C_Counts = true) (sa_Counts : PySem.W.findIn K (.ref C_Counts) "__setattr__" = some (some (.builtin "object.__setattr__"))) (mk_Counts : PySem.W.makesIn K C_Counts = true) (kc_Counts : PySem.W.keepIn K (.ref C_Counts) = true)
    (n_Counts_runs : PySem.W.findIn K (.ref C_Counts) "runs" = some none)
    (n_Counts_sight : PySem.W.findIn K (.ref C_Counts) "sight" = some none)
    (n_Counts_ways : PySem.W.findIn K (.ref C_Counts) "ways" = some none)
    (z_len : PySem.W.nsIn K mainGlobals "len" = some none)
    (z_range : PySem.W.nsIn K mainGlobals "range" = some none)
    (z_isinstance : PySem.W.nsIn K mainGlobals "isinstance" = some none)
    (z_all : PySem.W.nsIn K mainGlobals "all" = some none)
    (z_any : PySem.W.nsIn K mainGlobals "any" = some none)
    (z_sum : PySem.W.nsIn K mainGlobals "sum" = some none)
    (z_min : PySem.W.nsIn K mainGlobals "min" = some none)
    (z_max : PySem.W.nsIn K mainGlobals "max" = some none)
    (z_int : PySem.W.nsIn K mainGlobals "int" = some none)
    (z_bool : PySem.W.nsIn K mainGlobals "bool" = some none)
    (z_tuple : PySem.W.nsIn K mainGlobals "tuple" = some none)
    (z_list : PySem.W.nsIn K mainGlobals "list" = some none)
    (z_reversed : PySem.W.nsIn K mainGlobals "reversed" = some none)
    (z_zip : PySem.W.nsIn K mainGlobals "zip" = some none)
    (z_enumerate : PySem.W.nsIn K mainGlobals "enumerate" = some none)
    : ∃ fd : FuncData, (∀ (s : Shared) (v : Value), BindsTo s fd ⟨[v], []⟩ [("script", v)]) ∧ ∀ base : Heap, K.In base → base.Ns mainGlobals mg → FnOk l.prog w K mg base CX0 6 fa fd ["script"] (sp_law K) := by
  have e := hfa.symm.trans (PySem.W.mg_of X G a_law)
  cases e
  have B : Bt mg := ⟨PySem.W.mg_none_of X G z_len, PySem.W.mg_none_of X G z_range, PySem.W.mg_none_of X G z_isinstance, PySem.W.mg_none_of X G z_all, PySem.W.mg_none_of X G z_any, PySem.W.mg_none_of X G z_sum, PySem.W.mg_none_of X G z_min, PySem.W.mg_none_of X G z_max, PySem.W.mg_none_of X G z_int, PySem.W.mg_none_of X G z_bool, PySem.W.mg_none_of X G z_tuple, PySem.W.mg_none_of X G z_list, PySem.W.mg_none_of X G z_reversed⟩
  have Z : Bz mg := ⟨PySem.W.mg_none_of X G z_zip, PySem.W.mg_none_of X G z_enumerate⟩
  have F_runs_of := fun_mk (st := s_runs_of) l_runs_of c_runs_of k_runs_of
  have b_runs_of := F_runs_of.binds (ps := ["cells"]) fun _ _ _ _ _ _ us hl => match us, hl with | [_], _ => rfl
  have F_Counts_total := fun_mk (st := s_Counts_total) l_Counts_total c_Counts_total k_Counts_total
  have b_Counts_total := F_Counts_total.binds (ps := ["self"]) fun _ _ _ _ _ _ us hl => match us, hl with | [_], _ => rfl
  have F_Counts_empty_ways := fun_mk (st := s_Counts_empty_ways) l_Counts_empty_ways c_Counts_empty_ways k_Counts_empty_ways
  have b_Counts_empty_ways := F_Counts_empty_ways.binds (ps := ["self", "place", "done"]) fun _ _ _ _ _ _ us hl => match us, hl with | [_, _, _], _ => rfl
  have F_Counts_has_room := fun_mk (st := s_Counts_has_room) l_Counts_has_room c_Counts_has_room k_Counts_has_room
  have b_Counts_has_room := F_Counts_has_room.binds (ps := ["self", "place", "length"]) fun _ _ _ _ _ _ us hl => match us, hl with | [_, _, _], _ => rfl
  have F_Counts_place_behind := fun_mk (st := s_Counts_place_behind) l_Counts_place_behind c_Counts_place_behind k_Counts_place_behind
  have b_Counts_place_behind := F_Counts_place_behind.binds (ps := ["self", "place", "done"]) fun _ _ _ _ _ _ us hl => match us, hl with | [_, _, _], _ => rfl
  have F_Counts_full_ways := fun_mk (st := s_Counts_full_ways) l_Counts_full_ways c_Counts_full_ways k_Counts_full_ways
  have b_Counts_full_ways := F_Counts_full_ways.binds (ps := ["self", "place", "done"]) fun _ _ _ _ _ _ us hl => match us, hl with | [_, _, _], _ => rfl
  have F_Counts_run_cells := fun_mk (st := s_Counts_run_cells) l_Counts_run_cells c_Counts_run_cells k_Counts_run_cells
  have b_Counts_run_cells := F_Counts_run_cells.binds (ps := ["self", "place", "done"]) fun _ _ _ _ _ _ us hl => match us, hl with | [_, _, _], _ => rfl
  have F_Counts___init__ := fun_mk (st := s_Counts___init__) l_Counts___init__ c_Counts___init__ k_Counts___init__
  have b_Counts___init__ := F_Counts___init__.binds (ps := ["self", "runs", "sight"]) fun _ _ _ _ _ _ us hl => match us, hl with | [_, _, _], _ => rfl
  have F_layings := fun_mk (st := s_layings) l_layings c_layings k_layings
  have b_layings := F_layings.binds (ps := ["runs", "sight"]) fun _ _ _ _ _ _ us hl => match us, hl with | [_, _], _ => rfl
  have F_laying := fun_mk (st := s_laying) l_laying c_laying k_laying
  have b_laying := F_laying.binds (ps := ["runs", "sight", "number"]) fun _ _ _ _ _ _ us hl => match us, hl with | [_, _, _], _ => rfl
  have F_is_laying := fun_mk (st := s_is_laying) l_is_laying c_is_laying k_is_laying
  have b_is_laying := F_is_laying.binds (ps := ["runs", "sight", "cells"]) fun _ _ _ _ _ _ us hl => match us, hl with | [_, _, _], _ => rfl
  have F_number_of := fun_mk (st := s_number_of) l_number_of c_number_of k_number_of
  have b_number_of := F_number_of.binds (ps := ["runs", "sight", "cells"]) fun _ _ _ _ _ _ us hl => match us, hl with | [_, _, _], _ => rfl
  have F__law_cell_at := fun_mk (st := s__law_cell_at) l__law_cell_at c__law_cell_at k__law_cell_at
  have b__law_cell_at := F__law_cell_at.binds (ps := ["script", "k"]) fun _ _ _ _ _ _ us hl => match us, hl with | [_, _], _ => rfl
  have F__law_whole := fun_mk (st := s__law_whole) l__law_whole c__law_whole k__law_whole
  have b__law_whole := F__law_whole.binds (ps := ["x"]) fun _ _ _ _ _ _ us hl => match us, hl with | [_], _ => rfl
  have F__law_mix := fun_mk (st := s__law_mix) l__law_mix c__law_mix k__law_mix
  have b__law_mix := F__law_mix.binds (ps := ["cell", "k"]) fun _ _ _ _ _ _ us hl => match us, hl with | [_, _], _ => rfl
  have F__law_runs := fun_mk (st := s__law_runs) l__law_runs c__law_runs k__law_runs
  have b__law_runs := F__law_runs.binds (ps := ["cells"]) fun _ _ _ _ _ _ us hl => match us, hl with | [_], _ => rfl
  have F__law_cells := fun_mk (st := s__law_cells) l__law_cells c__law_cells k__law_cells
  have b__law_cells := F__law_cells.binds (ps := ["found", "due"]) fun _ _ _ _ _ _ us hl => match us, hl with | [_, _], _ => rfl
  have F__law_ways := fun_mk (st := s__law_ways) l__law_ways c__law_ways k__law_ways
  have b__law_ways := F__law_ways.binds (ps := ["things", "places"]) fun _ _ _ _ _ _ us hl => match us, hl with | [_, _], _ => rfl
  have F__law_packed := fun_mk (st := s__law_packed) l__law_packed c__law_packed k__law_packed
  have b__law_packed := F__law_packed.binds (ps := ["runs", "size"]) fun _ _ _ _ _ _ us hl => match us, hl with | [_, _], _ => rfl
  have F_law := fun_mk (st := s_law) l_law c_law k_law
  have T_Counts : CT K C_Counts := ⟨⟨pg_Counts, hd_Counts, po_Counts, sa_Counts⟩, n_Counts_runs, n_Counts_sight, n_Counts_ways⟩
  refine ⟨PySem.W.fnOf "law" "law" (defArgs s_law) (defBody s_law) (defScope s_law) .none kV_law dc_law pm_law an_law cd_law ct_law, fun s v => .of_eq rfl, fun base _ _ => ?_⟩
  have c_runs_of : Callee l.prog w K mg base CX0 "runs_of" 1 ["cells"] (sp_runs_of K) := ⟨⟨f_runs_of, _, PySem.W.mg_of X G a_runs_of, k_runs_of, b_runs_of, ok_runs_of F_runs_of B⟩⟩
  have G_Counts_total : FnOk l.prog w K mg base CX0 1 f_Counts_total _ ["self"] (sp_total C_Counts) := ok_Counts_total F_Counts_total T_Counts
  have m_total : Method l.prog w K mg base CX0 C_Counts "total" 1 ["self"] (sp_total C_Counts) := ⟨T_Counts.cl, f_Counts_total, _, ⟨a_Counts_total, i_Counts_total, k_Counts_total⟩, b_Counts_total, G_Counts_total⟩
  have G_Counts_empty_ways : FnOk l.prog w K mg base CX0 1 f_Counts_empty_ways _ ["self", "place", "done"] (sp_empty C_Counts) := ok_Counts_empty_ways F_Counts_empty_ways T_Counts
  have m_empty_ways : Method l.prog w K mg base CX0 C_Counts "empty_ways" 1 ["self", "place", "done"] (sp_empty C_Counts) := ⟨T_Counts.cl, f_Counts_empty_ways, _, ⟨a_Counts_empty_ways, i_Counts_empty_ways, k_Counts_empty_ways⟩, b_Counts_empty_ways, G_Counts_empty_ways⟩
  have G_Counts_has_room : FnOk l.prog w K mg base CX0 1 f_Counts_has_room _ ["self", "place", "length"] (sp_room C_Counts) := ok_Counts_has_room F_Counts_has_room B T_Counts
  have m_has_room : Method l.prog w K mg base CX0 C_Counts "has_room" 1 ["self", "place", "length"] (sp_room C_Counts) := ⟨T_Counts.cl, f_Counts_has_room, _, ⟨a_Counts_has_room, i_Counts_has_room, k_Counts_has_room⟩, b_Counts_has_room, G_Counts_has_room⟩
  have G_Counts_place_behind : FnOk l.prog w K mg base CX0 1 f_Counts_place_behind _ ["self", "place", "done"] (sp_behind C_Counts) := ok_Counts_place_behind F_Counts_place_behind B T_Counts
  have m_place_behind : Method l.prog w K mg base CX0 C_Counts "place_behind" 1 ["self", "place", "done"] (sp_behind C_Counts) := ⟨T_Counts.cl, f_Counts_place_behind, _, ⟨a_Counts_place_behind, i_Counts_place_behind, k_Counts_place_behind⟩, b_Counts_place_behind, G_Counts_place_behind⟩
  have G_Counts_full_ways : FnOk l.prog w K mg base CX0 2 f_Counts_full_ways _ ["self", "place", "done"] (sp_full C_Counts) := ok_Counts_full_ways F_Counts_full_ways B T_Counts m_has_room m_place_behind
  have m_full_ways : Method l.prog w K mg base CX0 C_Counts "full_ways" 2 ["self", "place", "done"] (sp_full C_Counts) := ⟨T_Counts.cl, f_Counts_full_ways, _, ⟨a_Counts_full_ways, i_Counts_full_ways, k_Counts_full_ways⟩, b_Counts_full_ways, G_Counts_full_ways⟩
  have G_Counts_run_cells : FnOk l.prog w K mg base CX0 1 f_Counts_run_cells _ ["self", "place", "done"] (sp_run_cells C_Counts) := ok_Counts_run_cells F_Counts_run_cells B T_Counts
  have m_run_cells : Method l.prog w K mg base CX0 C_Counts "run_cells" 1 ["self", "place", "done"] (sp_run_cells C_Counts) := ⟨T_Counts.cl, f_Counts_run_cells, _, ⟨a_Counts_run_cells, i_Counts_run_cells, k_Counts_run_cells⟩, b_Counts_run_cells, G_Counts_run_cells⟩
  have G_Counts___init__ : FnOk l.prog w K mg base CX0 3 f_Counts___init__ _ ["self", "runs", "sight"] (sp_init C_Counts) := ok_Counts___init__ F_Counts___init__ B T_Counts m_empty_ways m_full_ways
  have mk_Counts : Maker l.prog w K mg base CX0 "Counts" C_Counts 3 ["self", "runs", "sight"] (sp_init C_Counts) := ⟨f_Counts___init__, _, PySem.W.mg_of X G aC_Counts, ⟨mk_Counts, a_Counts___init__, i_Counts___init__, kc_Counts⟩, b_Counts___init__, G_Counts___init__⟩
  have c_layings : Callee l.prog w K mg base CX0 "layings" 5 ["runs", "sight"] sp_layings := ⟨⟨f_layings, _, PySem.W.mg_of X G a_layings, k_layings, b_layings, ok_layings F_layings mk_Counts m_total⟩⟩
  have c_laying : Callee l.prog w K mg base CX0 "laying" 5 ["runs", "sight", "number"] sp_laying := ⟨⟨f_laying, _, PySem.W.mg_of X G a_laying, k_laying, b_laying, ok_laying F_laying B mk_Counts m_total m_empty_ways m_run_cells⟩⟩
  have c_is_laying : Callee l.prog w K mg base CX0 "is_laying" 2 ["runs", "sight", "cells"] sp_is_laying := ⟨⟨f_is_laying, _, PySem.W.mg_of X G a_is_laying, k_is_laying, b_is_laying, ok_is_laying F_is_laying B Z c_runs_of⟩⟩
  have c_number_of : Callee l.prog w K mg base CX0 "number_of" 5 ["runs", "sight", "cells"] sp_number_of := ⟨⟨f_number_of, _, PySem.W.mg_of X G a_number_of, k_number_of, b_number_of, ok_number_of F_number_of B c_is_laying mk_Counts m_empty_ways m_place_behind⟩⟩
  have c__law_cell_at : Callee l.prog w K mg base CX0 "_law_cell_at" 1 ["script", "k"] (sp__law_cell_at K) := ⟨⟨f__law_cell_at, _, PySem.W.mg_of X G a__law_cell_at, k__law_cell_at, b__law_cell_at, ok__law_cell_at F__law_cell_at B⟩⟩
  have c__law_whole : Callee l.prog w K mg base CX0 "_law_whole" 1 ["x"] sp__law_whole := ⟨⟨f__law_whole, _, PySem.W.mg_of X G a__law_whole, k__law_whole, b__law_whole, ok__law_whole F__law_whole B⟩⟩
  have c__law_mix : Callee l.prog w K mg base CX0 "_law_mix" 1 ["cell", "k"] sp__law_mix := ⟨⟨f__law_mix, _, PySem.W.mg_of X G a__law_mix, k__law_mix, b__law_mix, ok__law_mix F__law_mix⟩⟩
  have c__law_runs : Callee l.prog w K mg base CX0 "_law_runs" 1 ["cells"] sp__law_runs := ⟨⟨f__law_runs, _, PySem.W.mg_of X G a__law_runs, k__law_runs, b__law_runs, ok__law_runs F__law_runs B⟩⟩
  have c__law_cells : Callee l.prog w K mg base CX0 "_law_cells" 2 ["found", "due"] sp__law_cells := ⟨⟨f__law_cells, _, PySem.W.mg_of X G a__law_cells, k__law_cells, b__law_cells, ok__law_cells F__law_cells B c__law_whole⟩⟩
  have c__law_ways : Callee l.prog w K mg base CX0 "_law_ways" 1 ["things", "places"] sp__law_ways := ⟨⟨f__law_ways, _, PySem.W.mg_of X G a__law_ways, k__law_ways, b__law_ways, ok__law_ways F__law_ways B⟩⟩
  have c__law_packed : Callee l.prog w K mg base CX0 "_law_packed" 1 ["runs", "size"] sp__law_packed := ⟨⟨f__law_packed, _, PySem.W.mg_of X G a__law_packed, k__law_packed, b__law_packed, ok__law_packed F__law_packed B⟩⟩
  exact ok_law F_law B c__law_cell_at c__law_whole c__law_mix c__law_runs c__law_cells c__law_ways c__law_packed c_layings c_laying c_number_of
theorem walk {l : PySem.W.OpenLaw} {q : Program} {loose : List Str} {XP : (Str → Option Value) → Heap → Prop} {YP : World → Heap → Prop} {d : DefRec} {K : Params → PySem.W.Frag} (hn : l.most = some 63) (hdf : d.params.defaults = [])
    (hY : ∀ (w : World) (h : Heap), YP w h → (K w.params).In h)
    (F : ∀ (w : World) (mg : Str → Option Value) (fa : Addr) (h : Heap), (K w.params).In h → h.Ns mainGlobals mg → mg d.name = some (.ref fa) →
      ∃ fd : FuncData, (∀ (s : Shared) (u : Value), BindsTo s fd ⟨[u], []⟩ [("script", u)]) ∧ ∀ base : Heap, (K w.params).In base → base.Ns mainGlobals mg → FnOk l.prog w (K w.params) mg base CX0 6 fa fd ["script"] (sp_law (K w.params))) :
    PySem.W.WalkO q loose XP YP l.row.toRowW d [] (fun f vs => PySem.call f vs) :=
  L2.walk_of (n := 63) (k := 6) (x := "script") (CX := fun _ => CX0) (sp := fun w => sp_law (K w.params)) hn (by decide) hdf ⟨rfl, by decide, by decide⟩ hY F (fun _ _ a ns hl _ hS => ⟨a, ns, rfl, hS, hl, fun _ => rfl⟩) fun _ _ _ _ _ z => z
end K03
open PySem PySem.W PyProof.Rows
set_option maxRecDepth 100000 in
set_option maxHeartbeats 0 in
theorem PySem.Challenge.cw_runpaint_k03_whole_long_lines_holds : PySem.Challenge.rw_runpaint_k03_whole_long_lines.Holds := by
  w_on; o_law; k_head; (case hw => w_witness2)
  k_fill
  refine K03.walk (l := PySem.Challenge.rw_runpaint_k03_whole_long_lines) rfl rfl (fun w h Y => PySem.W.kIn_of Y) ?F
  case F =>
    intro w mg fa h KX G hmg
    refine' K03.all_mk KX G hmg ?aC_Counts ?a_runs_of ?l_runs_of ?c_runs_of ?k_runs_of ?a_Counts_total ?i_Counts_total ?l_Counts_total ?c_Counts_total ?k_Counts_total ?a_Counts_empty_ways ?i_Counts_empty_ways ?l_Counts_empty_ways ?c_Counts_empty_ways ?k_Counts_empty_ways ?a_Counts_has_room ?i_Counts_has_room ?l_Counts_has_room ?c_Counts_has_room ?k_Counts_has_room ?a_Counts_place_behind ?i_Counts_place_behind ?l_Counts_place_behind ?c_Counts_place_behind ?k_Counts_place_behind ?a_Counts_full_ways ?i_Counts_full_ways ?l_Counts_full_ways ?c_Counts_full_ways ?k_Counts_full_ways ?a_Counts_run_cells ?i_Counts_run_cells ?l_Counts_run_cells ?c_Counts_run_cells ?k_Counts_run_cells ?a_Counts___init__ ?i_Counts___init__ ?l_Counts___init__ ?c_Counts___init__ ?k_Counts___init__ ?a_layings ?l_layings ?c_layings ?k_layings ?a_laying ?l_laying ?c_laying ?k_laying ?a_is_laying ?l_is_laying ?c_is_laying ?k_is_laying ?a_number_of ?l_number_of ?c_number_of ?k_number_of ?a__law_cell_at ?l__law_cell_at ?c__law_cell_at ?k__law_cell_at ?a__law_whole ?l__law_whole ?c__law_whole ?k__law_whole ?a__law_mix ?l__law_mix ?c__law_mix ?k__law_mix ?a__law_runs ?l__law_runs ?c__law_runs ?k__law_runs ?a__law_cells ?l__law_cells ?c__law_cells ?k__law_cells ?a__law_ways ?l__law_ways ?c__law_ways ?k__law_ways ?a__law_packed ?l__law_packed ?c__law_packed ?k__law_packed ?a_law ?l_law ?c_law ?k_law ?pg_Counts ?hd_Counts ?po_Counts ?sa_Counts ?mk_Counts ?kc_Counts ?n_Counts_runs ?n_Counts_sight ?n_Counts_ways ?z_len ?z_range ?z_isinstance ?z_all ?z_any ?z_sum ?z_min ?z_max ?z_int ?z_bool ?z_tuple ?z_list ?z_reversed ?z_zip ?z_enumerate
    (case aC_Counts => k_is)
    (case a_runs_of => k_is)
    (case l_runs_of => k_is)
    (case c_runs_of => k_is)
    (case k_runs_of => k_is)
    (case a_Counts_total => k_is)
    (case i_Counts_total => k_is)
    (case l_Counts_total => k_is)
    (case c_Counts_total => k_is)
    (case k_Counts_total => k_is)
    (case a_Counts_empty_ways => k_is)
    (case i_Counts_empty_ways => k_is)
    (case l_Counts_empty_ways => k_is)
    (case c_Counts_empty_ways => k_is)
    (case k_Counts_empty_ways => k_is)
    (case a_Counts_has_room => k_is)
    (case i_Counts_has_room => k_is)
    (case l_Counts_has_room => k_is)
    (case c_Counts_has_room => k_is)
    (case k_Counts_has_room => k_is)
    (case a_Counts_place_behind => k_is)
    (case i_Counts_place_behind => k_is)
    (case l_Counts_place_behind => k_is)
    (case c_Counts_place_behind => k_is)
    (case k_Counts_place_behind => k_is)
    (case a_Counts_full_ways => k_is)
    (case i_Counts_full_ways => k_is)
    (case l_Counts_full_ways => k_is)
    (case c_Counts_full_ways => k_is)
    (case k_Counts_full_ways => k_is)
    (case a_Counts_run_cells => k_is)
    (case i_Counts_run_cells => k_is)
    (case l_Counts_run_cells => k_is)
    (case c_Counts_run_cells => k_is)
    (case k_Counts_run_cells => k_is)
    (case a_Counts___init__ => k_is)
    (case i_Counts___init__ => k_is)
    (case l_Counts___init__ => k_is)
    (case c_Counts___init__ => k_is)
    (case k_Counts___init__ => k_is)
    (case a_layings => k_is)
    (case l_layings => k_is)
    (case c_layings => k_is)
    (case k_layings => k_is)
    (case a_laying => k_is)
    (case l_laying => k_is)
    (case c_laying => k_is)
    (case k_laying => k_is)
    (case a_is_laying => k_is)
    (case l_is_laying => k_is)
    (case c_is_laying => k_is)
    (case k_is_laying => k_is)
    (case a_number_of => k_is)
    (case l_number_of => k_is)
    (case c_number_of => k_is)
    (case k_number_of => k_is)
    (case a__law_cell_at => k_is)
    (case l__law_cell_at => k_is)
    (case c__law_cell_at => k_is)
    (case k__law_cell_at => k_is)
    (case a__law_whole => k_is)
    (case l__law_whole => k_is)
    (case c__law_whole => k_is)
    (case k__law_whole => k_is)
    (case a__law_mix => k_is)
    (case l__law_mix => k_is)
    (case c__law_mix => k_is)
    (case k__law_mix => k_is)
    (case a__law_runs => k_is)
    (case l__law_runs => k_is)
    (case c__law_runs => k_is)
    (case k__law_runs => k_is)
    (case a__law_cells => k_is)
    (case l__law_cells => k_is)
    (case c__law_cells => k_is)
    (case k__law_cells => k_is)
    (case a__law_ways => k_is)
    (case l__law_ways => k_is)
    (case c__law_ways => k_is)
    (case k__law_ways => k_is)
    (case a__law_packed => k_is)
    (case l__law_packed => k_is)
    (case c__law_packed => k_is)
    (case k__law_packed => k_is)
    (case a_law => k_is)
    (case l_law => k_is)
    (case c_law => k_is)
    (case k_law => k_is)
    (case pg_Counts => k_is)
    (case hd_Counts => k_is)
    (case po_Counts => k_is)
    (case sa_Counts => k_is)
    (case mk_Counts => k_is)
    (case kc_Counts => k_is)
    (case n_Counts_runs => k_is)
    (case n_Counts_sight => k_is)
    (case n_Counts_ways => k_is)
    (case z_len => k_is)
    (case z_range => k_is)
    (case z_isinstance => k_is)
    (case z_all => k_is)
    (case z_any => k_is)
    (case z_sum => k_is)
    (case z_min => k_is)
    (case z_max => k_is)
    (case z_int => k_is)
    (case z_bool => k_is)
    (case z_tuple => k_is)
    (case z_list => k_is)
    (case z_reversed => k_is)
    (case z_zip => k_is)
    (case z_enumerate => k_is)
#print axioms PySem.Challenge.cw_runpaint_k03_whole_long_lines_holds
