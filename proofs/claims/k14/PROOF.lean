import PyProof.Rows.All
import Wide.All
import OpenK.AllK
import Wide.FinOn
import Lean
import PyProof.EqAt
import PyProof.EqKinds
import PyProof.TupleCall
import PySem.Challenge.RW_runpaint_k14_read
set_option Elab.async false
set_option linter.all false
set_option maxRecDepth 100000
set_option maxHeartbeats 4000000
namespace L2
open PySem PySem.Spec PyProof.Rows

abbrev Key := Sum Int Str
def keyIs : Key → Value → Bool
  | .inl k, v => Value.isInt k v
  | .inr x, v => Value.isStrOf x v
def keyH (w : World) : Key → Int
  | .inl k => hashInt k
  | .inr x => hashStr w x
theorem keyIs_shape : ∀ {k : Key} {v : Value}, keyIs k v = true → (∃ i t, k = Sum.inl i ∧ v = Value.int i t) ∨ (∃ x t, k = Sum.inr x ∧ v = Value.str x t)
  | .inl i, v, h => by
    obtain ⟨t, e⟩ := Value.isInt_shape (k := i) (v := v) h
    exact .inl ⟨i, t, rfl, e⟩
  | .inr x, v, h => by
    obtain ⟨t, e⟩ := Value.isStrOf_shape (x := x) (v := v) h
    exact .inr ⟨x, t, rfl, e⟩
theorem key_ll (a b : Int) : decide ((Sum.inl a : Key) = Sum.inl b) = (a == b) := by
  by_cases e : a = b
  · subst e; simp
  · have h : ¬ (Sum.inl a : Key) = Sum.inl b := fun q => e (Sum.inl.inj q)
    rw [decide_eq_false h]
    exact (beq_eq_false_iff_ne.mpr e).symm
theorem key_rr (a b : Str) : decide ((Sum.inr a : Key) = Sum.inr b) = decide (a = b) := by
  by_cases e : a = b
  · subst e; simp
  · have h : ¬ (Sum.inr a : Key) = Sum.inr b := fun q => e (Sum.inr.inj q)
    rw [decide_eq_false h, decide_eq_false e]
theorem key_lr (a : Int) (b : Str) : decide ((Sum.inl a : Key) = Sum.inr b) = false := decide_eq_false (fun q => nomatch q)
theorem key_rl (a : Str) (b : Int) : decide ((Sum.inr a : Key) = Sum.inl b) = false := decide_eq_false (fun q => nomatch q)

def mixKind (prog : Program) (w : World) : PySem.KeyKind prog w Key where
  is := keyIs
  hash := keyH w
  inj := fun v a b ha hb => by
    rcases keyIs_shape ha with ⟨i, t, rfl, rfl⟩ | ⟨x, t, rfl, rfl⟩
    · rcases keyIs_shape hb with ⟨j, u, rfl, e⟩ | ⟨y, u, rfl, e⟩
      · injection e with e1 _; rw [e1]
      · exact nomatch e
    · rcases keyIs_shape hb with ⟨j, u, rfl, e⟩ | ⟨y, u, rfl, e⟩
      · exact nomatch e
      · injection e with e1 _; rw [e1]
  byValue := fun k v h => by
    rcases keyIs_shape h with ⟨i, t, rfl, rfl⟩ | ⟨x, t, rfl, rfl⟩ <;> rfl
  pyHash := fun hv h => by
    rcases keyIs_shape hv with ⟨i, t, rfl, rfl⟩ | ⟨x, t, rfl, rfl⟩
    · exact wpAny_pyHash_int h
    · exact wpAny_pyHash_str h
  eqBool := fun hu hv h => by
    rcases keyIs_shape hu with ⟨i, t, rfl, rfl⟩ | ⟨x, t, rfl, rfl⟩
    · rcases keyIs_shape hv with ⟨j, u, rfl, rfl⟩ | ⟨y, u, rfl, rfl⟩
      · rw [key_ll] at h; exact wpAny_eqBool_int h
      · rw [key_lr] at h; exact SeqAt.EqAt.int_str i t y u _ _ _ _ h
    · rcases keyIs_shape hv with ⟨j, u, rfl, rfl⟩ | ⟨y, u, rfl, rfl⟩
      · rw [key_rl] at h; exact SeqAt.EqAt.str_int x t j u _ _ _ _ h
      · rw [key_rr] at h; exact wpAny_eqBool_str h
  «strs» := fun k x t v h => by
    rcases keyIs_shape h with ⟨i, u, rfl, e⟩ | ⟨y, u, rfl, e⟩
    · exact nomatch e
    · injection e with e1 _
      subst e1
      cases v <;> rfl

end L2

namespace L2
open PySem PySem.Spec PyProof.Rows

inductive V where
  | non | bl (b : Bool) | int (i : Int) | str (x : Str) | byt (b : Array UInt8) | flt (b : UInt64) | ref (a : Addr) | ty (n : String)
  deriving DecidableEq

def RelV : V → Value → Prop
  | .non, u => u = Value.none
  | .bl b, u => u = Value.bool b
  | .int i, u => ∃ t, u = Value.int i t
  | .str x, u => ∃ t, u = Value.str x t
  | .byt b, u => ∃ t, u = Value.bytes b t
  | .flt b, u => ∃ t, u = Value.float b t
  | .ref a, u => u = Value.ref a
  | .ty n, u => u = Value.type n

abbrev Vals : List V → List Value → Prop := Paired RelV
theorem Vals.length {xs : List V} {us : List Value} (r : Vals xs us) : xs.length = us.length := Paired.length r
theorem Vals.get : ∀ {xs : List V} {us : List Value} {i : Nat} {x : V}, Vals xs us → xs[i]? = some x → ∃ u, us[i]? = some u ∧ RelV x u
  | _, _, _, _, .nil, e => by simp at e
  | _, _, 0, _, .cons r _, e => by simp at e; subst e; exact ⟨_, rfl, r⟩
  | _, _, i + 1, x, .cons _ t, e => by
    obtain ⟨u, h1, h2⟩ := Vals.get (i := i) (x := x) t (by simpa using e)
    exact ⟨u, by simpa using h1, h2⟩
theorem Vals.set {x : V} {u : Value} (r : RelV x u) : ∀ {xs : List V} {us : List Value} (i : Nat), Vals xs us → Vals (xs.set i x) (us.set i u)
  | _, _, _, .nil => .nil
  | _, _, 0, .cons _ t => .cons r t
  | _, _, i + 1, .cons q t => .cons q (Vals.set r i t)
theorem Vals.append : ∀ {xs ys : List V} {us ws : List Value}, Vals xs us → Vals ys ws → Vals (xs ++ ys) (us ++ ws)
  | _, _, _, _, .nil, s => s
  | _, _, _, _, .cons r t, s => .cons r (Vals.append t s)
theorem Vals.take : ∀ {xs : List V} {us : List Value} (n : Nat), Vals xs us → Vals (xs.take n) (us.take n)
  | _, _, 0, _ => .nil
  | _, _, _ + 1, .nil => .nil
  | _, _, n + 1, .cons r t => .cons r (Vals.take n t)
theorem Vals.drop : ∀ {xs : List V} {us : List Value} (n : Nat), Vals xs us → Vals (xs.drop n) (us.drop n)
  | _, _, 0, r => r
  | _, _, _ + 1, .nil => .nil
  | _, _, n + 1, .cons _ t => Vals.drop n t
def RelO : Option V → Option Value → Prop
  | some v, some u => RelV v u
  | none, none => True
  | _, _ => False
def KV {κ : Type} : List (κ × V) → List (κ × Value) → Prop := Paired fun (p : κ × V) (q : κ × Value) => p.1 = q.1 ∧ RelV p.2 q.2

def kV : Key → V
  | .inl i => .int i
  | .inr x => .str x

inductive HO where
  /-- a list -/
  | lst (xs : List V)
  /-- a tuple (never changes) -/
  | tup (xs : List V)
  /-- a dict whose keys are ints and texts; one whose keys are tuples of ints and texts (the empty one is both) -/
  | dK (kvs : List (Key × V)) | dT (kvs : List (List Key × V))
  /-- a set of ints: its members, its size -/
  | set (S : Int → Bool) (n : Nat)
  /-- an instance of the class at C, its dict at dx, its attributes -/
  | ins (C dx : Addr) (fs : List (Str × V))
  /-- the dict of the instance at x -/
  | own (x : Addr)
  /-- the dict of an exception -/
  | xd (fs : List (Str × V))
  /-- a bound method, f of x -/
  | met (f x : Addr)
  /-- a range object lo, lo + 1, .. below hi -/
  | rng (lo hi : Int)
  /-- a thing that is known to the object (the script; a dict while a loop walks it): read, never written while it is so -/
  | frz (o : Obj) (u : HO)
  /-- a code object's table -/
  | tbl (ps : Array Value)
  /-- any other thing, by what is true of its one object (a def of one's own: SetO a S n := HO.ext fun h => ..) -/
  | ext (φ : Heap → Prop)

abbrev Hp := Addr → Option HO
def upd (H : Hp) (a : Addr) (o : HO) : Hp := fun b => if b = a then some o else H b
theorem upd_same {H : Hp} {a : Addr} {o : HO} : upd H a o a = some o := by unfold upd; rw [if_pos rfl]
theorem upd_ne {H : Hp} {a b : Addr} {o : HO} (h : b ≠ a) : upd H a o b = H b := by unfold upd; rw [if_neg h]
theorem upd_upd {H : Hp} {a : Addr} {o u : HO} : upd (upd H a o) a u = upd H a u := by
  funext b; unfold upd; split <;> rfl
theorem ne_of_none {H : Hp} {a b : Addr} {o : HO} (h : H a = some o) (h' : H b = none) : a ≠ b := by
  intro e; subst e; rw [h] at h'; cases h'

section
variable (P : Program) (w : World)
def ObjOk (H : Hp) (h : Heap) (a : Addr) : HO → Prop
  | .lst xs => xs.length ≤ sizeLine ∧ ∃ (its : List Value) (n : Nat), Vals xs its ∧ h.get? a = some { cls := .type "list", data := .seq its.toArray n }
  | .tup xs => xs.length ≤ sizeLine ∧ ∃ its : List Value, Vals xs its ∧ IsTup h a its.toArray
  | .dK kvs => kvs.length ≤ sizeLine ∧ (a == sysModules) = false ∧ ∃ vs, KV kvs vs ∧ h.DictOf (mixKind P w) a vs
  | .dT kvs => kvs.length ≤ sizeLine ∧ (a == sysModules) = false ∧ ∃ xs : List (List Key × Addr × Value),
      Paired (fun (p : List Key × V) (q : List Key × Addr × Value) => p.1 = q.1 ∧ H q.2.1 = some (.tup (p.1.map kV)) ∧ RelV p.2 q.2.2) kvs xs ∧
      ∃ o es ep, h.get? a = some o ∧ o.ExactDict ∧ o.data = .dict es ep ∧ es.toList = xs.map (entryOfKey (tupleKind (mixKind P w))) ∧ (xs.map (·.1)).Nodup
  | .set S n => h.SetOf (intKind P w) a S n
  | .ins C dx fs => H dx = some (.own a) ∧ fs.length ≤ 1000 ∧ dx ≠ a ∧ h.get? a = some (PySem.W.instObj C dx) ∧
      ∃ mA, h.Ns1 dx mA ∧ (∀ f, RelO (fs.lookup f) (mA f)) ∧ PySem.Within mA (fs.map (·.1))
  | .own _ => ∃ o, h.get? a = some o
  | .xd fs => ∃ mA, h.Ns1 a mA ∧ ∀ f, RelO (fs.lookup f) (mA f)
  | .rng lo hi => ∃ t u v, h.get? a = some { cls := .type "range", data := .fields #[.int lo t, .int hi u, .int 1 v] }
  | .frz o u => h.get? a = some o ∧ ObjOk H h a u
  | .tbl ps => h.get? a = some { cls := .none, data := .fields ps }
  | .met f x => h.get? a = some (PySem.W.methodObj (.ref f) (.ref x))
  | .ext φ => φ h ∧ (∃ o, h.get? a = some o) ∧ ∀ h1 h2 : Heap, φ h1 → (∀ o, h1.get? a = some o → h2.get? a = some o) → φ h2
def HOk (H : Hp) (h : Heap) : Prop := ∀ a o, H a = some o → ObjOk P w H h a o
end

section
variable {P : Program} {w : World} {H H' : Hp} {h h' : Heap} {a : Addr} {o : HO}
theorem ObjOk.lt (x : ObjOk P w H h a o) : a < h.objs.size := by
  cases o with
  | lst xs => obtain ⟨_, _, _, _, e⟩ := x; exact Heap.lt_size e
  | tup xs => obtain ⟨_, _, _, p⟩ := x; exact p.lt
  | dK kvs => obtain ⟨_, _, _, _, o, _, _, e, _⟩ := x; exact Heap.lt_size e
  | dT kvs => obtain ⟨_, _, _, _, o, _, _, e, _⟩ := x; exact Heap.lt_size e
  | set S n => obtain ⟨o, _, _, _, e, _⟩ := x; exact Heap.lt_size e
  | ins C dx fs => obtain ⟨_, _, _, e, _⟩ := x; exact Heap.lt_size e
  | own y => obtain ⟨_, e⟩ := x; exact Heap.lt_size e
  | xd fs => obtain ⟨_, ⟨_, _, _, e, _⟩, _⟩ := x; exact Heap.lt_size e
  | rng lo hi => obtain ⟨_, _, _, e⟩ := x; exact Heap.lt_size e
  | frz ob u => obtain ⟨e, _⟩ := x; exact Heap.lt_size e
  | tbl ps => exact Heap.lt_size (show h.get? a = some _ from x)
  | met f y => exact Heap.lt_size (show h.get? a = some _ from x)
  | ext φ => obtain ⟨_, ⟨_, e⟩, _⟩ := x; exact Heap.lt_size e
theorem Paired.mapP {α β : Type} {F G : α → β → Prop} : ∀ {l₁ : List α} {l₂ : List β}, Paired F l₁ l₂ → (∀ a b, F a b → G a b) → Paired G l₁ l₂
  | _, _, .nil, _ => .nil
  | _, _, .cons r t, f => .cons (f _ _ r) (Paired.mapP t f)
theorem ObjOk.stay (x : ObjOk P w H h a o) (k : ∀ b u, (b = a ∨ H b = some (.own a)) → h.get? b = some u → h'.get? b = some u)
    (ho : ∀ b, H b = some (.own a) → H' b = some (.own a)) (ht : ∀ b xs, H b = some (.tup xs) → H' b = some (.tup xs)) : ObjOk P w H' h' a o := by
  induction o with
  | lst xs => obtain ⟨z, its, n, r, e⟩ := x; exact ⟨z, its, n, r, k _ _ (.inl rfl) e⟩
  | tup xs => obtain ⟨z, its, r, ob, e, c⟩ := x; exact ⟨z, its, r, ob, k _ _ (.inl rfl) e, c⟩
  | dK kvs => obtain ⟨z, y, vs, r, ob, es, ep, e, c⟩ := x; exact ⟨z, y, vs, r, ob, es, ep, k _ _ (.inl rfl) e, c⟩
  | dT kvs =>
    obtain ⟨z, y, xs, r, ob, es, ep, e, c⟩ := x
    exact ⟨z, y, xs, Paired.mapP r fun p q z => ⟨z.1, ht _ _ z.2.1, z.2.2⟩, ob, es, ep, k _ _ (.inl rfl) e, c⟩
  | set S n => obtain ⟨ob, es, ep, t, e, c⟩ := x; exact ⟨ob, es, ep, t, k _ _ (.inl rfl) e, c⟩
  | ins C dx fs =>
    obtain ⟨d, z, ne, e, mA, ⟨od, es, ep, e2, c⟩, r⟩ := x
    exact ⟨ho _ d, z, ne, k _ _ (.inl rfl) e, mA, ⟨od, es, ep, k _ _ (.inr d) e2, c⟩, r⟩
  | own y => obtain ⟨ob, e⟩ := x; exact ⟨ob, k _ _ (.inl rfl) e⟩
  | xd fs => obtain ⟨mA, ⟨od, es, ep, e, c⟩, r⟩ := x; exact ⟨mA, ⟨od, es, ep, k _ _ (.inl rfl) e, c⟩, r⟩
  | rng lo hi => obtain ⟨t, u, v, e⟩ := x; exact ⟨t, u, v, k _ _ (.inl rfl) e⟩
  | frz ob u ih => obtain ⟨e, q⟩ := x; exact ⟨k _ _ (.inl rfl) e, ih q⟩
  | tbl ps =>
    have e : h.get? a = some { cls := .none, data := .fields ps } := x
    show h'.get? a = some { cls := .none, data := .fields ps }
    exact k a _ (.inl rfl) e
  | met f y =>
    have e : h.get? a = some (PySem.W.methodObj (.ref f) (.ref y)) := x
    show h'.get? a = some (PySem.W.methodObj (.ref f) (.ref y))
    exact k a _ (.inl rfl) e
  | ext φ => obtain ⟨p, ⟨o, e⟩, st⟩ := x; exact ⟨st _ _ p fun o q => k _ _ (.inl rfl) q, ⟨o, k _ _ (.inl rfl) e⟩, st⟩
theorem HOk.lt (x : HOk P w H h) (e : H a = some o) : a < h.objs.size := (x a o e).lt
theorem HOk.fresh (x : HOk P w H h) (e : h.objs.size ≤ a) : H a = none := by
  cases q : H a with
  | none => rfl
  | some u => exact absurd (Nat.lt_of_lt_of_le (x.lt q) e) (Nat.lt_irrefl _)
theorem HOk.kept (x : HOk P w H h) (k : ∀ b u, h.get? b = some u → h'.get? b = some u) : HOk P w H h' := fun a o e =>
  (x a o e).stay (fun b u _ q => k b u q) (fun _ q => q) fun _ _ q => q
theorem HOk.laid (x : HOk P w H h) (k : ∀ b u, h.get? b = some u → h'.get? b = some u) (hp : h.objs.size ≤ a) (new : ObjOk P w (upd H a o) h' a o) : HOk P w (upd H a o) h' := fun b u e => by
  have hn := x.fresh hp
  by_cases hb : b = a
  · subst hb; rw [upd_same] at e; cases e; exact new
  · rw [upd_ne hb] at e
    exact (x b u e).stay (fun c v _ q => k c v q) (fun c q => by rw [upd_ne (ne_of_none q hn)]; exact q) fun c xs q => by rw [upd_ne (ne_of_none q hn)]; exact q
end

def Rd (H : Hp) (a : Addr) (u : HO) : Prop := H a = some u ∨ ∃ o, H a = some (.frz o u)
theorem Rd.of {H : Hp} {a : Addr} {u : HO} (h : H a = some u) : Rd H a u := .inl h
theorem Rd.ok {P : Program} {w : World} {H : Hp} {h : Heap} {a : Addr} {u : HO} (r : Rd H a u) (x : HOk P w H h) : ObjOk P w H h a u := by
  rcases r with r | ⟨o, r⟩
  · exact x a u r
  · obtain ⟨_, q⟩ := x a _ r
    exact q
def Mut : Option HO → Prop
  | some (.lst _) => True
  | some (.dK _) => True
  | some (.dT _) => True
  | some (.set _ _) => True
  | some (.ins _ _ _) => True
  | some (.ext _) => True
  | _ => False
section
variable {P : Program} {w : World} {H : Hp} {h h' : Heap} {x e : Addr} {o' : HO}
theorem HOk.write (ok : HOk P w H h) (mu : Mut (H x)) (he : e = x ∨ H e = some (.own x)) (k : ∀ b u, b ≠ e → h.get? b = some u → h'.get? b = some u) (heo : ∃ u, h'.get? e = some u)
    (new : ObjOk P w (upd H x o') h' x o') : HOk P w (upd H x o') h' := fun b u q => by
  have nown : ∀ c y, H c = some (.own y) → c ≠ x := fun c y r z => by subst z; rw [r] at mu; exact mu
  have ntup : ∀ c xs, H c = some (.tup xs) → c ≠ x := fun c xs r z => by subst z; rw [r] at mu; exact mu
  by_cases hb : b = x
  · subst hb; rw [upd_same] at q; cases q; exact new
  · rw [upd_ne hb] at q
    by_cases hbe : b = e
    · have q' : H b = some (.own x) := by
        rcases he with z | z
        · exact absurd (hbe.trans z) hb
        · rw [hbe]; exact z
      rw [q] at q'; cases q'
      obtain ⟨v, hv⟩ := heo
      exact ⟨v, by rw [hbe]; exact hv⟩
    · refine (ok b u q).stay (fun c v hc r => k c v ?_ r) (fun c r => by rw [upd_ne (nown c b r)]; exact r) fun c xs r => by rw [upd_ne (ntup c xs r)]; exact r
      rcases hc with rfl | hc
      · exact hbe
      · rintro rfl
        rcases he with z | z
        · exact nown c b hc z
        · rw [hc] at z; cases z; exact hb rfl
end

structure Un (fs ex : List Addr) (H H' : Hp) (h h' : Heap) : Prop where
  keep : ∀ b o, h.get? b = some o → H b = none → b ∉ fs → b ∉ ex → h'.get? b = some o
  slot : ∀ b o, h.get? b = some o → H b = none → b ∈ fs → b ∉ ex → ∃ sl, h'.get? b = some { o with slots := sl }
  free : ∀ b o, h.get? b = some o → H b = none → b ∉ ex → H' b = none
  there : ∀ b o, h.get? b = some o → b ∉ ex → ∃ o', h'.get? b = some o'
  tups : ∀ b xs, H b = some (.tup xs) → H' b = some (.tup xs)
  frzs : ∀ b o u, H b = some (.frz o u) → H' b = some (.frz o u)
  tbls : ∀ b ps, H b = some (.tbl ps) → ∃ more, H' b = some (.tbl (ps ++ more))
section
variable {fs fs' ex ex' : List Addr} {H H1 H2 : Hp} {h h1 h2 h' : Heap} {a x e : Addr} {o : HO}
theorem Un.any (u : Un fs ex H H1 h h1) {b : Addr} {ob : Obj} (q : h.get? b = some ob) (n : H b = none) (hx : b ∉ ex) : ∃ sl, h1.get? b = some { ob with slots := sl } := by
  by_cases hb : b ∈ fs
  · exact u.slot b ob q n hb hx
  · exact ⟨ob.slots, u.keep b ob q n hb hx⟩
theorem Un.trans (a : Un fs ex H H1 h h1) (b : Un fs ex H1 H2 h1 h2) : Un fs ex H H2 h h2 where
  keep := fun c ob q n hc hx => b.keep c ob (a.keep c ob q n hc hx) (a.free c ob q n hx) hc hx
  slot := fun c ob q n hc hx => by
    obtain ⟨sl, e1⟩ := a.slot c ob q n hc hx
    obtain ⟨sl', e2⟩ := b.slot c _ e1 (a.free c ob q n hx) hc hx
    exact ⟨sl', e2⟩
  free := fun c ob q n hx => by
    obtain ⟨o', e1⟩ := a.there c ob q hx
    exact b.free c o' e1 (a.free c ob q n hx) hx
  there := fun c ob q hx => by
    obtain ⟨o', e1⟩ := a.there c ob q hx
    exact b.there c o' e1 hx
  tups := fun c xs q => b.tups c xs (a.tups c xs q)
  frzs := fun c ob xs q => b.frzs c ob xs (a.frzs c ob xs q)
  tbls := fun c ps q => by
    obtain ⟨m1, e1⟩ := a.tbls c ps q
    obtain ⟨m2, e2⟩ := b.tbls c _ e1
    exact ⟨m1 ++ m2, by rw [e2, Array.append_assoc]⟩
theorem Un.kept (k : ∀ b u, h.get? b = some u → h'.get? b = some u) : Un fs ex H H h h' :=
  ⟨fun b ob q _ _ _ => k b ob q, fun b ob q _ _ _ => ⟨ob.slots, k b ob q⟩, fun _ _ _ n _ => n, fun b ob q _ => ⟨ob, k b ob q⟩, fun _ _ q => q, fun _ _ _ q => q, fun _ ps q => ⟨#[], by rw [q]; simp⟩⟩
theorem Un.refl : Un fs ex H H h h := Un.kept fun _ _ q => q
theorem Un.laid (k : ∀ b u, h.get? b = some u → h'.get? b = some u) (hp : h.objs.size ≤ a) (hn : H a = none) : Un fs ex H (upd H a o) h h' where
  keep := fun b u q _ _ _ => k b u q
  slot := fun b u q _ _ _ => ⟨u.slots, k b u q⟩
  free := fun b u q n _ => by rw [upd_ne (Nat.ne_of_lt (Nat.lt_of_lt_of_le (Heap.lt_size q) hp))]; exact n
  there := fun b u q _ => ⟨u, k b u q⟩
  tups := fun b xs q => by rw [upd_ne (ne_of_none q hn)]; exact q
  frzs := fun b u xs q => by rw [upd_ne (ne_of_none q hn)]; exact q
  tbls := fun b ps q => ⟨#[], by rw [upd_ne (ne_of_none q hn), q]; simp⟩
theorem Un.write (mu : Mut (H x)) (he : e = x ∨ H e = some (.own x)) (k : ∀ b u, b ≠ e → h.get? b = some u → h'.get? b = some u) (heo : ∃ u, h'.get? e = some u) : Un fs ex H (upd H x o) h h' := by
  have hx : ∀ b, H b = none → b ≠ x := fun b n z => by subst z; rw [n] at mu; exact mu
  have hb : ∀ b, H b = none → b ≠ e := fun b n z => by
    subst z
    rcases he with r | r
    · exact hx b n r
    · rw [n] at r; cases r
  have hm : ∀ b u, H b = some u → ¬ Mut (some u) → b ≠ x := fun b u q nm z => by subst z; rw [q] at mu; exact nm mu
  refine ⟨fun b u q n _ _ => k b u (hb b n) q, fun b u q n _ _ => ⟨u.slots, k b u (hb b n) q⟩, fun b u q n _ => by rw [upd_ne (hx b n)]; exact n, fun b u q _ => ?_,
    fun b xs q => by rw [upd_ne (hm b _ q fun z => z)]; exact q, fun b u xs q => by rw [upd_ne (hm b _ q fun z => z)]; exact q, fun b ps q => ⟨#[], by rw [upd_ne (hm b _ q fun z => z), q]; simp⟩⟩
  by_cases hbe : b = e
  · subst hbe; exact heo
  · exact ⟨u, k b u hbe q⟩
theorem Un.mono (u : Un fs ex H H1 h h1) (hs : ∀ b ∈ fs, b ∈ fs') (hx : ∀ b ∈ ex, b ∈ ex') : Un fs' ex' H H1 h h1 :=
  ⟨fun b ob q n hb he => u.keep b ob q n (fun z => hb (hs b z)) fun z => he (hx b z), fun _ _ q n _ he => u.any q n fun z => he (hx _ z), fun b ob q n he => u.free b ob q n fun z => he (hx b z), fun b ob q he => u.there b ob q fun z => he (hx b z), u.tups, u.frzs, u.tbls⟩
end

def trk (h : Heap) (H : Hp) : List Addr := (List.range h.objs.size).filter fun a => (H a).isSome
def hidT (h : Heap) (H : Hp) : Heap := PySem.W.hideAll h (trk h H)
theorem hidT_size (h : Heap) (H : Hp) : (hidT h H).objs.size = h.objs.size := PySem.W.hideAll_size _ _
theorem hidT_get {h : Heap} {H : Hp} {b : Addr} {o : Obj} (e : h.get? b = some o) (n : H b = none) : (hidT h H).get? b = some o :=
  PySem.W.hideAll_get _ e fun hm => by
    have q : (H b).isSome = true := (List.mem_filter.mp hm).2
    rw [n] at q; simp at q
theorem of_hidT {h : Heap} {H : Hp} {b : Addr} {o : Obj} (e : (hidT h H).get? b = some o) : h.get? b = some o ∧ H b = none := by
  have e' : h.get? b = some o := PySem.W.of_hideAll (trk h H) e
  refine ⟨e', ?_⟩
  cases q : H b with
  | none => rfl
  | some x =>
    have hm : b ∈ trk h H := List.mem_filter.mpr ⟨List.mem_range.mpr (Heap.lt_size e'), by simp [q]⟩
    have z : (hidT h H).get? b = none := PySem.W.hideAll_none (trk h H) hm
    rw [z] at e; cases e

def allNews (g h : Heap) (L : Addr) : List (Addr × Obj) := (List.range h.objs.size).filterMap fun a => if a = L ∨ (g.get? a).isSome = true then none else (h.get? a).map fun o => (a, o)
def rest (g h : Heap) (L d : Addr) : List (Addr × Obj) := (allNews g h L).filter fun p => decide (p.1 ≠ d)
end L2

namespace L2
open PySem PySem.Spec PyProof.Rows

structure Mod (K : PySem.W.Frag) (mg : Str → Option Value) (base : Heap) : Prop where
  kin : K.In base
  glob : base.Ns mainGlobals mg
  blt : ∃ mb, base.Ns builtinsNs mb ∧ ∀ x : Str, x ≠ "__name__" → mb x = bootBuiltins x
  nolimit : base.NoLimit

structure Cx where
  prog : Program
  w : World
  K : PySem.W.Frag
  mg : Str → Option Value
  base : Heap
  A : Around
  N : List Str
  s₀ : Shared
  H₀ : Hp
  env : Env
  outer : List Env
  stack : List Env
  ex : List Addr
  fn : Str → Bool
  calm : Bool
  pn : List (Addr × Obj)
  xe : Value → Shared → Prop
def frs (l : List Env) : List Addr := l.filterMap (·.frame)
abbrev Cx.fs (X : Cx) : List Addr := frs X.outer

def Vis (sc : Scope) (x : Str) : Prop := sc.names.lookup x = some .local ∨ sc.names.lookup x = some .cell ∨ sc.names.lookup x = some .free
def Loc (sc : Scope) (x : Str) : Prop := sc.names.lookup x = some .local ∨ sc.names.lookup x = some .cell
def Look (env : Env) (h : Heap) (m : Str → Option Value) (x : Str) (u : Value) : Prop :=
  (env.kindOf x = some .local ∧ m x = some u) ∨ ((env.kindOf x = some .cell ∨ env.kindOf x = some .free) ∧ ∃ c, env.cells.lookup x = some c ∧ h.IsCell c (some u))

structure Cx.Ok (X : Cx) : Prop where
  mod : Mod X.K X.mg X.base
  kind : X.env.scope.kind = .function
  glob : X.env.globals = mainGlobals
  blt : X.env.builtins = builtinsNs
  above : X.s₀.heap.objs.size ≤ X.env.locals
  inj : ∀ x y c, X.env.cells.lookup x = some c → X.env.cells.lookup y = some c → x = y
  has : ∀ x, (X.env.kindOf x = some .cell ∨ X.env.kindOf x = some .free) → ∃ c, X.env.cells.lookup x = some c
  cab : ∀ x c, X.fn x = true → X.env.cells.lookup x = some c → X.s₀.heap.objs.size ≤ c
  hd : X.calm = true → X.A.handled = none
  frames : X.A.frames = some X.stack
  stk : X.stack = X.outer ∨ (X.stack = X.env :: X.outer ∧ X.env.frame = some X.env.locals)
  exf : ∀ b ∈ X.ex, b ≠ X.env.locals ∧ ∀ x c, X.env.cells.lookup x = some c → c ≠ b
  bs : ∀ b o, X.base.get? b = some o → X.s₀.heap.get? b = some o ∧ X.H₀ b = none
  bsz : X.base.objs.size ≤ X.s₀.heap.objs.size
  noex : ∀ b o, X.base.get? b = some o → b ∉ X.ex
  exfs : ∀ b ∈ X.ex, b ∉ X.fs
  funs : X.s₀.heap.FunFrames X.base X.outer
  frf : ∀ b ∈ X.fs, X.H₀ b = none

structure Inv (X : Cx) (pins : List (Addr × Obj)) (σ : List (Option V)) (H : Hp) (s : Shared) : Prop where
  ok : X.Ok
  os : s.os = X.s₀.os
  bare : AllBare s.gens
  base : Un X.fs X.ex X.H₀ H X.s₀.heap s.heap
  loc : ∃ m, s.heap.Ns X.env.locals m ∧ ∀ (i : Nat) (x : Str) (v : V), X.N[i]? = some x → σ[i]? = some (some v) → Vis X.env.scope x → ∃ u, RelV v u ∧ Look X.env s.heap m x u
  cell : ∀ x c, X.env.cells.lookup x = some c → ∃ v, s.heap.IsCell c v
  free : H X.env.locals = none
  freeC : ∀ x c, X.env.cells.lookup x = some c → H c = none
  pin : ∀ p ∈ X.pn ++ pins, s.heap.get? p.1 = some p.2 ∧ H p.1 = none ∧ p.1 ≠ X.env.locals ∧ p.1 ∉ X.fs ∧ ∀ v, p.2.data ≠ .cell v
  hok : HOk X.prog X.w H s.heap
  len : σ.length = X.N.length

section
variable {X : Cx} {pins : List (Addr × Obj)} {σ : List (Option V)} {H H' : Hp} {s : Shared} {h' : Heap}

theorem Cx.Ok.nofr (ok : X.Ok) {b : Addr} {o : Obj} (e : X.base.get? b = some o) : b ∉ X.fs := fun hb => by
  have := (ok.funs.mem hb).1
  rw [e] at this; cases this
theorem Inv.bs (I : Inv X pins σ H s) : ∀ b o, X.base.get? b = some o → s.heap.get? b = some o ∧ H b = none := fun b o e =>
  ⟨I.base.keep b o (I.ok.bs b o e).1 (I.ok.bs b o e).2 (I.ok.nofr e) (I.ok.noex b o e), I.base.free b o (I.ok.bs b o e).1 (I.ok.bs b o e).2 (I.ok.noex b o e)⟩
theorem Inv.bk (I : Inv X pins σ H s) : ∀ b o, X.base.get? b = some o → s.heap.get? b = some o := fun b o e => (I.bs b o e).1
theorem Inv.mod (I : Inv X pins σ H s) : Mod X.K X.mg X.base := I.ok.mod
theorem Inv.kIn (I : Inv X pins σ H s) : X.K.In s.heap := I.ok.mod.kin.keeps I.bk
theorem Inv.nolimit (I : Inv X pins σ H s) : s.heap.NoLimit := I.ok.mod.nolimit.keeps I.bk
theorem Inv.fr (I : Inv X pins σ H s) : ∃ m, Fr X.base X.env.locals s.heap m :=
  let ⟨m, hn, _⟩ := I.loc
  ⟨m, hn, I.bk, Nat.le_trans I.ok.bsz I.ok.above⟩
theorem Inv.lt (I : Inv X pins σ H s) : X.env.locals < s.heap.objs.size := let ⟨_, hn, _⟩ := I.loc; hn.lt
theorem Inv.sz (I : Inv X pins σ H s) : X.s₀.heap.objs.size ≤ s.heap.objs.size := Nat.le_trans I.ok.above (Nat.le_of_lt I.lt)
theorem Inv.nofs (I : Inv X pins σ H s) {a : Addr} (h : s.heap.objs.size ≤ a) : a ∉ X.fs := fun hb => by
  obtain ⟨_, o, ho, _⟩ := I.ok.funs.mem hb
  exact absurd (Nat.lt_of_lt_of_le (Heap.lt_size ho) (Nat.le_trans I.sz h)) (Nat.lt_irrefl _)
theorem Inv.cne (I : Inv X pins σ H s) : ∀ x c, X.env.cells.lookup x = some c → c ≠ X.env.locals := fun x c e z => by
  obtain ⟨v, o, ho, hd⟩ := I.cell x c e
  obtain ⟨m, ⟨o', es, ep, ho', hd', _⟩, _⟩ := I.loc
  rw [z, ho'] at ho; cases ho; rw [hd'] at hd; cases hd
theorem Inv.funs (I : Inv X pins σ H s) : s.heap.FunFrames X.base X.outer := by
  have all : ∀ (l : List Env), (∀ b ∈ frs l, b ∈ X.fs) → X.s₀.heap.FunFrames X.base l → s.heap.FunFrames X.base l := by
    intro l
    induction l with
    | nil => intro _ _; trivial
    | cons env r ih =>
      intro hs hl
      obtain ⟨hk, ⟨L, o, hf, hn, ho, hd⟩, hr⟩ := hl
      have hL : L ∈ X.fs := hs L (by unfold frs; rw [List.filterMap_cons, hf]; exact List.mem_cons_self)
      obtain ⟨sl, e⟩ := I.base.slot L o ho (I.ok.frf L hL) hL fun z => I.ok.exfs L z hL
      exact ⟨hk, ⟨L, _, hf, hn, e, hd⟩, ih (fun b hb => hs b (by unfold frs; rw [List.filterMap_cons, hf]; exact List.mem_cons_of_mem _ hb)) hr⟩
  exact all X.outer (fun _ hb => hb) I.ok.funs

theorem Inv.stack (I : Inv X pins σ H s) : s.heap.FunFrames X.base X.stack := by
  rcases I.ok.stk with e | ⟨e, hf⟩
  · rw [e]; exact I.funs
  · rw [e]
    obtain ⟨m, hn, _⟩ := I.loc
    refine .cons (by rw [I.ok.kind]; decide) hf hn ?_ I.funs
    exact Heap.get?_none_of_le (Nat.le_trans I.ok.bsz I.ok.above)
theorem Inv.stkSub (I : Inv X pins σ H s) : ∀ b ∈ frs X.stack, b ∈ X.env.locals :: X.fs := fun b hb => by
  rcases I.ok.stk with e | ⟨e, hf⟩
  · rw [e] at hb; exact List.mem_cons_of_mem _ hb
  · rw [e] at hb
    unfold frs at hb
    rw [List.filterMap_cons, hf] at hb
    exact hb
theorem Inv.stkFree (I : Inv X pins σ H s) : ∀ b ∈ frs X.stack, H b = none := fun b hb => by
  rcases List.mem_cons.mp (I.stkSub b hb) with e | hb
  · rw [e]; exact I.free
  · obtain ⟨_, o, ho, _⟩ := I.ok.funs.mem hb
    exact I.base.free b o ho (I.ok.frf b hb) fun z => I.ok.exfs b z hb

theorem Inv.step {g' : Array GenState} {t' : Nat} {d' : Drawn} {ch : List Addr} (I : Inv X pins σ H s)
    (hch : ∀ b ∈ ch, (b ∈ X.ex ∨ X.s₀.heap.objs.size ≤ b) ∧ b ≠ X.env.locals ∧ (∀ x c, X.env.cells.lookup x = some c → c ≠ b) ∧ ∀ p ∈ X.pn ++ pins, p.1 ≠ b)
    (keep : ∀ b o, b ≠ X.env.locals → b ∉ X.fs → b ∉ ch → s.heap.get? b = some o → H b = none → h'.get? b = some o)
    (slot : ∀ b o, b ≠ X.env.locals → b ∈ X.fs → b ∉ ch → s.heap.get? b = some o → H b = none → ∃ sl, h'.get? b = some { o with slots := sl }) (free : ∀ b o, b ∉ ch → s.heap.get? b = some o → H b = none → H' b = none)
    (there : ∀ b o, b ∉ ch → s.heap.get? b = some o → ∃ o', h'.get? b = some o')
    (tups : ∀ b xs, H b = some (.tup xs) → H' b = some (.tup xs)) (frzs : ∀ b o u, H b = some (.frz o u) → H' b = some (.frz o u)) (tbls : ∀ b ps, H b = some (.tbl ps) → ∃ more, H' b = some (.tbl (ps ++ more)))
    (ns : ∀ m, s.heap.Ns X.env.locals m → h'.Ns X.env.locals m) (hok : HOk X.prog X.w H' h') (hg : AllBare g') :
    Inv X pins σ H' { s with heap := h', gens := g', drawn := d', toks := t' } := by
  have neL : ∀ b o, X.s₀.heap.get? b = some o → b ≠ X.env.locals := fun b o e => Nat.ne_of_lt (Nat.lt_of_lt_of_le (Heap.lt_size e) I.ok.above)
  have neC : ∀ b o, X.s₀.heap.get? b = some o → b ∉ X.ex → b ∉ ch := fun b o e hx hb => by
    rcases (hch b hb).1 with z | z
    · exact hx z
    · exact absurd (Nat.lt_of_lt_of_le (Heap.lt_size e) z) (Nat.lt_irrefl _)
  have cellK : ∀ x c, X.env.cells.lookup x = some c → ∀ v, s.heap.IsCell c v → h'.IsCell c v := fun x c e v ⟨o, ho, hd⟩ => by
    have nch : c ∉ ch := fun z => (hch c z).2.2.1 x c e rfl
    by_cases hc : c ∈ X.fs
    · obtain ⟨sl, q⟩ := slot c o (I.cne x c e) hc nch ho (I.freeC x c e)
      exact ⟨_, q, hd⟩
    · exact ⟨o, keep c o (I.cne x c e) hc nch ho (I.freeC x c e), hd⟩
  refine ⟨I.ok, I.os, hg, ⟨fun b o e n hb hx => ?_, fun b o e n hb hx => ?_, fun b o e n hx => ?_, fun b o e hx => ?_, fun b xs e => tups b xs (I.base.tups b xs e), fun b o xs e => frzs b o xs (I.base.frzs b o xs e), fun b ps e => ?_⟩, ?_, fun x c e => ?_, ?_, fun x c e => ?_, fun p hp => ?_, hok, I.len⟩
  · exact keep b o (neL b o e) hb (neC b o e hx) (I.base.keep b o e n hb hx) (I.base.free b o e n hx)
  · obtain ⟨sl, e1⟩ := I.base.slot b o e n hb hx
    obtain ⟨sl', e2⟩ := slot b _ (neL b o e) hb (neC b o e hx) e1 (I.base.free b o e n hx)
    exact ⟨sl', e2⟩
  · obtain ⟨o', e1⟩ := I.base.there b o e hx
    exact free b o' (neC b o e hx) e1 (I.base.free b o e n hx)
  · obtain ⟨o', e1⟩ := I.base.there b o e hx
    exact there b o' (neC b o e hx) e1
  · obtain ⟨m1, e1⟩ := I.base.tbls b ps e
    obtain ⟨m2, e2⟩ := tbls b _ e1
    exact ⟨m1 ++ m2, by rw [e2, Array.append_assoc]⟩
  · obtain ⟨m, hn, hl⟩ := I.loc
    refine ⟨m, ns m hn, fun i x v e1 e2 e3 => ?_⟩
    obtain ⟨u, r, l⟩ := hl i x v e1 e2 e3
    refine ⟨u, r, ?_⟩
    rcases l with l | ⟨k, c, e, z⟩
    · exact .inl l
    · exact .inr ⟨k, c, e, cellK x c e _ z⟩
  · obtain ⟨v, z⟩ := I.cell x c e
    exact ⟨v, cellK x c e v z⟩
  · obtain ⟨m, ⟨o, _, _, ho, _⟩, _⟩ := I.loc
    exact free _ o (fun z => (hch _ z).2.1 rfl) ho I.free
  · obtain ⟨v, o, ho, hd⟩ := I.cell x c e
    exact free c o (fun z => (hch c z).2.2.1 x c e rfl) ho (I.freeC x c e)
  · obtain ⟨e, n, ne, nf, d⟩ := I.pin p hp
    have nch : p.1 ∉ ch := fun z => (hch p.1 z).2.2.2 p hp rfl
    exact ⟨keep p.1 p.2 ne nf nch e n, free p.1 p.2 nch e n, ne, nf, d⟩
theorem Inv.un {t' : Nat} (I : Inv X pins σ H s) (u : Un X.fs [] H H' s.heap h') (hok : HOk X.prog X.w H' h') : Inv X pins σ H' { s with heap := h', toks := t' } := by
  obtain ⟨m, ⟨o, es, ep, ho, r⟩, _⟩ := id I.loc
  obtain ⟨sl, hL⟩ := u.any ho I.free (by simp)
  exact I.step (g' := s.gens) (d' := s.drawn) (ch := []) (fun _ z => nomatch z) (fun b o _ hb _ e n => u.keep b o e n hb (by simp)) (fun b o _ hb _ e n => u.slot b o e n hb (by simp)) (fun b o _ e n => u.free b o e n (by simp)) (fun b o _ e => u.there b o e (by simp)) u.tups u.frzs u.tbls (fun m' hm => by
    obtain ⟨o', es', ep', ho', r'⟩ := hm
    rw [ho] at ho'; cases ho'
    exact ⟨_, es', ep', hL, r'⟩) hok I.bare
theorem Inv.call {g' : Array GenState} {t' : Nat} {d' : Drawn} {ch : List Addr} (I : Inv X pins σ H s) (u : Un (frs X.stack) ch H H' s.heap h') (hok : HOk X.prog X.w H' h') (hg : AllBare g')
    (hch : ∀ b ∈ ch, (b ∈ X.ex ∨ X.s₀.heap.objs.size ≤ b) ∧ b ≠ X.env.locals ∧ (∀ x c, X.env.cells.lookup x = some c → c ≠ b) ∧ ∀ p ∈ X.pn ++ pins, p.1 ≠ b) :
    Inv X pins σ H' { s with heap := h', gens := g', drawn := d', toks := t' } := by
  obtain ⟨m, ⟨o, es, ep, ho, r⟩, _⟩ := id I.loc
  obtain ⟨sl, hL⟩ := u.any ho I.free fun z => (hch _ z).2.1 rfl
  exact I.step (ch := ch) hch (fun b o hL hb hc e n => u.keep b o e n (fun z => (List.mem_cons.mp (I.stkSub b z)).elim hL hb) hc) (fun b o _ _ hc e n => u.any e n hc) (fun b o hc e n => u.free b o e n hc) (fun b o hc e => u.there b o e hc) u.tups u.frzs u.tbls (fun m' hm => by
    obtain ⟨o', es', ep', ho', r'⟩ := hm
    rw [ho] at ho'; cases ho'
    exact ⟨_, es', ep', hL, r'⟩) hok hg
theorem Inv.turned {t' : Nat} {it : Addr} (I : Inv X pins σ H s) (k : ∀ b o, b ≠ it → s.heap.get? b = some o → h'.get? b = some o) (hn : H it = none) (hL : it ≠ X.env.locals)
    (h1 : it ∈ X.ex ∨ X.s₀.heap.objs.size ≤ it) (h2 : ∀ x c, X.env.cells.lookup x = some c → c ≠ it) (h3 : ∀ p ∈ X.pn ++ pins, p.1 ≠ it) : Inv X pins σ H { s with heap := h', toks := t' } := by
  have nit : ∀ b u, H b = some u → b ≠ it := fun b u e z => by rw [z, hn] at e; cases e
  refine I.step (g' := s.gens) (d' := s.drawn) (ch := [it]) (fun b hb => ?_) (fun b o _ _ hc e _ => k b o (fun z => hc (by simp [z])) e) (fun b o _ _ hc e _ => ⟨o.slots, k b o (fun z => hc (by simp [z])) e⟩) (fun _ _ _ _ n => n)
    (fun b o hc e => ⟨o, k b o (fun z => hc (by simp [z])) e⟩) (fun _ _ e => e) (fun _ _ _ e => e) (fun b ps e => ⟨#[], by rw [e]; simp⟩) (fun m hm => ?_) (fun b u e => ?_) I.bare
  · have e : b = it := by simpa using hb
    subst e
    exact ⟨h1, hL, h2, h3⟩
  · obtain ⟨o, es, ep, ho, r⟩ := hm
    exact ⟨o, es, ep, k _ o (Ne.symm hL) ho, r⟩
  · refine (I.hok b u e).stay (fun c v hc q => k c v ?_ q) (fun _ q => q) fun _ _ q => q
    rcases hc with z | z
    · rw [z]; exact nit b u e
    · exact nit c _ z
theorem Inv.tok (I : Inv X pins σ H s) (t : Nat) : Inv X pins σ H { s with toks := t } := I.un (h' := s.heap) (t' := t) Un.refl I.hok
theorem Inv.kept {t' : Nat} (I : Inv X pins σ H s) (k : ∀ b u, s.heap.get? b = some u → h'.get? b = some u) : Inv X pins σ H { s with heap := h', toks := t' } := I.un (Un.kept k) (I.hok.kept k)
theorem Inv.laid {a : Addr} {o : HO} {t' : Nat} (I : Inv X pins σ H s) (k : ∀ b u, s.heap.get? b = some u → h'.get? b = some u) (hp : s.heap.objs.size ≤ a) (new : ObjOk X.prog X.w (upd H a o) h' a o) :
    Inv X pins σ (upd H a o) { s with heap := h', toks := t' } := I.un (Un.laid k hp (I.hok.fresh hp)) (I.hok.laid k hp new)
theorem Inv.write {x e : Addr} {o : HO} {t' : Nat} (I : Inv X pins σ H s) (mu : Mut (H x)) (he : e = x ∨ H e = some (.own x)) (k : ∀ b u, b ≠ e → s.heap.get? b = some u → h'.get? b = some u) (heo : ∃ u, h'.get? e = some u)
    (new : ObjOk X.prog X.w (upd H x o) h' x o) : Inv X pins σ (upd H x o) { s with heap := h', toks := t' } := I.un (Un.write mu he k heo) (I.hok.write mu he k heo new)
theorem Inv.weak {σ' : List (Option V)} (I : Inv X pins σ H s) (hl : σ'.length = σ.length) (w : ∀ (i : Nat) v, σ'[i]? = some (some v) → σ[i]? = some (some v)) : Inv X pins σ' H s :=
  ⟨I.ok, I.os, I.bare, I.base, let ⟨m, hn, hl'⟩ := I.loc; ⟨m, hn, fun i x v e1 e2 e3 => hl' i x v e1 (w i v e2) e3⟩, I.cell, I.free, I.freeC, I.pin, I.hok, hl.trans I.len⟩
theorem Inv.pins_of {pins' : List (Addr × Obj)} (I : Inv X pins σ H s) (h : ∀ p ∈ pins', s.heap.get? p.1 = some p.2 ∧ H p.1 = none ∧ p.1 ≠ X.env.locals ∧ p.1 ∉ X.fs ∧ ∀ v, p.2.data ≠ .cell v) : Inv X pins' σ H s :=
  ⟨I.ok, I.os, I.bare, I.base, I.loc, I.cell, I.free, I.freeC, fun p hp => (List.mem_append.mp hp).elim (fun z => I.pin p (List.mem_append_left _ z)) (h p), I.hok, I.len⟩

theorem nodup_ix {N : List Str} (hN : N.Nodup) {i j : Nat} {x : Str} (a : N[i]? = some x) (b : N[j]? = some x) : i = j := by
  obtain ⟨h1, e1⟩ := List.getElem?_eq_some_iff.mp a
  obtain ⟨h2, e2⟩ := List.getElem?_eq_some_iff.mp b
  exact (List.getElem_inj hN).mp (e1.trans e2.symm)

theorem store_ok2 {M : Model} {A : Around} {E : Value → Shared → Prop} {i : Nat} {x : Str} {v : V} {u : Value} {Q : Unit → Shared → Prop} (I : Inv X pins σ H s) (hN : X.N.Nodup) (hi : X.N[i]? = some x) (hx : Loc X.env.scope x) (r : RelV v u)
    (h : ∀ s', Inv X pins (σ.set i (some v)) H s' → (∃ a, Heap.SameBut a s.heap s'.heap ∧ (a = X.env.locals ∨ X.env.cells.lookup x = some a)) → Q () s') (hf : X.fn x = true ∨ X.env.scope.names.lookup x = some .local := by first | exact .inl rfl | exact .inr rfl | assumption) : wpAny M A (storeName X.env x u) Q E s := by
  obtain ⟨m, hn, hl⟩ := id I.loc
  have hcls : (X.env.scope.kind == .class || (X.env.scope.kind == .module && X.env.locals != X.env.globals)) = false := by rw [I.ok.kind]; rfl
  have hiσ : i < σ.length := by rw [I.len]; exact (List.getElem?_eq_some_iff.mp hi).1
  have cne := I.cne
  have tracked : ∀ {a : Addr} {h' : Heap}, (∃ o, s.heap.get? a = some o ∧ H a = none) → Heap.SameBut a s.heap h' → HOk X.prog X.w H h' := fun {a h'} ha hs b ob e => by
    obtain ⟨_, _, hfree⟩ := ha
    refine (I.hok b ob e).stay (fun c w' hc q => (hs.2 c ?_).trans q) (fun _ q => q) fun _ _ q => q
    rintro rfl
    rcases hc with rfl | hc
    · rw [hfree] at e; cases e
    · rw [hfree] at hc; cases hc
  rcases hx with hk | hk
  · refine wpAny_storeName_local hk hn (fun h' hn' hs => ?_) hcls
    obtain ⟨oL, _, _, hoL, _⟩ := id hn
    refine h _ ⟨I.ok, I.os, I.bare, ⟨fun b o e n hb hx => ?_, fun b o e n hb hx => ?_, I.base.free, fun b o e hx => ?_, I.base.tups, I.base.frzs, I.base.tbls⟩, ⟨_, hn', fun j y v' e1 e2 e3 => ?_⟩, fun y c e => ?_, I.free, I.freeC, fun p hp => ?_, tracked ⟨oL, hoL, I.free⟩ hs, by simpa using I.len⟩ ⟨_, hs, .inl rfl⟩
    · exact (hs.2 b (Nat.ne_of_lt (Nat.lt_of_lt_of_le (Heap.lt_size e) I.ok.above))).trans (I.base.keep b o e n hb hx)
    · obtain ⟨sl, e1⟩ := I.base.slot b o e n hb hx
      exact ⟨sl, (hs.2 b (Nat.ne_of_lt (Nat.lt_of_lt_of_le (Heap.lt_size e) I.ok.above))).trans e1⟩
    · obtain ⟨o', e1⟩ := I.base.there b o e hx
      exact ⟨o', (hs.2 b (Nat.ne_of_lt (Nat.lt_of_lt_of_le (Heap.lt_size e) I.ok.above))).trans e1⟩
    · by_cases hj : j = i
      · subst hj
        rw [hi] at e1; cases e1
        rw [List.getElem?_set_self hiσ] at e2
        cases e2
        exact ⟨u, r, .inl ⟨hk, by simp⟩⟩
      · rw [List.getElem?_set_ne (Ne.symm hj)] at e2
        obtain ⟨u', r', q⟩ := hl j y v' e1 e2 e3
        refine ⟨u', r', ?_⟩
        rcases q with ⟨k, e⟩ | ⟨k, c, e, z⟩
        · refine .inl ⟨k, ?_⟩
          have : y ≠ x := fun e => hj (nodup_ix hN e1 (e ▸ hi))
          simp [this, e]
        · exact .inr ⟨k, c, e, z.sameBut hs (cne y c e)⟩
    · obtain ⟨w', z⟩ := I.cell y c e
      exact ⟨w', z.sameBut hs (cne y c e)⟩
    · obtain ⟨e, n, ne, nf, d⟩ := I.pin p hp
      exact ⟨(hs.2 p.1 ne).trans e, n, ne, nf, d⟩
  · have hfn : X.fn x = true := by
      rcases hf with z | z
      · exact z
      · rw [z] at hk; cases hk
    obtain ⟨c, hc⟩ := I.ok.has x (.inl hk)
    obtain ⟨w', z⟩ := I.cell x c hc
    refine wpAny_storeName_cell I.ok.kind hk hc z (fun h' hc' hs => ?_)
    obtain ⟨oc, hoc, hocd⟩ := id z
    refine h { s with heap := h' } ⟨I.ok, I.os, I.bare, ⟨fun b o e n hb hx => ?_, fun b o e n hb hx => ?_, I.base.free, fun b o e hx => ?_, I.base.tups, I.base.frzs, I.base.tbls⟩, ⟨m, hn.sameBut hs (Ne.symm (cne x c hc)), fun j y v' e1 e2 e3 => ?_⟩, fun y c' e => ?_, I.free, I.freeC, fun p hp => ?_, tracked ⟨oc, hoc, I.freeC x c hc⟩ hs, by simpa using I.len⟩ ⟨c, hs, .inr hc⟩
    · exact (hs.2 b (Nat.ne_of_lt (Nat.lt_of_lt_of_le (Heap.lt_size e) (I.ok.cab x c hfn hc)))).trans (I.base.keep b o e n hb hx)
    · obtain ⟨sl, e1⟩ := I.base.slot b o e n hb hx
      exact ⟨sl, (hs.2 b (Nat.ne_of_lt (Nat.lt_of_lt_of_le (Heap.lt_size e) (I.ok.cab x c hfn hc)))).trans e1⟩
    · obtain ⟨o', e1⟩ := I.base.there b o e hx
      exact ⟨o', (hs.2 b (Nat.ne_of_lt (Nat.lt_of_lt_of_le (Heap.lt_size e) (I.ok.cab x c hfn hc)))).trans e1⟩
    · by_cases hj : j = i
      · subst hj
        rw [hi] at e1; cases e1
        rw [List.getElem?_set_self hiσ] at e2
        cases e2
        exact ⟨u, r, .inr ⟨.inl hk, c, hc, hc'⟩⟩
      · rw [List.getElem?_set_ne (Ne.symm hj)] at e2
        obtain ⟨u', r', q⟩ := hl j y v' e1 e2 e3
        refine ⟨u', r', ?_⟩
        rcases q with q | ⟨k, c', e, z'⟩
        · exact .inl q
        · refine .inr ⟨k, c', e, z'.sameBut hs ?_⟩
          rintro rfl
          exact hj (nodup_ix hN e1 (I.ok.inj _ _ _ e hc ▸ hi))
    · by_cases hcc : c' = c
      · subst hcc; exact ⟨_, hc'⟩
      · obtain ⟨w2, z2⟩ := I.cell y c' e
        exact ⟨w2, z2.sameBut hs hcc⟩
    · obtain ⟨e, n, ne, nf, d⟩ := I.pin p hp
      refine ⟨(hs.2 p.1 ?_).trans e, n, ne, nf, d⟩
      intro q
      rw [q, hoc] at e
      have q' : oc = p.2 := Option.some.inj e
      exact d w' (by rw [← q']; exact hocd)
theorem store_ok {M : Model} {A : Around} {E : Value → Shared → Prop} {i : Nat} {x : Str} {v : V} {u : Value} {Q : Unit → Shared → Prop} (I : Inv X pins σ H s) (hN : X.N.Nodup) (hi : X.N[i]? = some x) (hx : Loc X.env.scope x) (r : RelV v u)
    (h : ∀ s', Inv X pins (σ.set i (some v)) H s' → Q () s') (hf : X.fn x = true ∨ X.env.scope.names.lookup x = some .local := by first | exact .inl rfl | exact .inr rfl | assumption) : wpAny M A (storeName X.env x u) Q E s :=
  store_ok2 I hN hi hx r (fun s' I' _ => h s' I') hf
theorem Inv.call' {s' : Shared} {ch : List Addr} (I : Inv X pins σ H s) (ho : s'.os = s.os) (u : Un (frs X.stack) ch H H' s.heap s'.heap) (hok : HOk X.prog X.w H' s'.heap) (hg : AllBare s'.gens)
    (hch : ∀ b ∈ ch, (b ∈ X.ex ∨ X.s₀.heap.objs.size ≤ b) ∧ b ≠ X.env.locals ∧ (∀ x c, X.env.cells.lookup x = some c → c ≠ b) ∧ ∀ p ∈ X.pn ++ pins, p.1 ≠ b) : Inv X pins σ H' s' := by
  obtain ⟨h', g', d', t', o'⟩ := s'
  have e : o' = s.os := ho
  subst e
  exact I.call (g' := g') (t' := t') (d' := d') u hok hg hch
end

abbrev XK := Value → Option Addr → Hp → Prop
abbrev St := List (Option V)
abbrev VK := V → Hp → Prop
abbrev TE := St → Hp → VK → Prop
abbrev TT := St → Hp → (Bool → Hp → Prop) → Prop
abbrev TA := St → Hp → (List V → Hp → Prop) → Prop
structure Ends where
  nx : St → Hp → Prop
  rt : VK
  bk : St → Hp → Prop := fun _ _ => False
  ct : St → Hp → Prop := fun _ _ => False
abbrev TS := Ends → St → Hp → Prop

def EP (X : Cx) (pins : List (Addr × Obj)) (σ : St) (Q : VK) (u : Value) (s' : Shared) : Prop := ∃ v H', Inv X pins σ H' s' ∧ RelV v u ∧ Q v H'
def TP (X : Cx) (pins : List (Addr × Obj)) (σ : St) (Q : Bool → Hp → Prop) (b : Bool) (s' : Shared) : Prop := ∃ H', Inv X pins σ H' s' ∧ Q b H'
def AP (X : Cx) (pins : List (Addr × Obj)) (σ : St) (Q : List V → Hp → Prop) (us : List Value) (s' : Shared) : Prop := ∃ vs H', Inv X pins σ H' s' ∧ Vals vs us ∧ Q vs H'
def SP (X : Cx) (pins : List (Addr × Obj)) (D : Ends) (f : Flow) (s' : Shared) : Prop :=
  match f with
  | .next => ∃ σ' H', Inv X pins σ' H' s' ∧ D.nx σ' H'
  | .brk => ∃ σ' H', Inv X pins σ' H' s' ∧ D.bk σ' H'
  | .cont => ∃ σ' H', Inv X pins σ' H' s' ∧ D.ct σ' H'
  | .ret u => ∃ v σ' H', Inv X pins σ' H' s' ∧ RelV v u ∧ D.rt v H'

def PE (X : Cx) (e : Expr) (t : TE) : Prop :=
  ∀ (pins : List (Addr × Obj)) (s : Shared) (σ : St) (H : Hp) (Q : VK), Inv X pins σ H s → t σ H Q → wpAny (model X.prog X.w) X.A (eval e X.env) (EP X pins σ Q) X.xe s
def PT (X : Cx) (e : Expr) (t : TT) : Prop :=
  ∀ (pins : List (Addr × Obj)) (s : Shared) (σ : St) (H : Hp) (Q : Bool → Hp → Prop), Inv X pins σ H s → t σ H Q → wpAny (model X.prog X.w) X.A (isTrue e X.env (eval e X.env)) (TP X pins σ Q) X.xe s
def PW (X : Cx) (e : Expr) (t : TT) : Prop :=
  ∀ (whole : Sem Value) (pins : List (Addr × Obj)) (s : Shared) (σ : St) (H : Hp) (Q : Bool → Hp → Prop), Inv X pins σ H s → t σ H Q → wpAny (model X.prog X.w) X.A (isTrue e X.env whole) (TP X pins σ Q) X.xe s
theorem PW.pt {X : Cx} {e : Expr} {t : TT} (h : PW X e t) : PT X e t := h _
def PA (X : Cx) (es : List Expr) (t : TA) : Prop :=
  ∀ (pos : Pos) (pins : List (Addr × Obj)) (s : Shared) (σ : St) (H : Hp) (Q : List V → Hp → Prop), Inv X pins σ H s → t σ H Q → wpAny (model X.prog X.w) X.A (spliced (backTo pos (starEach es X.env))) (AP X pins σ Q) X.xe s
def PS (X : Cx) (st : Stmt) (t : TS) : Prop :=
  ∀ (pins : List (Addr × Obj)) (s : Shared) (σ : St) (H : Hp) (D : Ends), Inv X pins σ H s → t D σ H → wpAny (model X.prog X.w) X.A (exec st X.env) (SP X pins D) X.xe s
def PSs (X : Cx) (st : List Stmt) (t : TS) : Prop :=
  ∀ (pins : List (Addr × Obj)) (s : Shared) (σ : St) (H : Hp) (D : Ends), Inv X pins σ H s → t D σ H → wpAny (model X.prog X.w) X.A (execs st X.env) (SP X pins D) X.xe s
theorem thn {α : Type} {t : Sem α} {Q Q' : α → Shared → Prop} {M : Model} {A : Around} {E : Value → Shared → Prop} {s : Shared} (h : wpAny M A t Q E s) (hQ : ∀ a s, Q a s → Q' a s) : wpAny M A t Q' E s := wpAny_mono h hQ fun _ _ x => x
end L2

namespace L2
open PySem PySem.Spec PyProof.Rows
section
variable {X : Cx}

def tVar (i : Nat) : TE := fun σ H Q => ∃ v, σ[i]? = some (some v) ∧ Q v H
def tC (v : V) : TE := fun _ H Q => Q v H
theorem pe_var {i : Nat} {x : Str} {pos : Pos} (hN : X.N[i]? = some x) (hv : Vis X.env.scope x) (hd : (x == ("__debug__" : Str)) = false := by decide) (hcd : (x == ("__classdict__" : Str)) = false := by decide) : PE X (.Name x pos) (tVar i) := by
  intro pins s σ H Q I h
  obtain ⟨v, e, h⟩ := h
  obtain ⟨m, hn, hl⟩ := I.loc
  obtain ⟨u, r, l⟩ := hl i x v hN e hv
  have fin : EP X pins σ Q u s := ⟨v, H, I, r, h⟩
  rcases l with ⟨hk, hm⟩ | ⟨hk, c, hc, hcell⟩
  · exact wpAny_Name (wpAny_loadName_local I.ok.kind hk hn hm fin) hd
  · rcases hk with hk | hk
    · exact wpAny_Name (wpAny_loadName_cell I.ok.kind hk hc hcell fin) hd
    · exact wpAny_Name (wpAny_loadName_free I.ok.kind hk hc hcell fin hcd) hd
theorem pe_int {i j pos} : PE X (.Constant (.int i) j pos) (tC (.int i)) := fun _ _ _ H _ I h => wpAny_Constant_int ⟨.int i, H, I.tok _, ⟨_, rfl⟩, h⟩
theorem pe_bl {b j pos} : PE X (.Constant (.bool b) j pos) (tC (.bl b)) := fun _ _ _ H _ I h => Constant_bool ⟨.bl b, H, I, rfl, h⟩
theorem pe_non {j pos} : PE X (.Constant .none j pos) (tC .non) := fun _ _ _ H _ I h => Constant_none ⟨.non, H, I, rfl, h⟩
theorem pe_str {x j pos} : PE X (.Constant (.str x) j pos) (tC (.str x)) := fun _ _ _ H _ I h => Calls.Constant_str ⟨.str x, H, I.tok _, ⟨_, rfl⟩, h⟩

def Gl (X : Cx) (x : Str) : Prop := X.env.kindOf x = some .globalImplicit
theorem ld_glob {E : Value → Shared → Prop} {pins : List (Addr × Obj)} {s : Shared} {σ : St} {H : Hp} {x : Str} {u : Value} {pos : Pos} {Q : Value → Shared → Prop} (I : Inv X pins σ H s) (hg : Gl X x) (hm : X.mg x = some u) (h : Q u s)
    (hd : (x == ("__debug__" : Str)) = false := by decide) : wpAny (model X.prog X.w) X.A (eval (.Name x pos) X.env) Q E s :=
  Calls.Name_function_global I.ok.kind hg (Calls.loadGlobal_global (by rw [I.ok.glob]; exact I.mod.glob.keeps I.bk) hm h) hd
theorem ld_blt {E : Value → Shared → Prop} {pins : List (Addr × Obj)} {s : Shared} {σ : St} {H : Hp} {x : Str} {u : Value} {pos : Pos} {Q : Value → Shared → Prop} (I : Inv X pins σ H s) (hg : Gl X x) (hm : X.mg x = none) (hv : bootBuiltins x = some u) (h : Q u s)
    (hn : x ≠ "__name__" := by decide) (hd : (x == ("__debug__" : Str)) = false := by decide) : wpAny (model X.prog X.w) X.A (eval (.Name x pos) X.env) Q E s := by
  obtain ⟨mb, h1, h2⟩ := I.mod.blt
  exact Calls.Name_function_global I.ok.kind hg (Calls.loadGlobal_builtin (by rw [I.ok.glob]; exact I.mod.glob.keeps I.bk) hm (by rw [I.ok.blt]; exact h1.keeps I.bk) ((h2 x hn).trans hv) h) hd
theorem pe_glob {x : Str} {v : V} {u : Value} {pos : Pos} (hg : Gl X x) (hm : X.mg x = some u) (r : RelV v u) (hd : (x == ("__debug__" : Str)) = false := by decide) : PE X (.Name x pos) (tC v) :=
  fun _ _ _ H _ I h => ld_glob I hg hm ⟨v, H, I, r, h⟩ hd
theorem pe_bltn {x : Str} {v : V} {u : Value} {pos : Pos} (hg : Gl X x) (hm : X.mg x = none) (hv : bootBuiltins x = some u) (r : RelV v u) (hn : x ≠ "__name__" := by decide) (hd : (x == ("__debug__" : Str)) = false := by decide) : PE X (.Name x pos) (tC v) :=
  fun _ _ _ H _ I h => ld_blt I hg hm hv ⟨v, H, I, r, h⟩ hn hd

variable {a b : Expr} {ta tb : TE} {pos : Pos}
def tB (t : TE) : TT := fun σ H Q => t σ H fun x H1 => ∃ c, x = .bl c ∧ Q c H1
theorem pt_val {e : Expr} {t : TE} (h : PE X e t) (he : ∀ whole, isTrue e X.env whole = (do let v ← whole; standAt e.pos; holding [v] (truthy v)) := by intro _; rfl) : PT X e (tB t) := by
  intro pins s σ H Q I hw
  refine isTrue_plain (thn (h pins s σ H _ I hw) fun v s1 ⟨x, H1, I1, r1, q1⟩ => ?_) (he _)
  obtain ⟨d, rfl, q⟩ := q1
  cases r1
  exact wpAny_truthy_bool ⟨H1, I1, q⟩

variable {tA tB' : TT} {rest : List Expr}
def tAnd (t u : TT) : TT := fun σ H Q => t σ H fun c H1 => if c = true then u σ H1 Q else Q false H1
def tOr (t u : TT) : TT := fun σ H Q => t σ H fun c H1 => if c = true then Q true H1 else u σ H1 Q
def tNot (t : TT) : TT := fun σ H Q => t σ H fun c H1 => Q (!c) H1
theorem pw_and1 (ha : PT X a tA) : PW X (.BoolOp .And [a] pos) tA := by
  intro wh pins s σ H Q I h
  refine isTrue_and (thn (ha pins s σ H Q I h) fun c s1 e => ?_)
  cases c with
  | true => exact isTrue_and_nil e
  | false => exact e
theorem pw_or1 (ha : PT X a tA) : PW X (.BoolOp .Or [a] pos) tA := by
  intro wh pins s σ H Q I h
  refine isTrue_or (thn (ha pins s σ H Q I h) fun c s1 e => ?_)
  cases c with
  | false => exact isTrue_or_nil e
  | true => exact e
theorem pw_and (ha : PT X a tA) (hb : PW X (.BoolOp .And (b :: rest) pos) tB') : PW X (.BoolOp .And (a :: b :: rest) pos) (tAnd tA tB') := by
  intro wh pins s σ H Q I h
  refine isTrue_and (thn (ha pins s σ H _ I h) fun c s1 ⟨H1, I1, q1⟩ => ?_)
  cases c with
  | true => exact hb wh pins s1 σ H1 Q I1 q1
  | false => exact ⟨H1, I1, q1⟩
theorem pw_or (ha : PT X a tA) (hb : PW X (.BoolOp .Or (b :: rest) pos) tB') : PW X (.BoolOp .Or (a :: b :: rest) pos) (tOr tA tB') := by
  intro wh pins s σ H Q I h
  refine isTrue_or (thn (ha pins s σ H _ I h) fun c s1 ⟨H1, I1, q1⟩ => ?_)
  cases c with
  | true => exact ⟨H1, I1, q1⟩
  | false => exact hb wh pins s1 σ H1 Q I1 q1
theorem pt_not (ha : PT X a tA) : PT X (.UnaryOp .Not a pos) (tNot tA) := by
  intro pins s σ H Q I h
  exact isTrue_not (ha pins s σ H (fun c H1 => Q (!c) H1) I h)
def tAndV (ta tb : TE) : TE := fun σ H Q => ta σ H fun x H1 => ∃ c, x = .bl c ∧ if c = true then tb σ H1 Q else Q (.bl false) H1
def tNotV (ta : TE) : TE := fun σ H Q => ta σ H fun x H1 => ∃ c, x = .bl c ∧ Q (.bl (!c)) H1
theorem pe_one {op} {t : TE} (h : PE X a t) : PE X (.BoolOp op [a] pos) t := fun pins s σ H Q I hw => BoolOp_one (h pins s σ H Q I hw)
theorem pe_and (ha : PE X a ta) (hb : PE X (.BoolOp .And (b :: rest) pos) tb) : PE X (.BoolOp .And (a :: b :: rest) pos) (tAndV ta tb) := by
  intro pins s σ H Q I h
  refine BoolOp_and (thn (ha pins s σ H _ I h) fun v s1 ⟨x, H1, I1, r1, q1⟩ => ?_)
  obtain ⟨c, rfl, q1⟩ := q1
  cases r1
  refine wpAny_truthy_bool ?_
  cases c with
  | true => exact hb pins s1 σ H1 Q I1 q1
  | false => exact ⟨.bl false, H1, I1, rfl, q1⟩
theorem pe_not (ha : PE X a ta) : PE X (.UnaryOp .Not a pos) (tNotV ta) := by
  intro pins s σ H Q I h
  refine UnaryOp_ (thn (ha pins s σ H _ I h) fun v s1 ⟨x, H1, I1, r1, q1⟩ => ?_)
  obtain ⟨c, rfl, q1⟩ := q1
  cases r1
  exact not_of (wpAny_truthy_bool ⟨.bl (!c), H1, I1, rfl, q1⟩)
end
end L2

namespace L2
open PySem PySem.Spec PyProof.Rows

def SqL (K : PySem.W.Frag) (H : Hp) (a : Addr) (xs : List V) : Prop :=
  Rd H a (.lst xs) ∨
    ∃ (o : Obj) (its : Array Value) (n : Nat), K.lookup a = some o ∧ o.cls = .type "list" ∧ o.dict = none ∧ o.data = .seq its n ∧ its.size ≤ sizeLine ∧ Vals xs its.toList
def SqT (K : PySem.W.Frag) (H : Hp) (a : Addr) (xs : List V) : Prop :=
  Rd H a (.tup xs) ∨
    ∃ (o : Obj) (its : Array Value) (n : Nat), K.lookup a = some o ∧ o.cls = .type "tuple" ∧ o.data = .seq its n ∧ its.size ≤ sizeLine ∧ Vals xs its.toList
def absV : Value → Option V
  | .none => some .non
  | .bool b => some (.bl b)
  | .int i _ => some (.int i)
  | .str x _ => some (.str x)
  | .bytes b _ => some (.byt b)
  | .float b _ => some (.flt b)
  | .ref a => some (.ref a)
  | .type n => some (.ty n)
  | _ => none
theorem RelV.abs {x : V} {u : Value} (r : RelV x u) : absV u = some x := by
  cases x with
  | non => cases r; rfl
  | bl _ => cases r; rfl
  | int _ => obtain ⟨t, rfl⟩ := r; rfl
  | str _ => obtain ⟨t, rfl⟩ := r; rfl
  | byt _ => obtain ⟨t, rfl⟩ := r; rfl
  | flt _ => obtain ⟨t, rfl⟩ := r; rfl
  | ref _ => cases r; rfl
  | ty _ => cases r; rfl
theorem RelV.inj {x y : V} {u : Value} (r : RelV x u) (q : RelV y u) : x = y := Option.some.inj (r.abs.symm.trans q.abs)
theorem Vals.inj : ∀ {xs ys : List V} {us : List Value}, Vals xs us → Vals ys us → xs = ys
  | _, _, _, .nil, .nil => rfl
  | _, _, _, .cons r t, .cons r' t' => by rw [r.inj r', Vals.inj t t']
section
variable {X : Cx} {pins : List (Addr × Obj)} {σ : St} {H : Hp} {s : Shared} {a : Addr} {xs ys : List V}
theorem SqL.of {K : PySem.W.Frag} (h : H a = some (.lst xs)) : SqL K H a xs := .inl (.inl h)
theorem SqT.of {K : PySem.W.Frag} (h : H a = some (.tup xs)) : SqT K H a xs := .inl (.inl h)
theorem Inv.list (I : Inv X pins σ H s) (h : SqL X.K H a xs) : ∃ its : List Value, Vals xs its ∧ PlainL s.heap a its.toArray ∧ xs.length ≤ sizeLine := by
  rcases h with h | ⟨o, its, n, hk, hc, hd, hs, hz, r⟩
  · obtain ⟨z, its, n, r, e⟩ := h.ok I.hok
    exact ⟨its, r, ⟨_, n, e, rfl, rfl, rfl⟩, z⟩
  · refine ⟨its.toList, r, ⟨o, n, I.kIn a o hk, hc, hd, by simpa using hs⟩, ?_⟩
    have e := r.length
    simp only [Array.length_toList] at e
    omega
theorem Inv.tuple (I : Inv X pins σ H s) (h : SqT X.K H a xs) : ∃ its : List Value, Vals xs its ∧ IsTup s.heap a its.toArray ∧ xs.length ≤ sizeLine := by
  rcases h with h | ⟨o, its, n, hk, hc, hs, hz, r⟩
  · obtain ⟨z, its, r, p⟩ := h.ok I.hok
    exact ⟨its, r, p, z⟩
  · refine ⟨its.toList, r, ⟨o, I.kIn a o hk, hc, n, by simpa using hs⟩, ?_⟩
    have e := r.length
    simp only [Array.length_toList] at e
    omega
theorem Inv.list_inj (I : Inv X pins σ H s) (h : SqL X.K H a xs) (h' : SqL X.K H a ys) : xs = ys := by
  obtain ⟨its, r, ⟨o, n, e, _, _, d⟩, _⟩ := I.list h
  obtain ⟨its', r', ⟨o', n', e', _, _, d'⟩, _⟩ := I.list h'
  rw [e] at e'; cases e'
  rw [d] at d'
  injection d' with d1 _
  have : its = its' := by simpa using congrArg Array.toList d1
  subst this
  exact r.inj r'
theorem Inv.tuple_inj (I : Inv X pins σ H s) (h : SqT X.K H a xs) (h' : SqT X.K H a ys) : xs = ys := by
  obtain ⟨its, r, ⟨o, e, _, n, d⟩, _⟩ := I.tuple h
  obtain ⟨its', r', ⟨o', e', _, n', d'⟩, _⟩ := I.tuple h'
  rw [e] at e'; cases e'
  rw [d] at d'
  injection d' with d1 _
  have : its = its' := by simpa using congrArg Array.toList d1
  subst this
  exact r.inj r'
end

abbrev Cx.wish (X : Cx) (E : Value → Shared → Prop) : Cx := { X with xe := E }
abbrev Cx.nox (X : Cx) : Cx := X.wish fun _ _ => False
theorem Cx.Ok.wish {X : Cx} (ok : X.Ok) (E : Value → Shared → Prop) : (X.wish E).Ok :=
  ⟨ok.mod, ok.kind, ok.glob, ok.blt, ok.above, ok.inj, ok.has, ok.cab, ok.hd, ok.frames, ok.stk, ok.exf, ok.bs, ok.bsz, ok.noex, ok.exfs, ok.funs, ok.frf⟩
theorem Cx.Ok.unwish {X : Cx} {E : Value → Shared → Prop} (ok : (X.wish E).Ok) : X.Ok :=
  ⟨ok.mod, ok.kind, ok.glob, ok.blt, ok.above, ok.inj, ok.has, ok.cab, ok.hd, ok.frames, ok.stk, ok.exf, ok.bs, ok.bsz, ok.noex, ok.exfs, ok.funs, ok.frf⟩
section
variable {X : Cx} {pins : List (Addr × Obj)} {σ : St} {H : Hp} {s : Shared} {E : Value → Shared → Prop}
theorem Inv.wish (I : Inv X pins σ H s) (E : Value → Shared → Prop) : Inv (X.wish E) pins σ H s := ⟨I.ok.wish E, I.os, I.bare, I.base, I.loc, I.cell, I.free, I.freeC, I.pin, I.hok, I.len⟩
theorem Inv.unwish (I : Inv (X.wish E) pins σ H s) : Inv X pins σ H s := ⟨I.ok.unwish, I.os, I.bare, I.base, I.loc, I.cell, I.free, I.freeC, I.pin, I.hok, I.len⟩
theorem SP.unwish {D : Ends} {f : Flow} {s' : Shared} (h : SP (X.wish E) pins D f s') : SP X pins D f s' := by
  cases f with
  | next => obtain ⟨σ', H', I, q⟩ := h; exact ⟨σ', H', I.unwish, q⟩
  | brk => obtain ⟨σ', H', I, q⟩ := h; exact ⟨σ', H', I.unwish, q⟩
  | cont => obtain ⟨σ', H', I, q⟩ := h; exact ⟨σ', H', I.unwish, q⟩
  | ret u => obtain ⟨v, σ', H', I, r, q⟩ := h; exact ⟨v, σ', H', I.unwish, r, q⟩
theorem PE.nox {e : Expr} {t : TE} (h : PE X.nox e t) : PE X e t := fun pins s σ H Q I hw =>
  wpAny_mono (h pins s σ H Q (I.wish _) hw) (fun _ _ ⟨v, H', I', r, q⟩ => ⟨v, H', I'.unwish, r, q⟩) fun _ _ z => False.elim z
theorem PT.nox {e : Expr} {t : TT} (h : PT X.nox e t) : PT X e t := fun pins s σ H Q I hw =>
  wpAny_mono (h pins s σ H Q (I.wish _) hw) (fun _ _ ⟨H', I', q⟩ => ⟨H', I'.unwish, q⟩) fun _ _ z => False.elim z
theorem PSs.nox {st : List Stmt} {t : TS} (h : PSs X.nox st t) : PSs X st t := fun pins s σ H D I hw =>
  wpAny_mono (h pins s σ H D (I.wish _) hw) (fun _ _ q => q.unwish) fun _ _ z => False.elim z
end

section
variable {X : Cx} {st : Stmt} {rest : List Stmt} {t u : TS} {e : Expr} {te : TE} {pos : Pos}
def tNext : TS := fun D σ H => D.nx σ H
def tSeq (t u : TS) : TS := fun D σ H => t { D with nx := u D } σ H
theorem pss_nil : PSs X [] tNext := fun _ _ σ H _ I h => wpAny_execs_nil ⟨σ, H, I, h⟩
theorem pss_cons (h1 : PS X st t) (h2 : PSs X rest u) : PSs X (st :: rest) (tSeq t u) := by
  intro pins s σ H D I h
  refine wpAny_execs_cons (thn (h1 pins s σ H { D with nx := u D } I h) fun f s1 q => ?_)
  cases f with
  | next =>
    obtain ⟨σ', H', I', q⟩ := q
    exact h2 pins s1 σ' H' D I' q
  | ret v => exact q
  | brk => exact q
  | cont => exact q
theorem pss_one (h1 : PS X st t) : PSs X [st] t := by
  intro pins s σ H D I h
  refine wpAny_execs_cons (thn (h1 pins s σ H D I h) fun f s1 q => ?_)
  cases f with
  | next => exact wpAny_execs_nil q
  | ret v => exact q
  | brk => exact q
  | cont => exact q
theorem Inv.quiet {pins : List (Addr × Obj)} {σ : St} {H : Hp} {s : Shared} (I : Inv X pins σ H s) : interactive X.env = false := by simp [interactive, I.ok.kind]
def tDrop (te : TE) : TS := fun D σ H => te σ H fun _ H1 => D.nx σ H1
theorem ps_expr (he : PE X e te) (hs : swapsWith e none pos.line X.env = pure false := by rfl) : PS X (.Expr e pos) (tDrop te) := by
  intro pins s σ H D I h
  exact wpAny_Expr_any (thn (he pins s σ H _ I h) fun v s1 ⟨x, H1, I1, r1, q1⟩ => ⟨σ, H1, I1, q1⟩) I.quiet hs
def tRet (te : TE) : TS := fun D σ H => te σ H D.rt
theorem ps_ret (he : PE X e te) : PS X (.Return (some e) pos) (tRet te) := by
  intro pins s σ H D I h
  exact wpAny_Return_some (thn (he pins s σ H _ I h) fun v s1 ⟨x, H1, I1, r1, q1⟩ => ⟨x, σ, H1, I1, r1, q1⟩)
def tIfS (c : TT) (t u : TS) : TS := fun D σ H => c σ H fun b H1 => if b = true then t D σ H1 else u D σ H1
theorem ps_if {c : Expr} {a b : List Stmt} {tc : TT} (hc : PT X c tc) (ha : PSs X a t) (hb : PSs X b u) : PS X (.If c a b pos) (tIfS tc t u) := by
  intro pins s σ H D I h
  refine wpAny_If (thn (hc pins s σ H _ I h) fun d s1 ⟨H1, I1, q1⟩ => ?_)
  cases d with
  | true => exact ha pins s1 σ H1 D I1 q1
  | false => exact hb pins s1 σ H1 D I1 q1
end

abbrev TG := V → St → Hp → (St → Hp → Prop) → Prop
def PG (X : Cx) (target : Expr) (t : TG) : Prop :=
  ∀ (pins : List (Addr × Obj)) (s : Shared) (σ : St) (H : Hp) (v : V) (u : Value) (Q : St → Hp → Prop), Inv X pins σ H s → RelV v u → t v σ H Q →
    wpAny (model X.prog X.w) X.A (assign target X.env u) (fun _ s' => ∃ σ' H', Inv X pins σ' H' s' ∧ Q σ' H') X.xe s
abbrev TSet := V → V → V → Hp → (Hp → Prop) → Prop
def PSet (X : Cx) (t : TSet) : Prop :=
  ∀ (pins : List (Addr × Obj)) (s : Shared) (σ : St) (H : Hp) (o i v : V) (ov iv u : Value) (Q : Hp → Prop), Inv X pins σ H s → RelV o ov → RelV i iv → RelV v u → t o i v H Q →
    wpAny (model X.prog X.w) X.A (setItem ov iv u) (fun _ s' => ∃ H', Inv X pins σ H' s' ∧ Q H') X.xe s
section
variable {X : Cx} {pos : Pos}
def gName (i : Nat) : TG := fun v σ H Q => Q (σ.set i (some v)) H
theorem pg_name {i : Nat} {x : Str} (hN : X.N.Nodup) (hi : X.N[i]? = some x) (hx : Loc X.env.scope x) (hf : X.fn x = true ∨ X.env.scope.names.lookup x = some .local := by first | exact .inl rfl | exact .inr rfl | assumption) : PG X (.Name x pos) (gName i) := by
  intro pins s σ H v u Q I r h
  exact wpAny_assign_Name (store_ok I hN hi hx r (fun s' I' => ⟨_, H, I', h⟩) hf)
def gSub (to ti : TE) (t : TSet) : TG := fun v σ H Q => to σ H fun o H1 => ti σ H1 fun i H2 => t o i v H2 fun H3 => Q σ H3
theorem pg_sub {o i : Expr} {to ti : TE} {t : TSet} (ho : PE X o to) (hi : PE X i ti) (hs : PSet X t)
    (ha : ∀ v, assign (.Subscript o i pos) X.env v = (do
      let ov ← holding [v] (eval o X.env)
      let iv ← holding [v, ov] (eval i X.env)
      standAt pos
      holding [v, ov, iv] (setItem ov iv v)
      release [v, ov, iv] []) := by intro _; rfl) : PG X (.Subscript o i pos) (gSub to ti t) := by
  intro pins s σ H v u Q I r h
  rw [ha]
  refine wpAny_bind (wpAny_holding (thn (ho pins s σ H _ I h) fun ov s1 ⟨x, H1, I1, r1, q1⟩ => ?_))
  refine wpAny_bind (wpAny_holding (thn (hi pins s1 σ H1 _ I1 q1) fun iv s2 ⟨y, H2, I2, r2, q2⟩ => ?_))
  refine wpAny_bind (wpAny_standAt (wpAny_bind (wpAny_holding (thn (hs pins s2 σ H2 x y v ov iv u _ I2 r1 r2 r q2) fun _ s3 ⟨H3, I3, q3⟩ => ?_))))
  exact wpAny_release ⟨σ, H3, I3, q3⟩
def tAsg (te : TE) (g : TG) : TS := fun D σ H => te σ H fun x H1 => g x σ H1 D.nx
theorem ps_asg {tg e : Expr} {te : TE} {g : TG} (he : PE X e te) (hg : PG X tg g) (hs : swapsWithSole [tg] e pos.line X.env = pure false := by rfl) (hw : swappedStores [tg] e X.env = pure none := by rfl)
    (h1 : (assignEach [tg] X.env).map (·.2) = [assign tg X.env] := by rfl) : PS X (.Assign [tg] e pos) (tAsg te g) := by
  intro pins s σ H D I h
  refine wpAny_Assign_stores (thn (he pins s σ H _ I h) fun v s1 ⟨x, H1, I1, r1, q1⟩ => ?_) hs hw
  rw [h1]
  exact thn (hg pins s1 σ H1 x v _ I1 r1 q1) fun _ s2 q => q
theorem ps_set {i : Nat} {x : Str} {e : Expr} {te : TE} {pos' : Pos} (hN : X.N.Nodup) (hi : X.N[i]? = some x) (hx : Loc X.env.scope x) (he : PE X e te) (hs : swapsWith e (some (.Name x pos')) pos.line X.env = pure false := by rfl) (hf : X.fn x = true ∨ X.env.scope.names.lookup x = some .local := by first | exact .inl rfl | exact .inr rfl | assumption) :
    PS X (.Assign [.Name x pos'] e pos) (tAsg te (gName i)) := by
  intro pins s σ H D I h
  refine wpAny_Assign_Name (thn (he pins s σ H _ I h) fun v s1 ⟨y, H1, I1, r1, q1⟩ => ?_) hs
  exact store_ok I1 hN hi hx r1 (fun s2 I2 => ⟨_, H1, I2, q1⟩) hf
end

section
variable {X : Cx} {pos : Pos}
end

structure It where
  go : Nat → Hp → Prop
  yld : Nat → Hp → V → Hp → Prop
  stop : Nat → Hp → Prop
def FpOk (X : Cx) (pins : List (Addr × Obj)) (H : Hp) (b : Addr) : Prop :=
  H b = none ∧ b ≠ X.env.locals ∧ b ∉ X.fs ∧ (b ∈ X.ex ∨ X.s₀.heap.objs.size ≤ b) ∧ (∀ x c, X.env.cells.lookup x = some c → c ≠ b) ∧ ∀ p ∈ X.pn ++ pins, p.1 ≠ b
theorem Inv.fpOk {X : Cx} {pins : List (Addr × Obj)} {σ : St} {H H' : Hp} {s : Shared} {b : Addr} (I : Inv X pins σ H s) (hb : s.heap.objs.size ≤ b) (hn : H' b = none) : FpOk X pins H' b := by
  refine ⟨hn, Nat.ne_of_gt (Nat.lt_of_lt_of_le I.lt hb), I.nofs hb, .inr (Nat.le_trans I.sz hb), fun x c e z => ?_, fun p hp z => ?_⟩
  · obtain ⟨v, q⟩ := I.cell x c e
    exact absurd (Nat.lt_of_lt_of_le q.lt (by rw [z]; exact hb)) (Nat.lt_irrefl _)
  · exact absurd (Nat.lt_of_lt_of_le (Heap.lt_size (I.pin p hp).1) (by rw [z]; exact hb)) (Nat.lt_irrefl _)
structure Turn (P : Program) (w : World) (K : PySem.W.Frag) (tg : Expr) (J : It) (fp : List Addr) (it : Addr) (tn : Nat → Heap → Prop) : Prop where
  mem : it ∈ fp
  obj : ∀ i h, tn i h → ∀ b ∈ fp, ∃ o, h.get? b = some o ∧ ∀ v, o.data ≠ .cell v
  keep : ∀ i h h', tn i h → (∀ b ∈ fp, ∀ o, h.get? b = some o → h'.get? b = some o) → tn i h'
  item : ∀ (X : Cx), X.prog = P → X.w = w → X.K = K → X.calm = true → ∀ (i : Nat) (pins : List (Addr × Obj)) (s : Shared) (σ : St) (H : Hp) (E : Value → Shared → Prop), Inv X pins σ H s → (∀ b ∈ fp, FpOk X pins H b) → tn i s.heap → J.go i H →
    wpAny (model P w) X.A (pyNext (.ref it)) (fun r s1 => ∃ u, r = some u ∧
      wpAny (model P w) X.A (letOwnedTupleGo tg (.ref it) u) (fun _ s2 => ∃ x H', Inv X pins σ H' s2 ∧ RelV x u ∧ J.yld i H x H' ∧ tn (i + 1) s2.heap ∧ ∀ b ∈ fp, H' b = none) E s1) E s
  done : ∀ (X : Cx), X.prog = P → X.w = w → X.K = K → X.calm = true → ∀ (i : Nat) (pins : List (Addr × Obj)) (s : Shared) (σ : St) (H : Hp) (E : Value → Shared → Prop), Inv X pins σ H s → (∀ b ∈ fp, FpOk X pins H b) → tn i s.heap → J.stop i H →
    wpAny (model P w) X.A (pyNext (.ref it)) (fun r s1 => r = none ∧ Inv X pins σ H s1) E s
  self : ∀ (A : Around) (i : Nat) (s : Shared) (Q : Value → Shared → Prop) (E : Value → Shared → Prop), tn i s.heap → Q (.ref it) s → wpAny (model P w) A (pyIter (.ref it)) Q E s
abbrev TI := St → Hp → (It → Hp → Prop) → Prop
def PIE (X : Cx) (pins : List (Addr × Obj)) (σ : St) (tg : Expr) (R : It → Hp → Prop) (itv : Value) (s2 : Shared) : Prop :=
  ∃ (it : Addr) (fp : List Addr) (tn : Nat → Heap → Prop) (J : It) (H' : Hp), itv = .ref it ∧ Inv X pins σ H' s2 ∧ Turn X.prog X.w X.K tg J fp it tn ∧ tn 0 s2.heap ∧ (∀ b ∈ fp, FpOk X pins H' b) ∧ R J H'
def PI (X : Cx) (tg iter : Expr) (wi : TI) : Prop :=
  ∀ (pins : List (Addr × Obj)) (s : Shared) (σ : St) (H : Hp) (R : It → Hp → Prop), Inv X pins σ H s → wi σ H R →
    wpAny (model X.prog X.w) X.A (eval iter X.env) (fun v s1 => wpAny (model X.prog X.w) X.A (pyIter v) (PIE X pins σ tg R) X.xe s1) X.xe s

theorem go_of {M : Model} {A : Around} {E : Value → Shared → Prop} {s : Shared} {tg : Expr} {it : Addr} {u : Value} {o : Obj} {n : String} {vs : Array Value} {Q : Unit → Shared → Prop} (ho : s.heap.get? it = some o) (hc : o.cls = .type n) (hd : o.data = .fields vs)
    (hn : ["enumerate", "zip", "dict_itemiterator", "dict_reverseitemiterator", "odict_iterator", "itertools.zip_longest", "itertools.pairwise"].contains n = false) (hQ : Q () s) : wpAny M A (letOwnedTupleGo tg (.ref it) u) Q E s := by
  unfold letOwnedTupleGo
  cases tg <;> first
    | exact wpAny_pure hQ
    | (cases u <;> first
        | exact wpAny_pure hQ
        | (refine wpAny_bind (wpAny_load ho ?_)
           rw [hc, hd]
           show wpAny M A (if (["enumerate", "zip", "dict_itemiterator", "dict_reverseitemiterator", "odict_iterator", "itertools.zip_longest", "itertools.pairwise"].contains n && vs[0]? == some (rawInt _)) = true then _ else _) Q E s
           rw [if_neg (by intro h; rw [hn, Bool.false_and] at h; cases h)]
           exact wpAny_pure hQ))

def Itl (K : PySem.W.Frag) (a : Addr) : It :=
  ⟨fun i H => ∃ xs x, SqL K H a xs ∧ xs[i]? = some x, fun i H x H' => H' = H ∧ ∀ xs, SqL K H a xs → xs[i]? = some x, fun i H => ∃ xs, SqL K H a xs ∧ xs.length ≤ i⟩
def Itt (K : PySem.W.Frag) (a : Addr) : It :=
  ⟨fun i H => ∃ xs x, SqT K H a xs ∧ xs[i]? = some x, fun i H x H' => H' = H ∧ ∀ xs, SqT K H a xs → xs[i]? = some x, fun i H => ∃ xs, SqT K H a xs ∧ xs.length ≤ i⟩
def Itr (lo : Int) (n : Nat) : It := ⟨fun i _ => i < n, fun i H x H' => H' = H ∧ x = .int (lo + i), fun i _ => n ≤ i⟩
theorem turn_list {P : Program} {w : World} {K : PySem.W.Frag} {tg : Expr} (a it : Addr) : Turn P w K tg (Itl K a) [it] it (fun i h => h.IsListIter it a i) where
  mem := by simp
  obj := fun i h st b hb => by
    have e : b = it := by simpa using hb
    subst e
    obtain ⟨o, e, c, d⟩ := st
    exact ⟨o, e, fun v z => by rw [d] at z; cases z⟩
  keep := fun i h h' st k => st.at fun o e => k it (by simp) o e
  item := by
    intro X hP hw hK hc i pins s σ H E I hf st hg
    subst hP hw hK
    obtain ⟨xs, x, hq, hx⟩ := hg
    obtain ⟨its, rv, p, hz⟩ := I.list hq
    obtain ⟨u, hu, ru⟩ := rv.get hx
    obtain ⟨f0, f1, f2, f3, f4, f5⟩ := hf it (by simp)
    refine wpAny_pyNext_list_item st p.isList (x := u) (by simpa using hu) fun h' st' sb => ?_
    have I1 : Inv X pins σ H { s with heap := h' } := I.turned (t' := s.toks) (fun b o hb e => (sb.2 b hb).trans e) f0 f1 f3 f4 f5
    obtain ⟨o, e, c, d⟩ := id st'
    exact ⟨u, rfl, go_of (s := { s with heap := h' }) e c d (by decide) ⟨x, H, I1, ru, ⟨rfl, fun ys hy => by rw [I.list_inj hy hq]; exact hx⟩, st', fun b hb => (hf b hb).1⟩⟩
  done := by
    intro X hP hw hK hc i pins s σ H E I hf st hg
    subst hP hw hK
    obtain ⟨xs, hq, hx⟩ := hg
    obtain ⟨its, rv, p, hz⟩ := I.list hq
    obtain ⟨f0, f1, f2, f3, f4, f5⟩ := hf it (by simp)
    have hl := rv.length
    exact wpAny_pyNext_list_end (I.ok.hd hc) st p.isList (by simp; omega) fun h' eb => ⟨rfl, I.turned (t' := s.toks) (fun b o hb e => eb b o hb e) f0 f1 f3 f4 f5⟩
  self := fun _ _ _ _ _ st h => wpAny_pyIter_listiter st h
theorem turn_tuple {P : Program} {w : World} {K : PySem.W.Frag} {tg : Expr} (a it : Addr) : Turn P w K tg (Itt K a) [it] it (fun i h => h.IsTupleIter it a i) where
  mem := by simp
  obj := fun i h st b hb => by
    have e : b = it := by simpa using hb
    subst e
    obtain ⟨o, e, c, d⟩ := st
    exact ⟨o, e, fun v z => by rw [d] at z; cases z⟩
  keep := fun i h h' st k => st.at fun o e => k it (by simp) o e
  item := by
    intro X hP hw hK hc i pins s σ H E I hf st hg
    subst hP hw hK
    obtain ⟨xs, x, hq, hx⟩ := hg
    obtain ⟨its, rv, p, hz⟩ := I.tuple hq
    obtain ⟨u, hu, ru⟩ := rv.get hx
    obtain ⟨f0, f1, f2, f3, f4, f5⟩ := hf it (by simp)
    refine wpAny_pyNext_tuple_item st (show s.heap.IsTuple a its.toArray from p) (x := u) (by simpa using hu) fun h' st' sb => ?_
    have I1 : Inv X pins σ H { s with heap := h' } := I.turned (t' := s.toks) (fun b o hb e => (sb.2 b hb).trans e) f0 f1 f3 f4 f5
    obtain ⟨o, e, c, d⟩ := id st'
    exact ⟨u, rfl, go_of (s := { s with heap := h' }) e c d (by decide) ⟨x, H, I1, ru, ⟨rfl, fun ys hy => by rw [I.tuple_inj hy hq]; exact hx⟩, st', fun b hb => (hf b hb).1⟩⟩
  done := by
    intro X hP hw hK hc i pins s σ H E I hf st hg
    subst hP hw hK
    obtain ⟨xs, hq, hx⟩ := hg
    obtain ⟨its, rv, p, hz⟩ := I.tuple hq
    obtain ⟨f0, f1, f2, f3, f4, f5⟩ := hf it (by simp)
    have hl := rv.length
    exact wpAny_pyNext_tuple_end (I.ok.hd hc) st (show s.heap.IsTuple a its.toArray from p) (by simp; omega) fun h' eb => ⟨rfl, I.turned (t' := s.toks) (fun b o hb e => eb b o hb e) f0 f1 f3 f4 f5⟩
  self := fun _ _ _ _ _ st h => wpAny_pyIter_tupleiter st h
theorem turn_range {P : Program} {w : World} {K : PySem.W.Frag} {tg : Expr} (it : Addr) (lo : Int) (n : Nat) : Turn P w K tg (Itr lo n) [it] it (fun i h => IsRangeIter h it (lo + (i : Nat) * 1) ((n : Int) - (i : Nat)) 1) where
  mem := by simp
  obj := fun i h st b hb => by
    have e : b = it := by simpa using hb
    subst e
    exact ⟨_, st, fun v z => by
      have z' : Data.fields _ = Data.cell v := z
      cases z'⟩
  keep := fun i h h' st k => k it (by simp) _ st
  item := by
    intro X hP hw hK hc i pins s σ H E I hf st hg
    subst hP hw hK
    obtain ⟨f0, f1, f2, f3, f4, f5⟩ := hf it (by simp)
    have W := Walks.range (prog := X.prog) (w := X.w) (I.ok.hd hc) it lo 1 n
    refine W.item i s _ _ hg st fun v h' tk hv st' kk => ?_
    obtain ⟨t, rfl⟩ := hv
    have I1 : Inv X pins σ H { s with heap := h', toks := tk } := I.turned (fun b o hb e => kk b o (by simpa using hb) e) f0 f1 f3 f4 f5
    refine ⟨_, rfl, go_of (s := { s with heap := h', toks := tk }) (n := "range_iterator") st' rfl rfl (by decide) ⟨.int (lo + i), H, I1, ⟨t, ?_⟩, ⟨rfl, rfl⟩, st', fun b hb => (hf b hb).1⟩⟩
    rw [Int.mul_one]
  done := by
    intro X hP hw hK hc i pins s σ H E I hf st hg
    subst hP hw hK
    obtain ⟨f0, f1, f2, f3, f4, f5⟩ := hf it (by simp)
    exact wpAny_pyNext_range_end (I.ok.hd hc) st (by have : n ≤ i := hg; omega) fun h' eb => ⟨rfl, I.turned (t' := s.toks) (fun b o hb e => eb b o hb e) f0 f1 f3 f4 f5⟩
  self := fun _ _ _ _ _ st h => wpAny_pyIter_rangeiter st h
end L2

namespace L2
open PySem PySem.Spec PyProof.Rows
section
variable {X : Cx} {tg : Expr}
def iList (K : PySem.W.Frag) (tl : TE) : TI := fun σ H R => tl σ H fun x H1 => ∃ a, x = .ref a ∧ (∃ xs, SqL K H1 a xs) ∧ R (Itl K a) H1
def iTup (K : PySem.W.Frag) (tl : TE) : TI := fun σ H R => tl σ H fun x H1 => ∃ a, x = .ref a ∧ (∃ xs, SqT K H1 a xs) ∧ R (Itt K a) H1
theorem pi_list {l : Expr} {tl : TE} (hl : PE X l tl) : PI X tg l (iList X.K tl) := by
  intro pins s σ H R I h
  refine thn (hl pins s σ H _ I h) fun v s1 ⟨x, H1, I1, r1, q1⟩ => ?_
  obtain ⟨a, e, ⟨xs, hq⟩, q⟩ := q1
  subst e
  cases r1
  obtain ⟨its, rv, p, hz⟩ := I1.list hq
  refine wpAny_pyIter_list p.isList ?_
  refine ⟨s1.heap.objs.size, [s1.heap.objs.size], _, _, H1, rfl, I1.kept (t' := s1.toks) fun b o e => Heap.get?_push_of_some _ e, turn_list a _, ⟨_, Heap.get?_push_size _ rfl, rfl, rfl⟩, fun b hb => ?_, q⟩
  have e : b = s1.heap.objs.size := by simpa using hb
  subst e
  exact I1.fpOk (Nat.le_refl _) (I1.hok.fresh (Nat.le_refl _))
theorem pi_tup {l : Expr} {tl : TE} (hl : PE X l tl) : PI X tg l (iTup X.K tl) := by
  intro pins s σ H R I h
  refine thn (hl pins s σ H _ I h) fun v s1 ⟨x, H1, I1, r1, q1⟩ => ?_
  obtain ⟨a, e, ⟨xs, hq⟩, q⟩ := q1
  subst e
  cases r1
  obtain ⟨its, rv, p, hz⟩ := I1.tuple hq
  refine wpAny_pyIter_tuple (show s1.heap.IsTuple a its.toArray from p) ?_
  refine ⟨s1.heap.objs.size, [s1.heap.objs.size], _, _, H1, rfl, I1.kept (t' := s1.toks) fun b o e => Heap.get?_push_of_some _ e, turn_tuple a _, ⟨_, Heap.get?_push_size _ rfl, rfl, rfl⟩, fun b hb => ?_, q⟩
  have e : b = s1.heap.objs.size := by simpa using hb
  subst e
  exact I1.fpOk (Nat.le_refl _) (I1.hok.fresh (Nat.le_refl _))
theorem range_it {pins : List (Addr × Obj)} {σ : St} {H : Hp} {s : Shared} {R : It → Hp → Prop} {E : Value → Shared → Prop} {lo hi : Int} {t u v : Tok} {tk : Nat} (I : Inv X pins σ H s) (h1 : -(2 ^ 62) ≤ lo) (h2 : lo < 2 ^ 62) (h3 : -(2 ^ 62) ≤ hi) (h4 : hi < 2 ^ 62)
    (q : R (Itr lo (hi - lo).toNat) H) : wpAny (model X.prog X.w) X.A (pyIter (.ref s.heap.objs.size)) (PIE X pins σ tg R) E { s with heap := s.heap.push { cls := .type "range", data := .fields #[.int lo t, .int hi u, .int 1 v] }, toks := tk } := by
  refine wpAny_pyIter_range (IsRange.new ..) (small_one h1 h2 h3 h4) ?_
  have I1 : Inv X pins σ H { s with heap := s.heap.push { cls := .type "range", data := .fields #[.int lo t, .int hi u, .int 1 v] }, toks := tk } := I.kept fun b o e => Heap.get?_push_of_some _ e
  refine ⟨(s.heap.push { cls := .type "range", data := .fields #[.int lo t, .int hi u, .int 1 v] }).objs.size, [(s.heap.push { cls := .type "range", data := .fields #[.int lo t, .int hi u, .int 1 v] }).objs.size], _, _, H, rfl,
    I1.kept (t' := tk) fun b o e => Heap.get?_push_of_some _ e, turn_range _ lo (hi - lo).toNat, ?_, fun b hb => ?_, q⟩
  · have e1 : lo + ((0 : Nat) : Int) * 1 = lo := by simp
    have e2 : (((hi - lo).toNat : Nat) : Int) - ((0 : Nat) : Int) = Builtin.Range.rangeSize lo hi 1 := by rw [rangeSize_one]; split <;> omega
    show IsRangeIter _ _ (lo + ((0 : Nat) : Int) * 1) ((((hi - lo).toNat : Nat) : Int) - ((0 : Nat) : Int)) 1
    rw [e1, e2]
    exact Heap.get?_push_size _ rfl
  · have e : b = (s.heap.push { cls := .type "range", data := .fields #[.int lo t, .int hi u, .int 1 v] }).objs.size := by simpa using hb
    subst e
    exact I1.fpOk (Nat.le_refl _) (I1.hok.fresh (Nat.le_refl _))
def iRng1 (ta : TA) : TI := fun σ H R => ta σ H fun vs H1 => ∃ j : Int, vs = [.int j] ∧ -(2 ^ 62) ≤ j ∧ j < 2 ^ 62 ∧ R (Itr 0 j.toNat) H1
theorem pi_range1 {a : Expr} {ta : TA} {p pos : Pos} (hg : Gl X "range") (hm : X.mg "range" = none) (ha : PA X [a] ta) (hs : starEach [a] X.env = [(false, eval a X.env)] := by rfl) : PI X tg (.Call (.Name "range" p) [a] [] pos) (iRng1 ta) := by
  intro pins s σ H R I h
  refine Call_ (ld_blt I hg hm boot_range (PyProof.Rows.callWith_type1 (thn (ha pos pins s σ H _ I h) fun us s1 ⟨vs, H1, I1, r1, q1⟩ => ?_) hs rfl))
  obtain ⟨j, e, q1, q2, q⟩ := q1
  subst e
  cases r1 with
  | cons r rr =>
    cases rr
    obtain ⟨t, rfl⟩ := r
    exact call_range_1 (range_it I1 (by omega) (by omega) q1 q2 (by simpa using q))
def tFor (wi : TI) (g : TG) (tb : TS) : TS := fun D σ H => wi σ H fun J H1 => ∃ W : Nat → Nat → St → Hp → Prop, (∃ m, W 0 m σ H1) ∧ ∀ i m σ H, W i m σ H →
  (J.stop i H ∧ D.nx σ H) ∨ (J.go i H ∧ ∃ N : St → Hp → Prop, (∀ σ' H', N σ' H' → ∃ m', m' < m ∧ W (i + 1) m' σ' H') ∧ ∀ x H', J.yld i H x H' → g x σ H' fun σ2 H2 => tb { D with nx := N, ct := N, bk := D.nx } σ2 H2)
def pinsAt (fp : List Addr) (h : Heap) : List (Addr × Obj) := fp.filterMap fun b => (h.get? b).map fun o => (b, o)
theorem mem_pinsAt {fp : List Addr} {h : Heap} {b : Addr} {o : Obj} (hb : b ∈ fp) (e : h.get? b = some o) : (b, o) ∈ pinsAt fp h := List.mem_filterMap.mpr ⟨b, hb, by rw [e]; rfl⟩
theorem of_pinsAt {fp : List Addr} {h : Heap} {p : Addr × Obj} (hp : p ∈ pinsAt fp h) : p.1 ∈ fp ∧ h.get? p.1 = some p.2 := by
  obtain ⟨b, hb, e⟩ := List.mem_filterMap.mp hp
  cases q : h.get? b with
  | none => rw [q] at e; cases e
  | some o =>
    rw [q] at e
    have e' : (b, o) = p := Option.some.inj e
    subst e'
    exact ⟨hb, q⟩
theorem Inv.pinned {pins : List (Addr × Obj)} {σ : St} {H : Hp} {s : Shared} {fp : List Addr} (I : Inv X pins σ H s) (hf : ∀ b ∈ fp, FpOk X pins H b) (ho : ∀ b ∈ fp, ∃ o, s.heap.get? b = some o ∧ ∀ v, o.data ≠ .cell v) : Inv X (pins ++ pinsAt fp s.heap) σ H s :=
  I.pins_of fun p hp => (List.mem_append.mp hp).elim (fun z => I.pin p (List.mem_append_right _ z)) fun z => by
    obtain ⟨hb, e⟩ := of_pinsAt z
    obtain ⟨f0, f1, f2, _⟩ := hf p.1 hb
    obtain ⟨o, e', d⟩ := ho p.1 hb
    rw [e] at e'; cases e'
    exact ⟨e, f0, f1, f2, d⟩
theorem Inv.unpinned {pins pl : List (Addr × Obj)} {σ : St} {H : Hp} {s : Shared} (I : Inv X (pins ++ pl) σ H s) : Inv X pins σ H s := I.pins_of fun p hp => I.pin p (List.mem_append_right _ (List.mem_append_left _ hp))
theorem ps_for {iter : Expr} {body : List Stmt} {wi : TI} {g : TG} {tb : TS} {pos : Pos} (hp : PassesOwn (model X.prog X.w) X.A X.env X.xe) (hc : X.calm = true) (hi : PI X tg iter wi) (hg : PG X tg g) (hb : PSs X body tb)
    (hs : ∀ x, foldedSetIterable iter X.env x = pure x := by intro _; rfl) : PS X (.For tg iter body [] pos) (tFor wi g tb) := by
  intro pins s σ H D I h
  refine wpAny_For (thn (hi pins s σ H _ I h) fun v s1 h1 => thn h1 fun itv s2 h2 => ?_) hs
  obtain ⟨it, fp, tn, J, H2, e, I2, T, st2, f2, W, ⟨m0, w0⟩, turn⟩ := h2
  subst e
  -- what stays true of the iterator's objects through the loop
  have stat : ∀ {H' : Hp}, (∀ b ∈ fp, H' b = none) → ∀ b ∈ fp, FpOk X pins H' b := fun hn b hb => ⟨hn b hb, (f2 b hb).2⟩
  refine codeAny_forLoop_any (fun n s' => ∃ i σ' H', Inv X pins σ' H' s' ∧ tn i s'.heap ∧ (∀ b ∈ fp, H' b = none) ∧ W i n σ' H') ?_ m0 ⟨0, σ, H2, I2, st2, fun b hb => (f2 b hb).1, w0⟩
  rintro n s3 ⟨i, σ3, H3, I3, st3, fr3, w3⟩
  rcases turn i n σ3 H3 w3 with ⟨stop, qn⟩ | ⟨go, N, hN, step⟩
  · refine wpAny_passesOwn hp (thn (T.done X rfl rfl rfl hc i pins s3 σ3 H3 X.xe I3 (stat fr3) st3 stop) fun r s4 ⟨hr, I4⟩ => ?_)
    subst hr
    exact wpAny_execs_nil ⟨σ3, H3, I4, qn⟩
  · refine wpAny_passesOwn hp (thn (T.item X rfl rfl rfl hc i pins s3 σ3 H3 X.xe I3 (stat fr3) st3 go) fun r s4 ⟨u, hr, h4⟩ => ?_)
    subst hr
    refine wpAny_passesOwn hp (thn h4 fun _ s5 ⟨x, H5, I5, r5, y5, st5, fr5⟩ => ?_)
    have I5' := I5.pinned (stat fr5) (T.obj _ _ st5)
    refine wpAny_passesOwn hp (thn (hg _ s5 σ3 H5 x u _ I5' r5 (step x H5 y5)) fun _ s6 ⟨σ6, H6, I6, q6⟩ => ?_)
    refine wpAny_passesOwn hp (thn (hb _ s6 σ6 H6 _ I6 q6) fun f s7 q7 => ?_)
    have again : ∀ {σ7 : St} {H7 : Hp}, Inv X (pins ++ pinsAt fp s5.heap) σ7 H7 s7 → N σ7 H7 → ∃ m, m < n ∧ ∃ i σ' H', Inv X pins σ' H' s7 ∧ tn i s7.heap ∧ (∀ b ∈ fp, H' b = none) ∧ W i m σ' H' := fun {σ7 H7} I7 n7 => by
      obtain ⟨m', hm, w7⟩ := hN σ7 H7 n7
      refine ⟨m', hm, i + 1, σ7, H7, I7.unpinned, T.keep _ _ _ st5 fun b hb o e => (I7.pin (b, o) (List.mem_append_right _ (List.mem_append_right _ (mem_pinsAt hb e)))).1, fun b hb => ?_, w7⟩
      obtain ⟨o, e, d⟩ := T.obj _ _ st5 b hb
      exact (I7.pin (b, o) (List.mem_append_right _ (List.mem_append_right _ (mem_pinsAt hb e)))).2.1
    cases f with
    | next => obtain ⟨σ7, H7, I7, n7⟩ := q7; exact again I7 n7
    | cont => obtain ⟨σ7, H7, I7, n7⟩ := q7; exact again I7 n7
    | brk => obtain ⟨σ7, H7, I7, q7⟩ := q7; exact ⟨σ7, H7, I7.unpinned, q7⟩
    | ret v => obtain ⟨x7, σ7, H7, I7, r7, q7⟩ := q7; exact ⟨x7, σ7, H7, I7.unpinned, r7, q7⟩
end

theorem for_list {K : PySem.W.Frag} {a : Addr} {xs : List V} {g : TG} {tb : TS} {D : Ends} {σ : St} {H : Hp} (Pv : Nat → St → Hp → Prop) (h0 : Pv 0 σ H) (hl : ∀ i σ H, i ≤ xs.length → Pv i σ H → SqL K H a xs)
    (hs : ∀ i x σ H, xs[i]? = some x → Pv i σ H → g x σ H fun σ2 H2 => tb { D with nx := Pv (i + 1), ct := Pv (i + 1), bk := D.nx } σ2 H2) (hd : ∀ σ H, Pv xs.length σ H → D.nx σ H) :
    ∃ W : Nat → Nat → St → Hp → Prop, (∃ m, W 0 m σ H) ∧ ∀ i m σ H, W i m σ H →
      ((Itl K a).stop i H ∧ D.nx σ H) ∨ ((Itl K a).go i H ∧ ∃ N : St → Hp → Prop, (∀ σ' H', N σ' H' → ∃ m', m' < m ∧ W (i + 1) m' σ' H') ∧ ∀ x H', (Itl K a).yld i H x H' → g x σ H' fun σ2 H2 => tb { D with nx := N, ct := N, bk := D.nx } σ2 H2) := by
  refine ⟨fun i m σ H => m = xs.length - i ∧ i ≤ xs.length ∧ Pv i σ H, ⟨xs.length, by simp, Nat.zero_le _, h0⟩, ?_⟩
  rintro i m σ H ⟨rfl, hi, p⟩
  have q := hl i σ H hi p
  by_cases hlt : i < xs.length
  · refine .inr ⟨⟨xs, xs[i], q, by simp [hlt]⟩, Pv (i + 1), fun σ' H' p' => ⟨xs.length - (i + 1), by omega, rfl, hlt, p'⟩, fun x H' y => ?_⟩
    obtain ⟨e, y⟩ := y
    subst e
    exact hs i x σ _ (y xs q) p
  · have e : i = xs.length := by omega
    subst e
    exact .inl ⟨⟨xs, q, Nat.le_refl _⟩, hd σ H p⟩
theorem for_tup {K : PySem.W.Frag} {a : Addr} {xs : List V} {g : TG} {tb : TS} {D : Ends} {σ : St} {H : Hp} (Pv : Nat → St → Hp → Prop) (h0 : Pv 0 σ H) (hl : ∀ i σ H, i ≤ xs.length → Pv i σ H → SqT K H a xs)
    (hs : ∀ i x σ H, xs[i]? = some x → Pv i σ H → g x σ H fun σ2 H2 => tb { D with nx := Pv (i + 1), ct := Pv (i + 1), bk := D.nx } σ2 H2) (hd : ∀ σ H, Pv xs.length σ H → D.nx σ H) :
    ∃ W : Nat → Nat → St → Hp → Prop, (∃ m, W 0 m σ H) ∧ ∀ i m σ H, W i m σ H →
      ((Itt K a).stop i H ∧ D.nx σ H) ∨ ((Itt K a).go i H ∧ ∃ N : St → Hp → Prop, (∀ σ' H', N σ' H' → ∃ m', m' < m ∧ W (i + 1) m' σ' H') ∧ ∀ x H', (Itt K a).yld i H x H' → g x σ H' fun σ2 H2 => tb { D with nx := N, ct := N, bk := D.nx } σ2 H2) := by
  refine ⟨fun i m σ H => m = xs.length - i ∧ i ≤ xs.length ∧ Pv i σ H, ⟨xs.length, by simp, Nat.zero_le _, h0⟩, ?_⟩
  rintro i m σ H ⟨rfl, hi, p⟩
  have q := hl i σ H hi p
  by_cases hlt : i < xs.length
  · refine .inr ⟨⟨xs, xs[i], q, by simp [hlt]⟩, Pv (i + 1), fun σ' H' p' => ⟨xs.length - (i + 1), by omega, rfl, hlt, p'⟩, fun x H' y => ?_⟩
    obtain ⟨e, y⟩ := y
    subst e
    exact hs i x σ _ (y xs q) p
  · have e : i = xs.length := by omega
    subst e
    exact .inl ⟨⟨xs, q, Nat.le_refl _⟩, hd σ H p⟩
theorem for_range {lo : Int} {n : Nat} {g : TG} {tb : TS} {D : Ends} {σ : St} {H : Hp} (Pv : Nat → St → Hp → Prop) (h0 : Pv 0 σ H)
    (hs : ∀ i σ H, i < n → Pv i σ H → g (.int (lo + i)) σ H fun σ2 H2 => tb { D with nx := Pv (i + 1), ct := Pv (i + 1), bk := D.nx } σ2 H2) (hd : ∀ σ H, Pv n σ H → D.nx σ H) :
    ∃ W : Nat → Nat → St → Hp → Prop, (∃ m, W 0 m σ H) ∧ ∀ i m σ H, W i m σ H →
      ((Itr lo n).stop i H ∧ D.nx σ H) ∨ ((Itr lo n).go i H ∧ ∃ N : St → Hp → Prop, (∀ σ' H', N σ' H' → ∃ m', m' < m ∧ W (i + 1) m' σ' H') ∧ ∀ x H', (Itr lo n).yld i H x H' → g x σ H' fun σ2 H2 => tb { D with nx := N, ct := N, bk := D.nx } σ2 H2) := by
  refine ⟨fun i m σ H => m = n - i ∧ i ≤ n ∧ Pv i σ H, ⟨n, by simp, Nat.zero_le _, h0⟩, ?_⟩
  rintro i m σ H ⟨rfl, hi, p⟩
  by_cases hlt : i < n
  · refine .inr ⟨hlt, Pv (i + 1), fun σ' H' p' => ⟨n - (i + 1), by omega, rfl, hlt, p'⟩, fun x H' y => ?_⟩
    obtain ⟨e, y⟩ := y
    subst e y
    exact hs i σ _ hlt p
  · have e : i = n := by omega
    subst e
    exact .inl ⟨Nat.le_refl _, hd σ H p⟩
end L2

namespace L2
open PySem PySem.Spec PyProof.Rows

abbrev R2 := V → V → Hp → VK → Prop
def OpR (X : Cx) (f : Value → Value → Sem Value) (r : R2) : Prop :=
  ∀ (pins : List (Addr × Obj)) (s : Shared) (σ : St) (H : Hp) (x y : V) (v u : Value) (Q : VK), Inv X pins σ H s → RelV x v → RelV y u → r x y H Q →
    wpAny (model X.prog X.w) X.A (f v u) (EP X pins σ Q) X.xe s
def CallR (X : Cx) (f : Value) (r : List V → Hp → VK → Prop) : Prop :=
  ∀ (pins : List (Addr × Obj)) (s : Shared) (σ : St) (H : Hp) (xs : List V) (us : List Value) (Q : VK), Inv X pins σ H s → Vals xs us → r xs H Q →
    wpAny (model X.prog X.w) X.A (call f us) (EP X pins σ Q) X.xe s
def tOp (r : R2) (ta tb : TE) : TE := fun σ H Q => ta σ H fun x H1 => tb σ H1 fun y H2 => r x y H2 Q
def rI (C : Int → Int → Prop) (g : Int → Int → V) : R2 := fun x y H Q => ∃ i j, x = .int i ∧ y = .int j ∧ C i j ∧ Q (g i j) H
def rI0 (g : Int → Int → V) : R2 := fun x y H Q => ∃ i j, x = .int i ∧ y = .int j ∧ Q (g i j) H
section
variable {X : Cx} {a b c : Expr} {ta tb tc : TE} {pos : Pos}

theorem binT (ha : PE X a ta) (hb : PE X b tb) {pins : List (Addr × Obj)} {s : Shared} {σ : St} {H : Hp} {R : V → V → Hp → Prop} (I : Inv X pins σ H s)
    (h : ta σ H fun x H1 => tb σ H1 fun y H2 => R x y H2) {Q : Value → Shared → Prop} {f : Value → Value → Sem Value}
    (hf : ∀ v u s2 x y H2, Inv X pins σ H2 s2 → RelV x v → RelV y u → R x y H2 → wpAny (model X.prog X.w) X.A (f v u) Q X.xe s2) :
    wpAny (model X.prog X.w) X.A (eval a X.env) (fun v s₁ => wpAny (model X.prog X.w) X.A (eval b X.env) (fun u s₂ => wpAny (model X.prog X.w) X.A (f v u) Q X.xe s₂) X.xe s₁) X.xe s := by
  refine thn (ha pins s σ H _ I h) fun v s1 ⟨x, H1, I1, r1, q1⟩ => ?_
  refine thn (hb pins s1 σ H1 _ I1 q1) fun u s2 ⟨y, H2, I2, r2, q2⟩ => ?_
  exact hf v u s2 x y H2 I2 r1 r2 q2

theorem pe_op {op : Operator} {r : R2} (ho : OpR X (binaryOp op) r) (ha : PE X a ta) (hb : PE X b tb) : PE X (.BinOp a op b pos) (tOp r ta tb) := by
  intro pins s σ H Q I h
  exact wpAny_BinOp (binT ha hb I h fun v u s2 x y H2 I2 rx ry q => ho pins s2 σ H2 x y v u Q I2 rx ry q)
theorem opI {f : Value → Value → Sem Value} {C : Int → Int → Prop} {g : Int → Int → Int}
    (rule : ∀ (i j : Int) (t u : Tok) (s : Shared) (Q : Value → Shared → Prop) (E : Value → Shared → Prop), C i j → Q (.int (g i j) s.toks) { s with toks := s.toks + 1 } → wpAny (model X.prog X.w) X.A (f (.int i t) (.int j u)) Q E s) :
    OpR X f (rI C fun i j => .int (g i j)) := by
  intro pins s σ H x y v u Q I rx ry h
  obtain ⟨i, j, rfl, rfl, hc, q⟩ := h
  obtain ⟨t, rfl⟩ := rx
  obtain ⟨t', rfl⟩ := ry
  exact rule i j t t' s _ _ hc ⟨.int (g i j), H, I.tok _, ⟨_, rfl⟩, q⟩
theorem opI0 {f : Value → Value → Sem Value} {g : Int → Int → Int}
    (rule : ∀ (i j : Int) (t u : Tok) (s : Shared) (Q : Value → Shared → Prop) (E : Value → Shared → Prop), Q (.int (g i j) s.toks) { s with toks := s.toks + 1 } → wpAny (model X.prog X.w) X.A (f (.int i t) (.int j u)) Q E s) :
    OpR X f (rI0 fun i j => .int (g i j)) := by
  intro pins s σ H x y v u Q I rx ry h
  obtain ⟨i, j, rfl, rfl, q⟩ := h
  obtain ⟨t, rfl⟩ := rx
  obtain ⟨t', rfl⟩ := ry
  exact rule i j t t' s _ _ ⟨.int (g i j), H, I.tok _, ⟨_, rfl⟩, q⟩
theorem opB0 {f : Value → Value → Sem Value} {g : Int → Int → Bool}
    (rule : ∀ (i j : Int) (t u : Tok) (s : Shared) (Q : Value → Shared → Prop) (E : Value → Shared → Prop), Q (.bool (g i j)) s → wpAny (model X.prog X.w) X.A (f (.int i t) (.int j u)) Q E s) :
    OpR X f (rI0 fun i j => .bl (g i j)) := by
  intro pins s σ H x y v u Q I rx ry h
  obtain ⟨i, j, rfl, rfl, q⟩ := h
  obtain ⟨t, rfl⟩ := rx
  obtain ⟨t', rfl⟩ := ry
  exact rule i j t t' s _ _ ⟨.bl (g i j), H, I, rfl, q⟩

def CDiv (i j : Int) : Prop := 0 < j ∧ j < 1073741824
def CMul (i j : Int) : Prop := (-(2 ^ 64) < i ∧ i < 2 ^ 64) ∨ (-(2 ^ 64) < j ∧ j < 2 ^ 64)
theorem CMul.ok {i j : Int} (h : CMul i j) : IntMulOk i j := by
  rcases h with ⟨h1, h2⟩ | ⟨h1, h2⟩
  · exact .of_left (intBits_le_64 h1 h2)
  · exact .of_right (intBits_le_64 h1 h2)
theorem op_add : OpR X (binaryOp .Add) (rI0 fun i j => .int (i + j)) := opI0 fun _ _ _ _ _ _ _ q => add_int q
theorem op_sub : OpR X (binaryOp .Sub) (rI0 fun i j => .int (i - j)) := opI0 fun _ _ _ _ _ _ _ q => sub_int q
theorem op_mul : OpR X (binaryOp .Mult) (rI CMul fun i j => .int (i * j)) := opI fun _ _ _ _ _ _ _ hc q => mul_int q hc.ok
theorem op_fdiv : OpR X (binaryOp .FloorDiv) (rI CDiv fun i j => .int (i / j)) := opI fun i j _ _ _ _ _ hc q => by
  have h1 : (0 : Int) < j := hc.1
  have h2 : j < 1073741824 := hc.2
  exact floordiv_int (by omega) (by rw [Int.fdiv_eq_ediv_of_nonneg i (by omega)]; exact q) (.inl (PyProof.noPylong_small (by omega)))
theorem op_mod : OpR X (binaryOp .Mod) (rI (fun _ j => 0 < j) fun i j => .int (i % j)) := opI fun i j _ _ _ _ _ hc q => by
  have h1 : (0 : Int) < j := hc
  exact mod_int' (by omega) (by rw [Int.fmod_eq_emod_of_nonneg i (by omega)]; exact q)
end

def scal : V → V → Bool
  | .non, .non => true | .non, .int _ => true | .int _, .non => true | .non, .bl _ => true | .bl _, .non => true | .non, .str _ => true | .str _, .non => true
  | .int _, .int _ => true | .bl _, .bl _ => true | .str _, .str _ => true | .byt _, .byt _ => true
  | .int _, .str _ => true | .str _, .int _ => true | .bl _, .str _ => true | .str _, .bl _ => true
  | _, _ => false
def rEq : R2 := fun x y H Q => scal x y = true ∧ Q (.bl (decide (x = y))) H
def rNe : R2 := fun x y H Q => scal x y = true ∧ Q (.bl (!decide (x = y))) H

theorem dec_int {i j : Int} : decide (V.int i = V.int j) = (i == j) := by
  rw [Bool.eq_iff_iff]
  simp
theorem dec_bl {i j : Bool} : decide (V.bl i = V.bl j) = (i == j) := by
  rw [Bool.eq_iff_iff]
  simp
theorem dec_str {i j : Str} : decide (V.str i = V.str j) = (i == j) := by
  rw [Bool.eq_iff_iff]
  simp
theorem dec_byt {i j : Array UInt8} : decide (V.byt i = V.byt j) = (i.toList == j.toList) := by
  rw [Bool.eq_iff_iff]
  cases i
  cases j
  simp

section
variable {X : Cx} {a b c : Expr} {ta tb tc : TE} {pos : Pos}
theorem fin_bl {pins : List (Addr × Obj)} {σ : St} {H : Hp} {s : Shared} {Q : VK} {k k' : Bool} (I : Inv X pins σ H s) (q : Q (.bl k) H) (e : k = k') : EP X pins σ Q (.bool k') s := by
  subst e
  exact ⟨.bl k, H, I, rfl, q⟩
theorem op_eq : OpR X (compareOp .Eq) rEq := by
  intro pins s σ H x y v u Q I rx ry h
  obtain ⟨hs, q⟩ := h
  cases x with
  | non =>
    cases rx
    cases y with
    | non => cases ry; exact PySem.EqNone.eq_none_none (fin_bl I q (by simp))
    | bl j => cases ry; exact PySem.EqNone.eq_none_bool (fin_bl I q (by simp))
    | int j => obtain ⟨t', rfl⟩ := ry; exact PySem.EqNone.eq_none_int (fin_bl I q (by simp))
    | str j => obtain ⟨t', rfl⟩ := ry; exact PySem.EqNone.eq_none_str (fin_bl I q (by simp))
    | _ => exact absurd (show false = true from hs) Bool.false_ne_true
  | bl i =>
    cases rx
    cases y with
    | non => cases ry; exact PySem.EqNone.eq_bool_none (fin_bl I q (by simp))
    | bl j => cases ry; exact eq_bool (fin_bl I q dec_bl)
    | str j => obtain ⟨t', rfl⟩ := ry; exact PySem.EqMixed.eq_bool_str (fin_bl I q (by simp))
    | _ => exact absurd (show false = true from hs) Bool.false_ne_true
  | int i =>
    obtain ⟨t, rfl⟩ := rx
    cases y with
    | non => cases ry; exact PySem.EqNone.eq_int_none (fin_bl I q (by simp))
    | int j => obtain ⟨t', rfl⟩ := ry; exact eq_int (fin_bl I q dec_int)
    | str j => obtain ⟨t', rfl⟩ := ry; exact PySem.EqMixed.eq_int_str (fin_bl I q (by simp))
    | _ => exact absurd (show false = true from hs) Bool.false_ne_true
  | str i =>
    obtain ⟨t, rfl⟩ := rx
    cases y with
    | non => cases ry; exact PySem.EqNone.eq_str_none (fin_bl I q (by simp))
    | bl j => cases ry; exact PySem.EqMixed.eq_str_bool (fin_bl I q (by simp))
    | int j => obtain ⟨t', rfl⟩ := ry; exact PySem.EqMixed.eq_str_int (fin_bl I q (by simp))
    | str j => obtain ⟨t', rfl⟩ := ry; exact eq_str (fin_bl I q dec_str)
    | _ => exact absurd (show false = true from hs) Bool.false_ne_true
  | byt i =>
    obtain ⟨t, rfl⟩ := rx
    cases y with
    | byt j => obtain ⟨t', rfl⟩ := ry; exact PySem.W.eq_bytes (fin_bl I q dec_byt)
    | _ => exact absurd (show false = true from hs) Bool.false_ne_true
  | _ => cases y <;> exact absurd (show false = true from hs) Bool.false_ne_true
theorem op_ne : OpR X (compareOp .NotEq) rNe := by
  intro pins s σ H x y v u Q I rx ry h
  obtain ⟨hs, q⟩ := h
  cases x with
  | non =>
    cases rx
    cases y with
    | non => cases ry; exact PySem.EqNone.ne_none_none (fin_bl I q (by simp))
    | bl j => cases ry; exact PySem.EqNone.ne_none_bool (fin_bl I q (by simp))
    | int j => obtain ⟨t', rfl⟩ := ry; exact PySem.EqNone.ne_none_int (fin_bl I q (by simp))
    | str j => obtain ⟨t', rfl⟩ := ry; exact PySem.EqNone.ne_none_str (fin_bl I q (by simp))
    | _ => exact absurd (show false = true from hs) Bool.false_ne_true
  | bl i =>
    cases rx
    cases y with
    | non => cases ry; exact PySem.EqNone.ne_bool_none (fin_bl I q (by simp))
    | bl j => cases ry; exact ne_bool (fin_bl I q (congrArg not dec_bl))
    | str j => obtain ⟨t', rfl⟩ := ry; exact PySem.EqMixed.ne_bool_str (fin_bl I q (by simp))
    | _ => exact absurd (show false = true from hs) Bool.false_ne_true
  | int i =>
    obtain ⟨t, rfl⟩ := rx
    cases y with
    | non => cases ry; exact PySem.EqNone.ne_int_none (fin_bl I q (by simp))
    | int j => obtain ⟨t', rfl⟩ := ry; exact ne_int (fin_bl I q (congrArg not dec_int))
    | str j => obtain ⟨t', rfl⟩ := ry; exact PySem.EqMixed.ne_int_str (fin_bl I q (by simp))
    | _ => exact absurd (show false = true from hs) Bool.false_ne_true
  | str i =>
    obtain ⟨t, rfl⟩ := rx
    cases y with
    | non => cases ry; exact PySem.EqNone.ne_str_none (fin_bl I q (by simp))
    | bl j => cases ry; exact PySem.EqMixed.ne_str_bool (fin_bl I q (by simp))
    | int j => obtain ⟨t', rfl⟩ := ry; exact PySem.EqMixed.ne_str_int (fin_bl I q (by simp))
    | str j => obtain ⟨t', rfl⟩ := ry; exact ne_str (fin_bl I q (congrArg not dec_str))
    | _ => exact absurd (show false = true from hs) Bool.false_ne_true
  | byt i =>
    obtain ⟨t, rfl⟩ := rx
    cases y with
    | byt j => obtain ⟨t', rfl⟩ := ry; exact PySem.W.ne_bytes (fin_bl I q (congrArg not dec_byt))
    | _ => exact absurd (show false = true from hs) Bool.false_ne_true
  | _ => cases y <;> exact absurd (show false = true from hs) Bool.false_ne_true

theorem op_lt : OpR X (compareOp .Lt) (rI0 fun i j => .bl (decide (i < j))) := opB0 fun _ _ _ _ _ _ _ q => lt_int q
theorem op_gt : OpR X (compareOp .Gt) (rI0 fun i j => .bl (decide (j < i))) := opB0 fun _ _ _ _ _ _ _ q => gt_int q
theorem op_in_str : OpR X (compareOp .In) (fun x y H Q => ∃ i j, x = .str i ∧ y = .str j ∧ Q (.bl (!(Builtin.Str.occurrences j i 0 j.length 1).isEmpty)) H) := by
  intro pins s σ H x y v u Q I rx ry h
  obtain ⟨i, j, rfl, rfl, q⟩ := h
  obtain ⟨t, rfl⟩ := rx
  obtain ⟨t', rfl⟩ := ry
  exact in_str (fin_bl I q rfl)

theorem op_notin_str : OpR X (compareOp .NotIn) (fun x y H Q => ∃ i j, x = .str i ∧ y = .str j ∧ Q (.bl (!(!(Builtin.Str.occurrences j i 0 j.length 1).isEmpty))) H) := by
  intro pins s σ H x y v u Q I rx ry h
  obtain ⟨i, j, rfl, rfl, q⟩ := h
  obtain ⟨t, rfl⟩ := rx
  obtain ⟨t', rfl⟩ := ry
  exact notIn_str (fin_bl I q rfl)
theorem nomark (b : Expr) {op : CmpOp} (h : op ≠ .In := by decide) (h2 : op ≠ .NotIn := by decide) : behindInMarks op b = false := by
  have e1 : (op == CmpOp.In) = false := by cases op <;> first | rfl | exact absurd rfl h
  have e2 : (op == CmpOp.NotIn) = false := by cases op <;> first | rfl | exact absurd rfl h2
  cases b <;> simp [behindInMarks, e1, e2]
theorem pe_cmpR {op : CmpOp} {r : R2} (ho : OpR X (compareOp op) r) (ha : PE X a ta) (hb : PE X b tb) (hm : behindInMarks op b = false) : PE X (.Compare a [op] [b] pos) (tOp r ta tb) := by
  intro pins s σ H Q I h
  exact wpAny_Compare1 (binT ha hb I h fun v u s2 x y H2 I2 rx ry q => ho pins s2 σ H2 x y v u Q I2 rx ry q) hm
def tTest (t : TE) : TT := fun σ H Q => t σ H fun x H' => ∃ k, x = .bl k ∧ Q k H'
theorem pt_cmpR {op : CmpOp} {r : R2} (ho : OpR X (compareOp op) r) (ha : PE X a ta) (hb : PE X b tb) (hm : behindInMarks op b = false) : PT X (.Compare a [op] [b] pos) (tTest (tOp r ta tb)) := by
  intro pins s σ H Q I h
  refine wpAny_isTrue_Compare1 (thn (ha pins s σ H _ I h) fun v s1 ⟨x, H1, I1, r1, q1⟩ => thn (hb pins s1 σ H1 _ I1 q1) fun u s2 ⟨y, H2, I2, r2, q2⟩ =>
    thn (ho pins s2 σ H2 x y v u _ I2 r1 r2 q2) fun c s3 ⟨z, H3, I3, r3, k, e, q3⟩ => ?_) hm
  subst e
  cases r3
  exact wpAny_truthy_bool ⟨H3, I3, q3⟩
def tChain (r r' : R2) (ta tb tc : TE) : TE := fun σ H Q => ta σ H fun x H1 => tb σ H1 fun y H2 => r x y H2 fun z H3 => ∃ k, z = .bl k ∧
  (if k = true then tc σ H3 fun w' H4 => r' y w' H4 Q else Q (.bl false) H3)
theorem pt_chain {op op' : CmpOp} {r r' : R2} (ho : OpR X (compareOp op) r) (ho' : OpR X (compareOp op') r') (ha : PE X a ta) (hb : PE X b tb) (hc : PE X c tc)
    (hm : lastMarks [op, op'] [b, c] = false := by with_unfolding_all rfl) : PT X (.Compare a [op, op'] [b, c] pos) (tTest (tChain r r' ta tb tc)) := by
  intro pins s σ H Q I h
  refine isTrue_chain (thn (ha pins s σ H _ I h) fun v s1 ⟨x, H1, I1, r1, q1⟩ => test_link (thn (hb pins s1 σ H1 _ I1 q1) fun u s2 ⟨y, H2, I2, r2, q2⟩ =>
    thn (ho pins s2 σ H2 x y v u _ I2 r1 r2 q2) fun d s3 ⟨z, H3, I3, r3, k, e, q3⟩ => ?_)) hm
  subst e
  cases r3
  refine wpAny_truthy_bool ?_
  cases k with
  | false =>
    obtain ⟨k', e', q'⟩ := q3
    cases e'
    exact ite_ff ⟨H3, I3, q'⟩
  | true =>
    refine ite_tt (test_last (thn (hc pins s3 σ H3 _ I3 q3) fun w' s4 ⟨z', H4, I4, r4, q4⟩ => thn (ho' pins s4 σ H4 y z' u w' _ I4 r2 r4 q4) fun d' s5 ⟨z2, H5, I5, r5, k2, e2, q5⟩ => ?_))
    subst e2
    cases r5
    exact wpAny_truthy_bool ⟨H5, I5, q5⟩

theorem line63 : (sizeLine : Nat) < 2 ^ 63 := by rw [sizeLine_eq]; decide
theorem op_add_str : OpR X (binaryOp .Add) (fun x y H Q => ∃ i j, x = .str i ∧ y = .str j ∧ i.length + j.length ≤ sizeLine ∧ Q (.str (i ++ j)) H) := by
  intro pins s σ H x y v u Q I rx ry h
  obtain ⟨i, j, rfl, rfl, hz, q⟩ := h
  obtain ⟨t, rfl⟩ := rx
  obtain ⟨t', rfl⟩ := ry
  exact add_str (fun t' tk => ⟨.str (i ++ j), H, I.tok _, ⟨_, rfl⟩, q⟩) hz
theorem vals1 {x : V} {us : List Value} (r : Vals [x] us) : ∃ u, us = [u] ∧ RelV x u := by
  cases r with
  | cons r1 r2 => cases r2; exact ⟨_, rfl, r1⟩
theorem call_int1 : CallR X (.type "int") (fun xs H Q => (∃ i, xs = [.int i] ∧ Q (.int i) H) ∨ ∃ k, xs = [.bl k] ∧ Q (.int (if k then 1 else 0)) H) := by
  intro pins s σ H xs us Q I r h
  rcases h with ⟨i, rfl, q⟩ | ⟨k, rfl, q⟩
  · obtain ⟨u, rfl, t, rfl⟩ := vals1 r
    exact call_int_int ⟨.int i, H, I, ⟨_, rfl⟩, q⟩
  · obtain ⟨u, rfl, r1⟩ := vals1 r
    cases r1
    exact call_int_bool ⟨.int (if k then 1 else 0), H, I.tok _, ⟨_, rfl⟩, q⟩
theorem call_str_int : CallR X (.type "str") (fun xs H Q => ∃ i, xs = [.int i] ∧ i.natAbs.log2 < 1920 ∧ Q (.str (toString i)) H) := by
  intro pins s σ H xs us Q I r h
  obtain ⟨i, rfl, hz, q⟩ := h
  obtain ⟨u, rfl, t, rfl⟩ := vals1 r
  exact PySem.P.str_of_int hz ⟨.str _, H, I.tok _, ⟨_, rfl⟩, q⟩
end
end L2

namespace L2
open PySem PySem.Spec PyProof.Rows

structure ObjM (h : Heap) (x dx C : Addr) (mA : Str → Option Value) : Prop where
  obj : h.get? x = some (PySem.W.instObj C dx)
  ns : h.Ns1 dx mA
  ne : dx ≠ x

theorem lookIn_ns {h : Heap} {dx : Addr} {mA : Str → Option Value} (n : h.Ns1 dx mA) : ∃ od, h.get? dx = some od ∧ ∀ name, PySem.W.lookIn name od = some (mA name) := by
  obtain ⟨o, es, ep, ho, hd, hk, _, hm⟩ := n
  refine ⟨o, ho, fun name => ?_⟩
  have e := hm name
  unfold nsFind findBy at e
  rw [← Array.find?_toList] at e
  unfold PySem.W.lookIn
  rw [hd]
  dsimp only
  split
  · rename_i y q
    rw [q] at e
    exact congrArg some e
  · rename_i q
    rw [q] at e
    have a : es.toList.any (·.refKey) = false := by
      rw [List.any_eq_false]
      intro y hy
      obtain ⟨z, t, hkey⟩ := hk y (Array.mem_toList_iff.mp hy)
      simp [DictEntry.refKey, hkey]
    have a' : ¬ es.toList.any (·.refKey) = true := by rw [a]; exact Bool.false_ne_true
    rw [if_neg a']
    exact congrArg some e

theorem ObjM.look {h : Heap} {x dx C : Addr} {mA : Str → Option Value} (I : ObjM h x dx C mA) : ∃ od, PySem.W.InstAt h x (PySem.W.instObj C dx) C (some od) ∧ ∀ name, PySem.W.lookIn name od = some (mA name) :=
  let ⟨od, ho, hl⟩ := lookIn_ns I.ns
  ⟨od, ⟨I.obj, rfl, rfl, ho⟩, hl⟩

section
variable {prog : Program} {w : World} {A : Around} {E : Value → Shared → Prop} {s : Shared} {K : PySem.W.Frag} {x dx C f : Addr} {mA : Str → Option Value} {name : Str} {v : Value}

end

def putF (f : Str) (v : V) : List (Str × V) → List (Str × V)
  | [] => [(f, v)]
  | (g, x) :: r => if g = f then (g, v) :: r else (g, x) :: putF f v r
section
variable {P : Program} {w : World} {H H' : Hp} {h h' : Heap} {a C dx : Addr} {fs fs' : List (Str × V)}
theorem ins_get (hok : HOk P w H h) (e : H a = some (.ins C dx fs)) : ∃ mA, ObjM h a dx C mA ∧ (∀ f, RelO (fs.lookup f) (mA f)) ∧ PySem.Within mA (fs.map (·.1)) ∧ fs.length ≤ 1000 ∧ H dx = some (.own a) := by
  obtain ⟨d, z, ne, ob, mA, n, r, q⟩ := (show ObjOk P w H h a (.ins C dx fs) from hok a _ e)
  exact ⟨mA, ⟨ob, n, ne⟩, r, q, z, d⟩
end

structure Cls (K : PySem.W.Frag) (C : Addr) : Prop where
  pg : PySem.W.plainGet K C Str.empty = true
  hd : PySem.W.hasDictIn K C = true
  po : PySem.W.plainOver K C = true
  sa : PySem.W.findIn K (.ref C) "__setattr__" = some (some (.builtin "object.__setattr__"))
theorem Cls.get {K : PySem.W.Frag} {C : Addr} (c : Cls K C) (f : Str) : PySem.W.plainGet K C f = true := c.pg
structure Con (K : PySem.W.Frag) (C : Addr) (f : Str) (v : V) (u : Value) : Prop where
  at_ : PySem.W.findIn K (.ref C) f = some (some u)
  rel : RelV v u
  get : PySem.W.specialIn K u "__get__" = some none
  cp : PySem.W.copiedNames.contains f = false
structure Meth (K : PySem.W.Frag) (C : Addr) (m : Str) (f : Addr) : Prop where
  at_ : PySem.W.findIn K (.ref C) m = some (some (.ref f))
  fn : PySem.W.isFn K (.ref f) = true
  kp : PySem.W.keepIn K (.ref f) = true

section
variable {X : Cx} {pins : List (Addr × Obj)} {σ : St} {H : Hp} {s : Shared} {a C dx : Addr} {fs : List (Str × V)} {f : Str} {v : V} {A : Around} {E : Value → Shared → Prop}

end

section
variable {X : Cx} {o e value : Expr} {f : Str} {pos pos' tpos : Pos} {ta tv : TE}
end

section
variable {X : Cx} {pins : List (Addr × Obj)} {σ : St} {H : Hp} {s : Shared} {A : Around} {E : Value → Shared → Prop} {Q : Value → Shared → Prop} {c : Value} {b : Bool}
inductive TyOf (K : PySem.W.Frag) (H : Hp) : V → Value → Prop where
  | non : TyOf K H .non (.type "NoneType")
  | bl (x : Bool) : TyOf K H (.bl x) (.type "bool")
  | int (i : Int) : TyOf K H (.int i) (.type "int")
  | str (x : Str) : TyOf K H (.str x) (.type "str")
  | flt (x : UInt64) : TyOf K H (.flt x) (.type "float")
  | lst {a : Addr} {xs : List V} (e : H a = some (.lst xs)) : TyOf K H (.ref a) (.type "list")
  | frz {a : Addr} {o : Obj} {xs : List V} (e : H a = some (.frz o (.lst xs))) : TyOf K H (.ref a) (.type "list")
  | tup {a : Addr} {xs : List V} (e : H a = some (.tup xs)) : TyOf K H (.ref a) (.type "tuple")
  | dK {a : Addr} {kvs : List (Key × V)} (e : H a = some (.dK kvs)) : TyOf K H (.ref a) (.type "dict")
  | dT {a : Addr} {kvs : List (List Key × V)} (e : H a = some (.dT kvs)) : TyOf K H (.ref a) (.type "dict")
  | ins {a C dx : Addr} {fs : List (Str × V)} (e : H a = some (.ins C dx fs)) (cl : Cls K C) (ha : PySem.W.findIn K (.ref C) "__class__" = some (some (.builtin "object.__class__")))
      (hn : PySem.W.specialIn K (.builtin "object.__class__") "__get__" = some (some (.builtin "getset_descriptor.__get__"))) (htk : PySem.W.takesIn K (.builtin "object.__class__") = some true)
      (hm : PySem.W.mroIn K C (.type "object") = some true) : TyOf K H (.ref a) (.ref C)
theorem isinst_ok {x : V} {u t : Value} (I : Inv X pins σ H s) (rx : RelV x u) (ty : TyOf X.K H x t) (e : PySem.W.kitOne X.K t c = some b) (h : ∀ tk, Q (.bool b) { s with toks := tk }) :
    wpAny (model X.prog X.w) A (call (.builtin "isinstance") [u, c]) Q E s := by
  cases ty with
  | non => cases (show u = Value.none from rx); exact PySem.W.kia_one PySem.W.kitx_none I.kIn True.intro e (fun z => nomatch z) h
  | bl y => cases (show u = Value.bool y from rx); exact PySem.W.kia_one PySem.W.kitx_bool I.kIn True.intro e (fun z => nomatch z) h
  | int i => obtain ⟨t, q⟩ := (show ∃ t, u = Value.int i t from rx); cases q; exact PySem.W.kia_one PySem.W.kitx_int I.kIn True.intro e (fun z => nomatch z) h
  | str y => obtain ⟨t, q⟩ := (show ∃ t, u = Value.str y t from rx); cases q; exact PySem.W.kia_one PySem.W.kitx_str I.kIn True.intro e (fun z => nomatch z) h
  | flt y => obtain ⟨t, q⟩ := (show ∃ t, u = Value.float y t from rx); cases q; exact PySem.W.kia_one PySem.W.kitx_float I.kIn True.intro e (fun z => nomatch z) h
  | @lst a xs ea =>
    cases (show u = Value.ref a from rx)
    obtain ⟨_, _, n, _, h1⟩ := (show ObjOk X.prog X.w H s.heap a (.lst xs) from I.hok a _ ea)
    exact PySem.W.kia_one PySem.W.kitx_list I.kIn ⟨_, h1, rfl⟩ e (fun z => nomatch z) h
  | @frz a ob xs ea =>
    cases (show u = Value.ref a from rx)
    obtain ⟨_, _, _, n, _, h1⟩ := (show ObjOk X.prog X.w H s.heap a (.frz ob (.lst xs)) from I.hok a _ ea)
    exact PySem.W.kia_one PySem.W.kitx_list I.kIn ⟨_, h1, rfl⟩ e (fun z => nomatch z) h
  | @tup a xs ea =>
    cases (show u = Value.ref a from rx)
    obtain ⟨_, _, _, p⟩ := (show ObjOk X.prog X.w H s.heap a (.tup xs) from I.hok a _ ea)
    obtain ⟨o, h1, h2, _⟩ := p
    exact PySem.W.kia_one PySem.W.kitx_tuple I.kIn ⟨o, h1, h2⟩ e (fun z => nomatch z) h
  | @dK a kvs ea =>
    cases (show u = Value.ref a from rx)
    obtain ⟨_, _, vs, _, p⟩ := (show ObjOk X.prog X.w H s.heap a (.dK kvs) from I.hok a _ ea)
    obtain ⟨o, es, ep, h1, h2, _⟩ := p
    exact PySem.W.kia_one PySem.W.kitx_dict I.kIn ⟨o, h1, h2.1⟩ e (fun z => nomatch z) h
  | @dT a kvs ea =>
    cases (show u = Value.ref a from rx)
    obtain ⟨_, _, xs, _, o, es, ep, h1, h2, _⟩ := (show ObjOk X.prog X.w H s.heap a (.dT kvs) from I.hok a _ ea)
    exact PySem.W.kia_one PySem.W.kitx_dict I.kIn ⟨o, h1, h2.1⟩ e (fun z => nomatch z) h
  | @ins a C dx fs ea cl ha hn htk hm =>
    cases (show u = Value.ref a from rx)
    obtain ⟨mA, O, _⟩ := ins_get I.hok ea
    obtain ⟨od, J, _⟩ := O.look
    exact PySem.W.kia_one (PySem.W.kitx_own (cl.get _) cl.hd ha hn htk hm) I.kIn J e (fun z => nomatch z) h
end
end L2

namespace L2
open PySem PySem.Spec PyProof.Rows

structure Room (k : Nat) (A : Around) : Prop where
  hd : A.handled = none
  dp : A.depth + 3 * k + 5 < recursionLimit
  un : A.units + 16 * k + 200 < cLine
theorem Room.mono {j k : Nat} {A : Around} (r : Room k A) (h : j ≤ k) : Room j A := ⟨r.hd, by have := r.dp; omega, by have := r.un; omega⟩
theorem Room.deeper {k : Nat} {A : Around} (r : Room (k + 1) A) (env : Env) : Room k (A.deeper env) :=
  ⟨r.hd, by have := r.dp; show A.depth + 1 + 3 * k + 5 < _; omega, by have := r.un; show A.units + 3 + 16 * k + 200 < _; omega⟩
theorem Room.in1 {k : Nat} {A : Around} (r : Room (k + 1) A) : Room k A.in1 :=
  ⟨r.hd, by have := r.dp; show A.depth + 3 * k + 5 < _; omega, by have := r.un; show A.units + 1 + 16 * k + 200 < _; omega⟩
theorem Room.depth {k : Nat} {A : Around} (r : Room k A) : A.depth < recursionLimit := by have := r.dp; omega
theorem Room.units {k : Nat} {A : Around} (r : Room k A) : A.units + 64 < cLine := by have := r.un; omega
def tNil : TA := fun _ H Q => Q [] H
def tCons (ta : TE) (tr : TA) : TA := fun σ H Q => ta σ H fun x H1 => tr σ H1 fun xs H2 => Q (x :: xs) H2
section
variable {X : Cx} {e : Expr} {es : List Expr} {te : TE} {t : TA} {pos : Pos}
theorem pa_nil : PA X [] tNil := fun _ _ _ _ H Q I h => Calls.spliced_nil ⟨[], H, I, .nil, h⟩
theorem pa_cons (ha : PE X e te) (hr : PA X es t) (hs : starEach (e :: es) X.env = (false, eval e X.env) :: starEach es X.env := by rfl) : PA X (e :: es) (tCons te t) := by
  intro pos pins s σ H Q I h
  rw [hs]
  show wpAny _ _ (spliced ((false, eval e X.env) :: backTo pos (starEach es X.env))) _ _ s
  refine Calls.spliced_cons (thn (ha pins s σ H _ I h) fun u s1 ⟨x, H1, I1, r1, q1⟩ => ?_)
  exact thn (hr pos pins s1 σ H1 _ I1 q1) fun us s2 ⟨xs, H2, I2, r2, q2⟩ => ⟨x :: xs, H2, I2, .cons r1 r2, q2⟩

def tTup (t : TA) : TE := fun σ H Q => t σ H fun xs H1 => xs.length ≤ sizeLine ∧ ∀ p, H1 p = none → Q (.ref p) (upd H1 p (.tup xs))
def tLst (t : TA) : TE := fun σ H Q => t σ H fun xs H1 => xs.length ≤ sizeLine ∧ ∀ p, H1 p = none → Q (.ref p) (upd H1 p (.lst xs))
theorem pe_tup {x1} (h : PA X es t) : PE X (.Tuple es x1 pos) (tTup t) := by
  intro pins s σ H Q I hq
  refine wpAny_Tuple_spliced (thn (h pos pins s σ H _ I hq) fun us s1 ⟨xs, H1, I1, r, z, q⟩ => ⟨by rw [← r.length]; exact z, ?_⟩)
  have hf : H1 s1.heap.objs.size = none := I1.hok.fresh (Nat.le_refl _)
  refine ⟨.ref s1.heap.objs.size, upd H1 s1.heap.objs.size (.tup xs), I1.laid (t' := s1.toks) (fun b u e => Heap.get?_push_of_some _ e) (Nat.le_refl _) ?_, rfl, q _ hf⟩
  exact ⟨z, us, r, ⟨_, Heap.get?_push_size _ rfl, rfl, _, rfl⟩⟩
theorem pe_lst (h : PA X es t) : PE X (.List es pos) (tLst t) := by
  intro pins s σ H Q I hq
  refine wpAny_List_spliced (thn (h pos pins s σ H _ I hq) fun us s1 ⟨xs, H1, I1, r, z, q⟩ => ⟨by rw [← r.length]; exact z, ?_⟩)
  have hf : H1 s1.heap.objs.size = none := I1.hok.fresh (Nat.le_refl _)
  refine ⟨.ref s1.heap.objs.size, upd H1 s1.heap.objs.size (.lst xs), I1.laid (t' := s1.toks) (fun b u e => Heap.get?_push_of_some _ e) (Nat.le_refl _) ?_, rfl, q _ hf⟩
  exact ⟨z, us, 0, r, Heap.get?_push_size _ rfl⟩
end

abbrev Sp := List V → Hp → VK → XK → Prop
abbrev CXT := List Env → Hp → Shared → XK → Value → Shared → Prop

structure Env0 (P : Program) (w : World) (K : PySem.W.Frag) (mg : Str → Option Value) (base : Heap) (A : Around) (outer : List Env) (s : Shared) (H : Hp) : Prop where
  frames : A.frames = some outer
  mod : Mod K mg base
  bs : ∀ b o, base.get? b = some o → s.heap.get? b = some o ∧ H b = none
  bsz : base.objs.size ≤ s.heap.objs.size
  funs : s.heap.FunFrames base outer
  frf : ∀ b ∈ frs outer, H b = none
  hok : HOk P w H s.heap
  bare : AllBare s.gens
def CE (outer : List Env) (P : Program) (w : World) (H : Hp) (s : Shared) (Q : VK) (u : Value) (s' : Shared) : Prop :=
  ∃ v H', s'.os = s.os ∧ AllBare s'.gens ∧ Un (frs outer) [] H H' s.heap s'.heap ∧ HOk P w H' s'.heap ∧ RelV v u ∧ Q v H'
def CR (CX : CXT) (outer : List Env) (P : Program) (w : World) (H : Hp) (s : Shared) (Q : VK) (E : XK) (r : Result) (s' : Shared) : Prop :=
  match r with
  | .ok (.ret u) => CE outer P w H s Q u s'
  | .ok _ => False
  | .error e => CX outer H s E e s'
structure FnOk (P : Program) (w : World) (K : PySem.W.Frag) (mg : Str → Option Value) (base : Heap) (CX : CXT) (k : Nat) (f : Addr) (fd : FuncData) (ps : List Str) (sp : Sp) : Prop where
  len : ∀ vs H Q E, sp vs H Q E → vs.length = ps.length
  run : ∀ (A : Around) (outer : List Env) (s : Shared) (H : Hp) (args : Args) (us : List Value) (vs : List V) (Q : VK) (E : XK), Room k A → Env0 P w K mg base A outer s H → BindsTo s fd args (ps.zip us) → Vals vs us → sp vs H Q E →
    codeAny (model P w) A (.call (.ref f) args) (CR CX outer P w H s Q E) s
theorem FnOk.mono {P : Program} {w : World} {K : PySem.W.Frag} {mg : Str → Option Value} {base : Heap} {CX : CXT} {j k : Nat} {f : Addr} {fd : FuncData} {ps : List Str} {sp : Sp} (F : FnOk P w K mg base CX j f fd ps sp) (h : j ≤ k) :
    FnOk P w K mg base CX k f fd ps sp := ⟨F.len, fun A outer s H args us vs Q E hr => F.run A outer s H args us vs Q E (hr.mono h)⟩
theorem FnOk.imp {P : Program} {w : World} {K : PySem.W.Frag} {mg : Str → Option Value} {base : Heap} {CX : CXT} {k : Nat} {f : Addr} {fd : FuncData} {ps : List Str} {sp sp' : Sp} (F : FnOk P w K mg base CX k f fd ps sp)
    (h : ∀ vs H Q E, sp' vs H Q E → sp vs H Q E) : FnOk P w K mg base CX k f fd ps sp' :=
  ⟨fun vs H Q E q => F.len vs H Q E (h _ _ _ _ q), fun A outer s H args us vs Q E hr he hb hv hs => F.run A outer s H args us vs Q E hr he hb hv (h _ _ _ _ hs)⟩

theorem Env0.in1 {P : Program} {w : World} {K : PySem.W.Frag} {mg : Str → Option Value} {base : Heap} {A : Around} {outer : List Env} {s : Shared} {H : Hp} (e : Env0 P w K mg base A outer s H) :
    Env0 P w K mg base A.in1 outer s H := ⟨e.frames, e.mod, e.bs, e.bsz, e.funs, e.frf, e.hok, e.bare⟩

section
variable {X : Cx} {pins : List (Addr × Obj)} {σ : St} {H : Hp} {s s' : Shared}
theorem Inv.env0 (I : Inv X pins σ H s) : Env0 X.prog X.w X.K X.mg X.base X.A X.stack s H :=
  ⟨I.ok.frames, I.ok.mod, I.bs, Nat.le_trans I.ok.bsz I.sz, I.stack, I.stkFree, I.hok, I.bare⟩
theorem Inv.after {Q : VK} {u : Value} (I : Inv X pins σ H s) (h : CE X.stack X.prog X.w H s Q u s') : EP X pins σ Q u s' := by
  obtain ⟨v, H', os, bare, un, hok, r, q⟩ := h
  obtain ⟨hh, g, d, t, os'⟩ := s'
  obtain rfl : os' = s.os := os
  exact ⟨v, H', I.call (h' := hh) (g' := g) (d' := d) (t' := t) (ch := []) un hok bare (fun b z => absurd z (by simp)), r, q⟩
end

def tCall (sp : Sp) (dvs : List V) (E : XK) (t : TA) : TE := fun σ H Q => t σ H fun vs H1 => sp (vs ++ dvs) H1 Q E
def Binds (K : PySem.W.Frag) (fd : FuncData) (ps : List Str) (ds : List Value) : Prop :=
  ∀ (s : Shared) (us : List Value), K.In s.heap → (us ++ ds).length = ps.length → BindsTo s fd ⟨us, []⟩ (ps.zip (us ++ ds))
theorem Binds.all {K : PySem.W.Frag} {fd : FuncData} {ps : List Str} (h : ∀ us : List Value, us.length = ps.length → bindArgs fd ⟨us, []⟩ = pure (ps.zip us)) : Binds K fd ps [] := fun s us _ hl => by
  rw [List.append_nil] at hl ⊢
  exact .of_eq (h us hl)

def Passes (CX : CXT) (X : Cx) (E : XK) : Prop := ∀ (pins : List (Addr × Obj)) (σ : St) (H : Hp) (s : Shared) (e : Value) (s' : Shared), Inv X pins σ H s → CX X.stack H s E e s' → X.xe e s'

section
variable {X : Cx} {CX : CXT} {k : Nat} {f C : Addr} {fd : FuncData} {ps : List Str} {sp : Sp} {dvs : List V} {ds : List Value} {E : XK} {x m : Str} {p pos apos : Pos} {e o : Expr} {es : List Expr} {ta : TE} {t : TA}

theorem run_fn {pins : List (Addr × Obj)} {σ : St} {H : Hp} {s : Shared} {Q : VK} {us : List Value} {vs : List V} (F : FnOk X.prog X.w X.K X.mg X.base CX k f fd ps sp) (hr : Room k X.A) (hb : Binds X.K fd ps ds) (hd : Vals dvs ds) (hx : Passes CX X E)
    (I : Inv X pins σ H s) (r : Vals vs us) (h : sp (vs ++ dvs) H Q E) : wpAny (model X.prog X.w) X.A (call (.ref f) us) (EP X pins σ Q) X.xe s := by
  have r2 : Vals (vs ++ dvs) (us ++ ds) := r.append hd
  have hl : (us ++ ds).length = ps.length := by rw [← r2.length]; exact F.len _ _ _ _ h
  refine wpAny_call (codeAny_mono (F.run X.A X.stack s H ⟨us, []⟩ (us ++ ds) (vs ++ dvs) Q E hr I.env0 (hb s us I.kIn hl) r2 h) fun r s' hq => ?_)
  cases r with
  | error e => exact hx pins σ H s e s' I hq
  | ok fl =>
    cases fl with
    | ret u => exact I.after hq
    | next => exact False.elim hq
    | brk => exact False.elim hq
    | cont => exact False.elim hq

theorem pe_call (F : FnOk X.prog X.w X.K X.mg X.base CX k f fd ps sp) (hr : Room k X.A) (hg : Gl X x) (hm : X.mg x = some (.ref f)) (hk : PySem.W.keepIn X.K (.ref f) = true) (hb : Binds X.K fd ps ds) (hd : Vals dvs ds) (hx : Passes CX X E)
    (ha : PA X (e :: es) t) (hdb : (x == ("__debug__" : Str)) = false := by decide) (he : starEach (e :: es) X.env = (false, eval e X.env) :: starEach es X.env := by rfl) (hpl : (backTo pos (starEach es X.env)).any (·.1) = false := by rfl) :
    PE X (.Call (.Name x p) (e :: es) [] pos) (tCall sp dvs E t) := by
  intro pins s σ H Q I h
  refine wpAny_Call_Name_kw (ld_glob I hg hm ?_ hdb)
  refine PySem.W.callWith_K (h₀ := X.base) I.ok.mod.kin hk (thn (ha pos pins s σ H _ I h) fun us s1 ⟨vs, H1, I1, r, q⟩ => ⟨I1.kIn, ?_⟩) he hpl
  exact run_fn F hr hb hd hx I1 r q
structure Mk (K : PySem.W.Frag) (C f : Addr) : Prop where
  makes : PySem.W.makesIn K C = true
  init : PySem.W.findIn K (.ref C) "__init__" = some (some (.ref f))
  fn : PySem.W.isFn K (.ref f) = true
  kp : PySem.W.keepIn K (.ref C) = true

end

section
variable {X : Cx} {CX : CXT} {k : Nat} {f C : Addr} {fd : FuncData} {ps ks : List Str} {sp : Sp} {E : XK} {x m : Str} {p pos apos kpos : Pos} {e o : Expr} {es : List Expr} {kws : List Keyword} {te ta : TE} {t tk : TA} {nm : Option Str}
structure KBinds (K : PySem.W.Frag) (fd : FuncData) (ps ks : List Str) (g : List Value → List Value → List Value) (gV : List V → List V → List V) : Prop where
  to : ∀ (s : Shared) (us ws : List Value), K.In s.heap → (g us ws).length = ps.length → BindsTo s fd ⟨us, ks.zip ws⟩ (ps.zip (g us ws))
  rel : ∀ {vs : List V} {us : List Value} {zs : List V} {ws : List Value}, Vals vs us → Vals zs ws → Vals (gV vs zs) (g us ws)
variable {g : List Value → List Value → List Value} {gV : List V → List V → List V}
end

structure FnScope (N P : List Str) (sc : Scope) : Prop where
  kind : sc.kind = .function
  co : sc.isCoroutine = false
  gen : sc.isGenerator = false
  nd : N.Nodup
  pre : N.take P.length = P
  par : ∀ x ∈ P, sc.names.lookup x = some .local ∨ sc.names.lookup x = some .cell
  nofree : ∀ y ∈ sc.names, y.2 ≠ .free

theorem bindL_out {kindOf : Str → Option NameKind} {x : Str} : ∀ {binds : List (Str × Value)} {m : Str → Option Value}, (∀ v, (x, v) ∉ binds) → bindL kindOf binds m x = m x
  | [], _, _ => rfl
  | (n, v) :: r, m, h => by
    unfold bindL
    rw [bindL_out fun w hw => h w (List.mem_cons_of_mem _ hw)]
    split
    · have : x ≠ n := by rintro rfl; exact h v List.mem_cons_self
      simp [this]
    · rfl
theorem bindC_out {kindOf : Str → Option NameKind} {x : Str} : ∀ {binds : List (Str × Value)} {m : Str → Option Value}, (∀ v, (x, v) ∉ binds) → bindC kindOf binds m x = m x
  | [], _, _ => rfl
  | (n, v) :: r, m, h => by
    unfold bindC
    rw [bindC_out fun w hw => h w (List.mem_cons_of_mem _ hw)]
    split
    · rfl
    · have : x ≠ n := by rintro rfl; exact h v List.mem_cons_self
      simp [this]
theorem bindL_get {kindOf : Str → Option NameKind} {x : Str} {v : Value} : ∀ {P : List Str} {vs : List Value} {i : Nat} {m : Str → Option Value}, P.Nodup → P[i]? = some x → vs[i]? = some v → kindOf x = some .local →
    bindL kindOf (P.zip vs) m x = some v
  | [], _, _, _, _, h, _, _ => by simp at h
  | _ :: _, [], _, _, _, _, h, _ => by simp at h
  | p :: P, w :: vs, 0, m, nd, h1, h2, hk => by
    simp at h1 h2; subst h1; subst h2
    show bindL kindOf ((p, w) :: P.zip vs) m p = _
    unfold bindL
    rw [bindL_out fun v hv => (List.nodup_cons.mp nd).1 (List.of_mem_zip hv).1, if_pos hk]
    simp
  | p :: P, w :: vs, i + 1, m, nd, h1, h2, hk => by
    show bindL kindOf ((p, w) :: P.zip vs) m x = _
    unfold bindL
    exact bindL_get (i := i) (List.nodup_cons.mp nd).2 (by simpa using h1) (by simpa using h2) hk
theorem bindC_get {kindOf : Str → Option NameKind} {x : Str} {v : Value} : ∀ {P : List Str} {vs : List Value} {i : Nat} {m : Str → Option Value}, P.Nodup → P[i]? = some x → vs[i]? = some v → kindOf x ≠ some .local →
    bindC kindOf (P.zip vs) m x = some v
  | [], _, _, _, _, h, _, _ => by simp at h
  | _ :: _, [], _, _, _, _, h, _ => by simp at h
  | p :: P, w :: vs, 0, m, nd, h1, h2, hk => by
    simp at h1 h2; subst h1; subst h2
    show bindC kindOf ((p, w) :: P.zip vs) m p = _
    unfold bindC
    rw [bindC_out fun v hv => (List.nodup_cons.mp nd).1 (List.of_mem_zip hv).1, if_neg hk]
    simp
  | p :: P, w :: vs, i + 1, m, nd, h1, h2, hk => by
    show bindC kindOf ((p, w) :: P.zip vs) m x = _
    unfold bindC
    exact bindC_get (i := i) (List.nodup_cons.mp nd).2 (by simpa using h1) (by simpa using h2) hk

def start (N : List Str) (vs : List V) : St := vs.map some ++ List.replicate (N.length - vs.length) none

def cxOf (CX : CXT) (P : Program) (w : World) (K : PySem.W.Frag) (mg : Str → Option Value) (base : Heap) (N : List Str) (qual : Str) (scope : Scope) (f : Addr) (cd : Value) (A : Around) (outer : List Env) (s : Shared) (H : Hp) (E : XK) : Cx where
  prog := P
  w := w
  K := K
  mg := mg
  base := base
  A := A.deeper (envOfC qual scope s.heap.objs.size f cd)
  N := N
  s₀ := s
  H₀ := H
  env := envOfC qual scope s.heap.objs.size f cd
  outer := outer
  stack := envOfC qual scope s.heap.objs.size f cd :: outer
  ex := []
  calm := true
  fn := fun _ => true
  pn := []
  xe := fun e s' => wpAny (model P w) (A.deeper (envOfC qual scope s.heap.objs.size f cd)) (leaving (envOfC qual scope s.heap.objs.size f cd) e) (fun _ s'' => CX outer H s E e s'') (fun e' s'' => CX outer H s E e' s'') s'

theorem cell_has {sc : Scope} {n : Nat} {x : Str} (h : sc.names.lookup x = some .cell) : ∃ c, (cellsFrom n sc.names []).lookup x = some c := by
  have q := PySem.W.cellsFrom_some sc.names n [] (.inl h)
  exact Option.isSome_iff_exists.mp q

theorem inv_start {CX : CXT} {P : Program} {w : World} {K : PySem.W.Frag} {mg : Str → Option Value} {base : Heap} {N ps : List Str} {qual : Str} {scope : Scope} {f : Addr} {cd : Value} {A : Around} {outer : List Env} {s s1 : Shared} {H : Hp} {E : XK} {us : List Value} {vs : List V}
    (S : FnScope N ps scope) (hd : A.handled = none) (e0 : Env0 P w K mg base A outer s H) (hl : vs.length = ps.length) (r : Vals vs us)
    (x : InCallC s s.heap.objs.size (bindL (envOfC qual scope s.heap.objs.size f cd).kindOf (ps.zip us) fun _ => none) (cellsFrom (s.heap.objs.size + 1) scope.names []) (bindC (envOfC qual scope s.heap.objs.size f cd).kindOf (ps.zip us) fun _ => none) s1) :
    Inv (cxOf CX P w K mg base N qual scope f cd A outer s H E) [] (start N vs) H s1 := by
  have hpl : ps.length ≤ N.length := by have := congrArg List.length S.pre; rw [List.length_take] at this; omega
  obtain ⟨h1, tk, rfl, hk⟩ := x.done
  have noA : ∀ b : Addr, b ∉ (cxOf CX P w K mg base N qual scope f cd A outer s H E).ex := fun b z => absurd (show b ∈ ([] : List Addr) from z) (by simp)
  refine ⟨⟨e0.mod, S.kind, rfl, rfl, Nat.le_refl _, fun y z c h1 h2 => ?_, fun y hy => ?_, fun y c _ h => ?_, fun _ => hd, Around.frames_deeper e0.frames, .inr ⟨rfl, rfl⟩, fun b z => absurd z (noA b), e0.bs, e0.bsz, fun b _ _ => noA b, fun b z => absurd z (noA b), e0.funs, e0.frf⟩,
    rfl, e0.bare, Un.kept hk, ⟨_, x.toInCall.ns, fun i y v h1 h2 h3 => ?_⟩, fun y c h => ⟨_, x.cell y c h⟩, e0.hok.fresh (Nat.le_refl _), fun y c h => ?_, fun p hp => absurd (show p ∈ ([] : List (Addr × Obj)) from hp) (by simp), e0.hok.kept hk, ?_⟩
  · exact name_of_addr x.apart (PySem.mem_of_lookup h1) (PySem.mem_of_lookup h2)
  · have hy : scope.names.lookup y = some .cell ∨ scope.names.lookup y = some .free := hy
    rcases hy with hy | hy
    · exact cell_has hy
    · exact absurd rfl (S.nofree _ (PySem.mem_of_lookup hy))
  · exact Nat.le_of_lt (x.above y c (PySem.mem_of_lookup h))
  · have hi : i < vs.length := by
      unfold start at h2
      by_cases hi : i < vs.length
      · exact hi
      · rw [List.getElem?_append_right (by simpa using hi)] at h2
        rw [List.getElem?_replicate] at h2
        split at h2 <;> cases h2
    have ha : vs[i]? = some v := by
      unfold start at h2
      rw [List.getElem?_append_left (by simpa using hi), List.getElem?_map] at h2
      cases e : vs[i]? with
      | none => rw [e] at h2; cases h2
      | some a => rw [e] at h2; cases h2; rfl
    obtain ⟨u, hu, rv⟩ := r.get ha
    have hp : ps[i]? = some y := by
      rw [← S.pre, List.getElem?_take_of_lt (by omega)]; exact h1
    have ndP : ps.Nodup := by rw [← S.pre]; exact S.nd.sublist (List.take_sublist _ _)
    refine ⟨u, rv, ?_⟩
    rcases S.par y (List.mem_of_getElem? hp) with k | k
    · exact .inl ⟨k, bindL_get ndP hp hu k⟩
    · obtain ⟨c, e⟩ := cell_has (n := s.heap.objs.size + 1) k
      refine .inr ⟨.inl k, c, e, ?_⟩
      have q := x.cell y c e
      rw [bindC_get ndP hp hu (by show scope.names.lookup y ≠ _; rw [k]; decide)] at q
      exact q
  · exact e0.hok.fresh (Nat.le_of_lt (x.above y c (PySem.mem_of_lookup h)))
  · unfold start
    show _ = N.length
    rw [List.length_append, List.length_map, List.length_replicate]
    omega

theorem fn_of {CX : CXT} {P : Program} {w : World} {K : PySem.W.Frag} {mg : Str → Option Value} {base : Heap} {k : Nat} {f : Addr} {name qual : Str} {params : Arguments} {body : List Stmt} {scope : Scope} {dV kV doc pm cdv ct oc : Value} {an od : Option Addr}
    {osl : Array (Option Value)} {N ps : List Str} {sp : Sp} (lk : K.lookup f = some ⟨oc, od, .func (PySem.W.fnOf name qual params body scope dV kV doc pm an cdv ct), osl⟩) (hcd : PySem.W.codeIn K cdv qual = true) (S : FnScope N ps scope)
    (len : ∀ vs H Q E, sp vs H Q E → vs.length = ps.length)
    (hbody : ∀ (A : Around) (outer : List Env) (s : Shared) (H : Hp) (vs : List V) (Q : VK) (E : XK), Room k (A.deeper (envOfC qual scope s.heap.objs.size f cdv)) → sp vs H Q E →
      ∃ t, PSs (cxOf CX P w K mg base N qual scope f cdv A outer s H E) body t ∧ t { nx := fun _ H' => Q .non H', rt := Q } (start N vs) H) :
    FnOk P w K mg base CX (k + 1) f (PySem.W.fnOf name qual params body scope dV kV doc pm an cdv ct) ps sp := by
  refine ⟨len, fun A outer s H args us vs Q E hr e0 hb r hsp => ?_⟩
  have hl := len _ _ _ _ hsp
  have KX : K.In s.heap := e0.mod.kin.keeps fun b o e => (e0.bs b o e).1
  have lim : s.heap.NoLimit := e0.mod.nolimit.keeps fun b o e => (e0.bs b o e).1
  have hkind : ∀ y ∈ ps.zip us, scope.names.lookup y.1 = some .local ∨ (scope.names.lookup y.1 = some .cell ∧ ((cellsFrom (s.heap.objs.size + 1) scope.names []).lookup y.1).isSome = true) := fun ⟨n, v⟩ hy => by
    rcases S.par n (List.of_mem_zip hy).1 with q | q
    · exact .inl q
    · exact .inr ⟨q, PySem.W.cellsFrom_some _ _ _ (.inl q)⟩
  refine codeAny_call_function hr.depth (KX _ _ lk) rfl S.co S.gen rfl (PySem.W.codeRec_of KX hcd) (hb _ _ _ _ ?_)
  refine wpAny_newFunctionEnv_cells S.kind hkind fun env he s1 x => ?_
  subst he
  refine ⟨lim.keeps x.toInCall.keep, codeAny_func ?_⟩
  obtain ⟨t, ht, hq⟩ := hbody A outer s H vs Q E (hr.deeper _) hsp
  have I : Inv (cxOf CX P w K mg base N qual scope f cdv A outer s H E) [] (start N vs) H s1 := inv_start S hr.hd e0 hl r x
  refine wpAny_mono (ht [] s1 (start N vs) H _ I hq) (fun fl s' hs => ?_) fun e s' hs => hs
  have fin : ∀ {σ' : St} {H' : Hp} {v : V} {u : Value}, Inv (cxOf CX P w K mg base N qual scope f cdv A outer s H E) [] σ' H' s' → RelV v u → Q v H' → CE outer P w H s Q u s' :=
    fun {σ' H' v u} J rv q => ⟨v, H', J.os, J.bare, J.base, J.hok, rv, q⟩
  cases fl with
  | ret u =>
    obtain ⟨v, σ', H', J, rv, q⟩ := hs
    exact fin J rv q
  | next =>
    obtain ⟨σ', H', J, q⟩ := hs
    exact fin (v := V.non) (u := Value.none) J rfl q
  | brk =>
    obtain ⟨_, _, _, q⟩ := hs
    exact False.elim q
  | cont =>
    obtain ⟨_, _, _, q⟩ := hs
    exact False.elim q
end L2

namespace L2
open PySem PySem.Spec PyProof.Rows
section
variable {X : Cx} {x : Str} {p pos : Pos} {e : Expr} {es : List Expr} {t : TA} {id T : String} {r : List V → Hp → VK → Prop}

def tCB (r : List V → Hp → VK → Prop) (t : TA) : TE := fun σ H Q => t σ H fun vs H1 => r vs H1 Q
theorem pe_callB (hc : CallR X (.builtin id) r) (hg : Gl X x) (hm : X.mg x = none) (hv : bootBuiltins x = some (.builtin id)) (ha : PA X (e :: es) t) (hn : x ≠ "__name__" := by decide) (hdb : (x == ("__debug__" : Str)) = false := by decide)
    (he : starEach (e :: es) X.env = (false, eval e X.env) :: starEach es X.env := by rfl) (hpl : (backTo pos (starEach es X.env)).any (·.1) = false := by rfl) : PE X (.Call (.Name x p) (e :: es) [] pos) (tCB r t) := by
  intro pins s σ H Q I h
  refine wpAny_Call_Name_kw (ld_blt I hg hm hv ?_ hn hdb)
  exact PyProof.Rows.callWith_builtin1 (thn (ha pos pins s σ H _ I h) fun us s1 ⟨vs, H1, I1, r1, q1⟩ => hc pins s1 σ H1 vs us Q I1 r1 q1) he hpl
theorem pe_callTy (hc : CallR X (.type T) r) (hg : Gl X x) (hm : X.mg x = none) (hv : bootBuiltins x = some (.type T)) (ha : PA X (e :: es) t) (hn : x ≠ "__name__" := by decide) (hdb : (x == ("__debug__" : Str)) = false := by decide)
    (he : starEach (e :: es) X.env = (false, eval e X.env) :: starEach es X.env := by rfl) (hpl : (backTo pos (starEach es X.env)).any (·.1) = false := by rfl) : PE X (.Call (.Name x p) (e :: es) [] pos) (tCB r t) := by
  intro pins s σ H Q I h
  refine wpAny_Call_Name_kw (ld_blt I hg hm hv ?_ hn hdb)
  exact PyProof.Rows.callWith_type1 (thn (ha pos pins s σ H _ I h) fun us s1 ⟨vs, H1, I1, r1, q1⟩ => hc pins s1 σ H1 vs us Q I1 r1 q1) he hpl
end
end L2

namespace HT
open PySem PyProof.Rows

def lexLt : List Int → List Int → Bool
  | [], [] => false
  | [], _ :: _ => true
  | _ :: _, [] => false
  | x :: xs, y :: ys => if x = y then lexLt xs ys else decide (x < y)
theorem lexLt_cons (x y : Int) (xs ys : List Int) : lexLt (x :: xs) (y :: ys) = if x = y then lexLt xs ys else decide (x < y) := rfl
section
open PySem.SeqAt
open PySem.AutoSeq1 (wpAny_loadPart')
open PySem.MeetsSeq PySem.MeetsSeq2 PySem.MeetsSeq3

end

section
variable {prog : Program} {w : World} {A : Around} {E : Value → Shared → Prop} {s : Shared}

end
end HT

namespace L2
open PySem PySem.Spec PyProof.Rows

abbrev TO := St → Hp → (Option Int → Hp → Prop) → Prop
def PO (X : Cx) (e : Option Expr) (t : TO) : Prop :=
  ∀ (pins : List (Addr × Obj)) (s : Shared) (σ : St) (H : Hp) (Q : Option Int → Hp → Prop), Inv X pins σ H s → t σ H Q →
    wpAny (model X.prog X.w) X.A (evalPart e X.env) (fun u s' => ∃ o H', Inv X pins σ H' s' ∧ IsPart u o ∧ Q o H') X.xe s
def tNoPart : TO := fun _ H Q => Q none H
def tPart (t : TE) : TO := fun σ H Q => t σ H fun x H1 => ∃ i, x = .int i ∧ Q (some i) H1

theorem intsAre_of {ns : List Int} : ∀ {us : List Value}, Vals (ns.map V.int) us → IntsAre us ns := by
  induction ns with
  | nil => intro us r; rw [List.map_nil] at r; cases r; exact .nil
  | cons n ns ih =>
    intro us r
    rw [List.map_cons] at r
    cases r with
    | cons r1 r2 =>
      obtain ⟨t, e⟩ := r1
      subst e
      exact .cons n t (ih r2)

section
variable {X : Cx} {e : Expr} {te : TE} {lo hi : Option Expr} {tl th : TO} {pos p2 : Pos}

theorem po_none : PO X none tNoPart := by
  intro pins s σ H Q I h
  rw [evalPart_none]
  exact wpAny_pure ⟨none, H, I, .none, h⟩
theorem po_some (h : PE X e te) : PO X (some e) (tPart te) := by
  intro pins s σ H Q I hw
  rw [evalPart_some]
  refine thn (h pins s σ H _ I hw) fun u s1 ⟨x, H1, I1, r1, q1⟩ => ?_
  obtain ⟨i, rfl, q⟩ := q1
  obtain ⟨t, rfl⟩ := r1
  exact ⟨some i, H1, I1, .int i t, q⟩

def SlR (X : Cx) (r : V → Option Int → Option Int → Hp → VK → Prop) : Prop :=
  ∀ (pins : List (Addr × Obj)) (s : Shared) (σ : St) (H : Hp) (x : V) (v vl vu : Value) (lo hi : Option Int) (sl : Addr) (Q : VK), Inv X pins σ H s → RelV x v → s.heap.IsSliceOf sl vl vu .none → IsPart vl lo → IsPart vu hi → r x lo hi H Q →
    ∃ T id, typeLookup (.type T) "__getitem__" = pure (some (.builtin id)) ∧ s.TypeIs v T ∧ wpAny (model X.prog X.w) X.A (getItem v (.ref sl)) (EP X pins σ Q) X.xe s
def tSl (r : V → Option Int → Option Int → Hp → VK → Prop) (te : TE) (tl th : TO) : TE := fun σ H Q => te σ H fun x H1 => tl σ H1 fun l H2 => th σ H2 fun u H3 => r x l u H3 Q
theorem pe_slice {r : V → Option Int → Option Int → Hp → VK → Prop} (hr : SlR X r) (he : PE X e te) (hl : PO X lo tl) (hu : PO X hi th) : PE X (.Subscript e (.Slice lo hi none p2) pos) (tSl r te tl th) := by
  intro pins s σ H Q I h
  refine Subscript_ (thn (he pins s σ H _ I h) fun v s1 ⟨x, H1, I1, r1, q1⟩ => ?_)
  refine wpAny_Slice (thn (hl pins s1 σ H1 _ I1 q1) fun vl s2 ⟨l, H2, I2, pl, q2⟩ => thn (hu pins s2 σ H2 _ I2 q2) fun vu s3 ⟨u, H3, I3, pu, q3⟩ => ?_)
  rw [evalPart_none]
  refine wpAny_pure ?_
  have I4 : Inv X pins σ H3 { s3 with heap := s3.heap.push { cls := .type "slice", data := .fields #[vl, vu, .none] } } := I3.kept (t' := s3.toks) fun b ob q => Heap.get?_push_of_some _ q
  obtain ⟨T, id, hT, ht, hg⟩ := hr pins { s3 with heap := s3.heap.push { cls := .type "slice", data := .fields #[vl, vu, .none] } } σ H3 x v vl vu l u s3.heap.objs.size Q I4 r1 (Heap.IsSliceOf.new ..) pl pu q3
  show wpAny (model X.prog X.w) X.A (subscriptTail e (.Slice lo hi none p2) v (.ref s3.heap.objs.size)) (EP X pins σ Q) X.xe { s3 with heap := s3.heap.push { cls := .type "slice", data := .fields #[vl, vu, .none] } }
  exact tail_any (ops := [.ref s3.heap.objs.size, v]) ht hT hg (by with_unfolding_all rfl)

end
end L2

namespace L2
open PySem PySem.Spec PyProof.Rows

def ixN (n : Nat) (i : Int) : Option Nat := if 0 ≤ i then (if i < n then some i.toNat else none) else if -(n : Int) ≤ i then some (i + n).toNat else none
def atI {α : Type} (xs : List α) (i : Int) : Option α := (ixN xs.length i).bind fun j => xs[j]?
theorem ixN_seq {n : Nat} {i : Int} {j : Nat} (h : ixN n i = some j) : seqIndex? i n = some j ∧ j < n ∧ -(n : Int) ≤ i ∧ i < n := by
  unfold ixN at h
  by_cases h0 : 0 ≤ i
  · rw [if_pos h0] at h
    by_cases h1 : i < n
    · rw [if_pos h1] at h
      have e : i.toNat = j := Option.some.inj h
      exact ⟨by rw [seqIndex_of h0 h1, e], by omega, by omega, h1⟩
    · rw [if_neg h1] at h; cases h
  · rw [if_neg h0] at h
    by_cases h1 : -(n : Int) ≤ i
    · rw [if_pos h1] at h
      have e : (i + n).toNat = j := Option.some.inj h
      exact ⟨by rw [seqIndex_neg (by omega) h1, e], by omega, h1, by omega⟩
    · rw [if_neg h1] at h; cases h
theorem atI_get {α : Type} {xs : List α} {i : Int} {v : α} (h : atI xs i = some v) : ∃ j, seqIndex? i xs.length = some j ∧ xs[j]? = some v ∧ j < xs.length ∧ -(xs.length : Int) ≤ i ∧ i < xs.length := by
  unfold atI at h
  cases e : ixN xs.length i with
  | none => rw [e] at h; cases h
  | some j =>
    rw [e] at h
    obtain ⟨h1, h2, h3, h4⟩ := ixN_seq e
    exact ⟨j, h1, h, h2, h3, h4⟩
theorem atI_nat {α : Type} {xs : List α} {j : Nat} {v : α} (h : xs[j]? = some v) : atI xs (j : Int) = some v := by
  have hj : j < xs.length := (List.getElem?_eq_some_iff.mp h).1
  have e : ixN xs.length (j : Int) = some j := by
    unfold ixN
    rw [if_pos (by omega), if_pos (by omega)]; simp
  unfold atI; rw [e]; exact h
def PlainIx (b : Expr) : Prop := ∀ o i, subscripted b false o i = operate [o, i] (getItem o i)
def IxR (X : Cx) (r : R2) : Prop :=
  ∀ (value slice : Expr) (pins : List (Addr × Obj)) (s : Shared) (σ : St) (H : Hp) (x y : V) (v u : Value) (Q : VK), Inv X pins σ H s → RelV x v → RelV y u → r x y H Q →
    subscripted slice false v u = operate [v, u] (getItem v u) → wpAny (model X.prog X.w) X.A (subscriptTail value slice v u) (EP X pins σ Q) X.xe s
def MtR (X : Cx) (id : String) (r : V → List V → Hp → VK → Prop) : Prop :=
  ∀ (pins : List (Addr × Obj)) (s : Shared) (σ : St) (H : Hp) (x : V) (xs : List V) (v : Value) (us : List Value) (Q : VK), Inv X pins σ H s → RelV x v → Vals xs us → r x xs H Q →
    wpAny (model X.prog X.w) X.A (call (.builtin id) (v :: us)) (EP X pins σ Q) X.xe s
section
variable {X : Cx} {a b : Expr} {ta tb : TE} {pos : Pos}
theorem pe_ix {r : R2} (hr : IxR X r) (ha : PE X a ta) (hb : PE X b tb) (hs : PlainIx b) : PE X (.Subscript a b pos) (tOp r ta tb) := by
  intro pins s σ H Q I h
  exact Subscript_ (binT ha hb I h fun v u s2 x y H2 I2 rx ry q => hr a b pins s2 σ H2 x y v u Q I2 rx ry q (hs _ _))

def rIxL (K : PySem.W.Frag) : R2 := fun x y H Q => ∃ p xs i v, x = .ref p ∧ y = .int i ∧ SqL K H p xs ∧ atI xs i = some v ∧ Q v H
def rIxT (K : PySem.W.Frag) : R2 := fun x y H Q => ∃ p xs i v, x = .ref p ∧ y = .int i ∧ SqT K H p xs ∧ atI xs i = some v ∧ Q v H
def rIxS : R2 := fun x y H Q => ∃ z i c, x = .str z ∧ y = .int i ∧ z.length ≤ sizeLine ∧ atI z.cps.toList i = some c ∧ Q (.str ⟨#[c]⟩) H
theorem ix_list : IxR X (rIxL X.K) := by
  intro value slice pins s σ H x y v u Q I rx ry h hs
  obtain ⟨p, xs, i, z, rfl, rfl, hq, he, q⟩ := h
  cases rx
  obtain ⟨t, rfl⟩ := ry
  obtain ⟨its, r, pl, hz⟩ := I.list hq
  obtain ⟨j, h1, h2, h3, h4, h5⟩ := atI_get he
  obtain ⟨w, ew, rw'⟩ := r.get h2
  have hl := r.length
  have hn := line63
  have fin : EP X pins σ Q w s := ⟨z, H, I, rw', q⟩
  by_cases h0 : 0 ≤ i
  · have hj : i.toNat = j := by
      rw [seqIndex_of h0 h5] at h1
      exact Option.some.inj h1
    exact item_listR pl.isList h0 (by omega) (by rw [hj]; simpa using ew) fin hs
  · have hj : (i + (its.toArray.size : Int)).toNat = j := by
      rw [seqIndex_neg (by omega) h4] at h1
      rw [List.size_toArray, ← hl]
      exact Option.some.inj h1
    exact subscriptTail_builtinR (x := w) pl.isList.typeIs slot_list_getitem.lookup
      (wpAny_getItem_list_neg (Q := fun r s' => r = w ∧ EP X pins σ Q r s') pl.isList (by omega) (by rw [List.size_toArray] <;> omega) (by omega) (by rw [hj]; simpa using ew) ⟨rfl, fin⟩) hs
theorem ix_tup : IxR X (rIxT X.K) := by
  intro value slice pins s σ H x y v u Q I rx ry h hs
  obtain ⟨p, xs, i, z, rfl, rfl, hq, he, q⟩ := h
  cases rx
  obtain ⟨t, rfl⟩ := ry
  obtain ⟨its, r, pl, hz⟩ := I.tuple hq
  obtain ⟨j, h1, h2, h3, h4, h5⟩ := atI_get he
  obtain ⟨w, ew, rw'⟩ := r.get h2
  have hl := r.length
  have hn := line63
  have fin : EP X pins σ Q w s := ⟨z, H, I, rw', q⟩
  exact subscriptTail_builtinR (x := w) pl.typeIs slot_tuple_getitem.lookup
    (getItem_tuple (j := j) (Q := fun r s' => r = w ∧ EP X pins σ Q r s') pl (by omega) (by omega) (by rw [List.size_toArray, ← hl]; exact h1) (by simpa using ew) ⟨rfl, fin⟩) hs
theorem ix_str : IxR X rIxS := by
  intro value slice pins s σ H x y v u Q I rx ry h hs
  obtain ⟨z, i, c, rfl, rfl, hz, he, q⟩ := h
  obtain ⟨t, rfl⟩ := rx
  obtain ⟨t', rfl⟩ := ry
  obtain ⟨j, h1, h2, h3, h4, h5⟩ := atI_get he
  have hl : z.cps.toList.length = z.length := by simp [Str.length]
  rw [hl] at h1 h4 h5
  have hn := line63
  exact tail_any (typeIs_str s z t) slot_str_getitem.lookup (getItem_str (c := c) (by
    have e1 : decide (i < -(2 ^ 63 : Int)) = false := decide_eq_false (by omega)
    have e2 : decide (i ≥ 2 ^ 63) = false := decide_eq_false (by omega)
    rw [e1, e2, Bool.or_false]) (by rw [h1]; simpa using h2) ⟨.str ⟨#[c]⟩, H, I.tok _, ⟨_, rfl⟩, q⟩) hs
theorem mapSeq_set (its : List Value) (n j : Nat) (u : Value) : Obj.mapSeq (·.setIfInBounds j u) { cls := .type "list", data := .seq its.toArray n } = { cls := .type "list", data := .seq (its.set j u).toArray n } := by
  simp [Obj.mapSeq]
theorem Inv.lst {pins : List (Addr × Obj)} {σ : St} {H : Hp} {s : Shared} {p : Addr} {xs : List V} (I : Inv X pins σ H s) (h : H p = some (.lst xs)) :
    ∃ (its : List Value) (n : Nat), Vals xs its ∧ s.heap.get? p = some { cls := .type "list", data := .seq its.toArray n } ∧ xs.length ≤ sizeLine := by
  obtain ⟨z, its, n, r, e⟩ := I.hok p _ h
  exact ⟨its, n, r, e, z⟩
theorem Inv.lstUpd {pins : List (Addr × Obj)} {σ : St} {H : Hp} {s : Shared} {p : Addr} {xs ys : List V} {its its' : List Value} {n n' : Nat} {f : Obj → Obj} (I : Inv X pins σ H s) (h : H p = some (.lst xs))
    (ho : s.heap.get? p = some { cls := .type "list", data := .seq its.toArray n }) (hf : f { cls := .type "list", data := .seq its.toArray n } = { cls := .type "list", data := .seq its'.toArray n' }) (r : Vals ys its') (hz : ys.length ≤ sizeLine) (t : Nat) :
    Inv X pins σ (upd H p (.lst ys)) { s with heap := s.heap.update p f, toks := t } := by
  have e : (s.heap.update p f).get? p = some { cls := .type "list", data := .seq its'.toArray n' } := by
    rw [Heap.get?_update_self f ho (by rw [hf] <;> rfl), hf]
  refine I.write (x := p) (e := p) (by rw [h]; trivial) (.inl rfl) (fun b u hb q => (Heap.get?_update_other _ _ (Ne.symm hb)).trans q) ⟨_, e⟩ ?_
  exact ⟨hz, its', n', r, e⟩
def rSetL : V → V → V → Hp → (Hp → Prop) → Prop := fun o i v H Q => ∃ p xs k j, o = .ref p ∧ i = .int k ∧ H p = some (.lst xs) ∧ ixN xs.length k = some j ∧ Q (upd H p (.lst (xs.set j v)))
theorem set_list : PSet X rSetL := by
  intro pins s σ H o i v ov iv u Q I ro ri rv h
  obtain ⟨p, xs, k, j, rfl, rfl, hp, hj, q⟩ := h
  cases ro
  obtain ⟨t, rfl⟩ := ri
  obtain ⟨its, n, r, ho, hz⟩ := I.lst hp
  obtain ⟨h1, h2, h3, h4⟩ := ixN_seq hj
  have hl := r.length
  have hn := line63
  have I' : Inv X pins σ (upd H p (.lst (xs.set j v))) { s with heap := s.heap.update p (Obj.mapSeq (·.setIfInBounds j u)) } :=
    I.lstUpd hp ho (mapSeq_set its n j u) (r.set rv j) (by rw [List.length_set]; exact hz) s.toks
  by_cases h0 : 0 ≤ k
  · have hk : k.toNat = j := by
      rw [seqIndex_of h0 h4] at h1
      exact Option.some.inj h1
    exact PySem.W.ki_setAt ho h0 (by omega) (by rw [List.size_toArray, ← hl]; exact h4) (by rw [hk]; exact ⟨_, I', q⟩)
  · have hk : (k + (its.toArray.size : Int)).toNat = j := by
      rw [seqIndex_neg (by omega) h3] at h1
      rw [List.size_toArray, ← hl]
      exact Option.some.inj h1
    exact PySem.W.ki_setBack ho (by omega) (by rw [List.size_toArray, ← hl]; exact h3) (by omega) (by rw [hk]; exact ⟨_, I', q⟩)

def flatV : V → Bool
  | .non => true
  | .bl _ => true
  | .int _ => true
  | .str _ => true
  | _ => false
def eqV : V → V → Bool
  | .non, .non => true
  | .bl a, .bl b => a == b
  | .bl a, .int b => (if a then 1 else 0) == b
  | .int a, .bl b => a == (if b then 1 else 0)
  | .int a, .int b => a == b
  | .str a, .str b => a == b
  | _, _ => false
theorem eqAt_V {A : Around} {s : Shared} {y x : V} {u v : Value} (ry : RelV y u) (rx : RelV x v) (fy : flatV y = true) (fx : flatV x = true) : SeqAt.EqAt A s u v (eqV y x) := by
  cases y with
  | non =>
    cases ry
    cases x with
    | non => cases rx; exact SeqAt.EqAt.same _
    | bl b => cases rx; exact SeqAt.EqAt.none_bool b
    | int b => obtain ⟨t, rfl⟩ := rx; exact SeqAt.EqAt.none_int b t
    | str b => obtain ⟨t, rfl⟩ := rx; exact SeqAt.EqAt.none_str b t
    | _ => exact absurd (show false = true from fx) Bool.false_ne_true
  | bl a =>
    cases ry
    cases x with
    | non => cases rx; exact SeqAt.EqAt.bool_none a
    | bl b => cases rx; exact SeqAt.EqAt.bool_bool a b
    | int b => obtain ⟨t, rfl⟩ := rx; exact SeqAt.EqAt.bool_int a b t
    | str b => obtain ⟨t, rfl⟩ := rx; exact SeqAt.EqAt.bool_str a b t
    | _ => exact absurd (show false = true from fx) Bool.false_ne_true
  | int a =>
    obtain ⟨t', rfl⟩ := ry
    cases x with
    | non => cases rx; exact SeqAt.EqAt.int_none a t'
    | bl b => cases rx; exact SeqAt.EqAt.int_bool a t' b
    | int b => obtain ⟨t, rfl⟩ := rx; exact SeqAt.EqAt.int_int a t' b t
    | str b => obtain ⟨t, rfl⟩ := rx; exact SeqAt.EqAt.int_str a t' b t
    | _ => exact absurd (show false = true from fx) Bool.false_ne_true
  | str a =>
    obtain ⟨t', rfl⟩ := ry
    cases x with
    | non => cases rx; exact SeqAt.EqAt.str_none a t'
    | bl b => cases rx; exact SeqAt.EqAt.str_bool a t' b
    | int b => obtain ⟨t, rfl⟩ := rx; exact SeqAt.EqAt.str_int a t' b t
    | str b => obtain ⟨t, rfl⟩ := rx; exact SeqAt.EqAt.str_str a t' b t
    | _ => exact absurd (show false = true from fx) Bool.false_ne_true
  | _ => exact absurd (show false = true from fy) Bool.false_ne_true
theorem call_len_seq : CallR X (.builtin "len") (fun xs H Q => ∃ p ys, xs = [.ref p] ∧ (SqL X.K H p ys ∨ SqT X.K H p ys) ∧ Q (.int ys.length) H) := by
  intro pins s σ H xs us Q I r h
  obtain ⟨p, ys, rfl, hq, q⟩ := h
  obtain ⟨u, rfl, rx⟩ := vals1 r
  cases rx
  have hn := line63
  rcases hq with hq | hq
  · obtain ⟨its, r', pl, hz⟩ := I.list hq
    have hlen := r'.length
    exact Calls.call_len_list pl.isList (by simp only [List.size_toArray] <;> omega) ⟨.int ys.length, H, I.tok _, ⟨s.toks + 1, by rw [List.size_toArray, hlen]⟩, q⟩
  · obtain ⟨its, r', pl, hz⟩ := I.tuple hq
    have hlen := r'.length
    exact len_tuple pl (by simp only [List.size_toArray] <;> omega) ⟨.int ys.length, H, I.tok _, ⟨s.toks + 1, by rw [List.size_toArray, hlen]⟩, q⟩
theorem call_len_str : CallR X (.builtin "len") (fun xs H Q => ∃ z, xs = [.str z] ∧ z.length ≤ sizeLine ∧ Q (.int z.length) H) := by
  intro pins s σ H xs us Q I r h
  obtain ⟨z, rfl, hz, q⟩ := h
  obtain ⟨u, rfl, t, rfl⟩ := vals1 r
  have hn := line63
  exact len_str (by omega) ⟨.int z.length, H, I.tok _, ⟨_, rfl⟩, q⟩
theorem call_tuple_of : CallR X (.type "tuple") (fun xs H Q => ∃ p ys, xs = [.ref p] ∧ ((SqL X.K H p ys ∧ ∀ l, H l = none → Q (.ref l) (upd H l (.tup ys))) ∨ (SqT X.K H p ys ∧ Q (.ref p) H))) := by
  intro pins s σ H xs us Q I r h
  obtain ⟨p, ys, rfl, h⟩ := h
  obtain ⟨u, rfl, rx⟩ := vals1 r
  cases rx
  rcases h with ⟨hq, q⟩ | ⟨hq, q⟩
  · obtain ⟨its, r', pl, hz⟩ := I.list hq
    have hlen := r'.length
    refine call_tuple_list pl.isList (fun h' kp => ?_) (by simp only [List.size_toArray] <;> omega)
    have I1 : Inv X pins σ H { s with heap := h' } := I.kept (t' := s.toks) kp
    have I2 : Inv X pins σ (upd H h'.objs.size (.tup ys)) { s with heap := h'.push { cls := .type "tuple", data := .seq its.toArray } } :=
      I1.laid (t' := s.toks) (fun b o e => Heap.get?_push_of_some _ e) (Nat.le_refl _) (show ObjOk X.prog X.w _ _ _ (.tup ys) from ⟨hz, its, r', IsTup.new _ _⟩)
    exact ⟨.ref h'.objs.size, _, I2, rfl, q _ (I1.hok.fresh (Nat.le_refl _))⟩
  · obtain ⟨its, r', pl, hz⟩ := I.tuple hq
    exact call_tuple_same pl ⟨.ref p, H, I, rfl, q⟩

def tyV (K : PySem.W.Frag) (T : String) (x : V) (H : Hp) : Prop := match x with
  | .str _ => T = "str"
  | .int _ => T = "int"
  | .ref p => (T = "list" ∧ ∃ xs, SqL K H p xs) ∨ (T = "tuple" ∧ ∃ o, K.lookup p = some o ∧ o.cls = .type "tuple" ∧ o.dict = none) ∨
      (T = "dict" ∧ ((∃ kvs, H p = some (.dK kvs)) ∨ ∃ kvs, H p = some (.dT kvs))) ∨ (T = "set" ∧ ∃ S n, H p = some (.set S n))
  | _ => False
theorem tyV_is {pins : List (Addr × Obj)} {σ : St} {H : Hp} {s : Shared} {T : String} {x : V} {v : Value} (I : Inv X pins σ H s) (r : RelV x v) (ty : tyV X.K T x H) :
    s.TypeIs v T ∧ ∀ a, v = .ref a → ∃ ob, s.heap.get? a = some ob ∧ ob.dict = none := by
  cases x with
  | str z =>
    obtain ⟨t, rfl⟩ := r
    cases (show T = "str" from ty)
    exact ⟨typeIs_str s z t, fun _ e => nomatch e⟩
  | int i =>
    obtain ⟨t, rfl⟩ := r
    cases (show T = "int" from ty)
    exact ⟨typeIs_int s i t, fun _ e => nomatch e⟩
  | ref p =>
    cases r
    rcases ty with ⟨rfl, xs, hq⟩ | ⟨rfl, o, hk, hc, hd⟩ | ⟨rfl, hk⟩ | ⟨rfl, S, n, hk⟩
    · obtain ⟨its, _, pl, _⟩ := I.list hq
      refine ⟨pl.isList.typeIs, fun a e => ?_⟩
      cases e
      obtain ⟨o, n, e, c, hd, _⟩ := pl
      exact ⟨o, e, hd⟩
    · refine ⟨⟨o, I.kIn p o hk, hc⟩, fun a e => ?_⟩
      cases e
      exact ⟨o, I.kIn _ o hk, hd⟩
    · have z : ∃ o, s.heap.get? p = some o ∧ o.ExactDict := by
        rcases hk with ⟨kvs, hk⟩ | ⟨kvs, hk⟩
        · obtain ⟨_, _, _, _, o, _, _, e, ex, _⟩ := I.hok p _ hk
          exact ⟨o, e, ex⟩
        · obtain ⟨_, _, _, _, o, _, _, e, ex, _⟩ := I.hok p _ hk
          exact ⟨o, e, ex⟩
      obtain ⟨o, e, ex⟩ := z
      refine ⟨⟨o, e, ex.1⟩, fun a e2 => ?_⟩
      cases e2
      exact ⟨o, e, ex.2.1⟩
    · obtain ⟨o, _, _, _, e, ex, _⟩ := I.hok p _ hk
      refine ⟨⟨o, e, ex.1⟩, fun a e2 => ?_⟩
      cases e2
      exact ⟨o, e, ex.2.1⟩
  | _ => exact False.elim ty
def tBM (K : PySem.W.Frag) (T : String) (r : V → List V → Hp → VK → Prop) (to : TE) (t : TA) : TE := fun σ H Q => to σ H fun x H1 => tyV K T x H1 ∧ t σ H1 fun xs H2 => r x xs H2 Q
variable {o e : Expr} {es : List Expr} {to : TE} {t : TA} {name : Str} {apos cpos : Pos} {T id : String} {r : V → List V → Hp → VK → Prop}
theorem pe_bm (pa : PlainAttrs T) (slot : Slot T name id) (hty : typeOf (.builtin id) = pure (.type "method_descriptor")) (hm : MtR X id r) (ho : PE X o to) (ha : PA X (e :: es) t)
    (hbase : attributeBase o name X.env (eval o X.env) = eval o X.env := by rfl)
    (hfew : ((backTo cpos (starEach (e :: es) X.env)).all (fun x => !x.1) && (backToKw cpos (keywordEach [] X.env)).all (fun x => x.1.isSome)
      && decide ((e :: es).length + ([] : List Keyword).length + (if ([] : List Keyword).isEmpty then 0 else 1) < 30)) = true := by rfl)
    (hline : (apos.endLine == cpos.line) = true := by rfl) (hs : starEach (e :: es) X.env = (false, eval e X.env) :: starEach es X.env := by rfl) (hplain : (backTo cpos (starEach es X.env)).any (·.1) = false := by rfl) :
    PE X (.Call (.Attribute o name apos) (e :: es) [] cpos) (tBM X.K T r to t) := by
  intro pins s σ H Q I h
  refine wpAny_Call_method_late hbase hfew hline rfl (thn (ho pins s σ H _ I h) fun v s1 ⟨x, H1, I1, r1, ty, q1⟩ => ?_)
  obtain ⟨h1, h2⟩ := tyV_is I1 r1 ty
  refine ⟨T, id, pa, slot, hty, h1, h2, ?_⟩
  have hA := ha cpos pins s1 σ H1 _ I1 q1
  rw [hs] at hA ⊢
  refine Calls.callWith_builtin (by show (false || (backTo cpos (starEach es X.env)).any (·.1)) = false; rw [hplain] <;> rfl) (Calls.evalArgs_plain ?_)
  exact thn hA fun us s2 ⟨vs, H2, I2, r2, q2⟩ => hm pins s2 σ H2 x vs v us Q I2 r1 r2 q2
end
end L2

namespace L2
open PySem PySem.Spec PyProof.Rows

def MtM (X : Cx) (id : String) (r : V → List V → Hp → VK → Prop) : Prop :=
  ∀ (pins : List (Addr × Obj)) (s : Shared) (σ : St) (H : Hp) (x : V) (xs : List V) (v : Value) (us : List Value) (Q : VK), Inv X pins σ H s → RelV x v → Vals xs us → r x xs H Q →
    wpAny (model X.prog X.w) X.A (call (.builtin id) (v :: us)) (EP X pins σ Q) X.xe s

theorem Vals.one : ∀ {x : V} {us : List Value}, Vals [x] us → ∃ u, us = [u] ∧ RelV x u
  | _, _, .cons r .nil => ⟨_, rfl, r⟩
theorem Vals.two : ∀ {x y : V} {us : List Value}, Vals [x, y] us → ∃ u v, us = [u, v] ∧ RelV x u ∧ RelV y v
  | _, _, _, .cons r (.cons q .nil) => ⟨_, _, rfl, r, q⟩
theorem Vals.zero : ∀ {us : List Value}, Vals [] us → us = []
  | _, .nil => rfl
theorem Vals.reverse {xs : List V} {us : List Value} (h : Vals xs us) : Vals xs.reverse us.reverse := by
  induction h with
  | nil => exact .nil
  | cons r t ih => rw [List.reverse_cons, List.reverse_cons]; exact Vals.append ih (.cons r .nil)
section
variable {X : Cx} {pins : List (Addr × Obj)} {σ : St} {H : Hp} {s : Shared} {l b : Addr} {xs ys zs : List V}

theorem Inv.lset {its its' : List Value} {n : Nat} {f : Array Value → Array Value} {t' : Nat} (I : Inv X pins σ H s) (hH : H l = some (.lst xs))
    (e : s.heap.get? l = some { cls := .type "list", data := .seq its.toArray n }) (hf : f its.toArray = its'.toArray) (hv : Vals ys its') (hz : ys.length ≤ sizeLine) :
    Inv X pins σ (upd H l (.lst ys)) { s with heap := s.heap.update l (Obj.mapSeq f), toks := t' } := by
  have q := PySem.IsL.update e f
  rw [hf] at q
  refine I.write (x := l) (e := l) (by rw [hH]; exact trivial) (.inl rfl) (fun b' u hb hu => (Heap.get?_update_other s.heap (Obj.mapSeq f) (Ne.symm hb)).trans hu) ⟨_, q⟩ ?_
  exact ⟨hz, its', _, hv, q⟩
theorem Inv.lnew {its : List Value} {t' : Nat} (I : Inv X pins σ H s) (hv : Vals ys its) (hz : ys.length ≤ sizeLine) :
    Inv X pins σ (upd H s.heap.objs.size (.lst ys)) { s with heap := s.heap.push { cls := .type "list", data := .seq its.toArray }, toks := t' } :=
  I.laid (fun _ _ q => Heap.get?_push_of_some _ q) (Nat.le_refl _) ⟨hz, its, 0, hv, Heap.get?_push_size _ rfl⟩
theorem Inv.fresh (I : Inv X pins σ H s) : H s.heap.objs.size = none := I.hok.fresh (Nat.le_refl _)
theorem Inv.lstM (I : Inv X pins σ H s) (hH : H l = some (.lst xs)) : xs.length ≤ sizeLine ∧ ∃ (its : List Value) (n : Nat), Vals xs its ∧ xs.length = its.length ∧ s.heap.get? l = some { cls := .type "list", data := .seq its.toArray n } := by
  obtain ⟨z, its, n, r, e⟩ := I.hok l _ hH
  exact ⟨z, its, n, r, r.length, e⟩

theorem notLongL {n : Nat} (h : n ≤ sizeLine) : Builtin.List.listTooLong n = false := by
  unfold Builtin.List.listTooLong
  exact decide_eq_false (by omega)
end

section
variable {X : Cx}

def rAppend : V → List V → Hp → VK → Prop := fun x vs H Q => ∃ l xs y, x = .ref l ∧ vs = [y] ∧ H l = some (.lst xs) ∧ xs.length < sizeLine ∧ Q .non (upd H l (.lst (xs ++ [y])))
theorem mt_append : MtM X "list.append" rAppend := by
  intro pins s σ H x vs v us Q I rx rv h
  obtain ⟨l, xs, y, rfl, rfl, hH, hz, q⟩ := h
  cases rx
  obtain ⟨u, rfl, ru⟩ := rv.one
  obtain ⟨z, its, n, r, hl, e⟩ := I.lstM hH
  refine call_meets F.slot_list_append ⟨_, e, rfl⟩ F.entry_list_append (F.args_list_append_2 _ _) (PySem.list_append l its.toArray n u (by rw [List.size_toArray]; omega)) ⟨e, ?_⟩
  refine ⟨.non, _, I.lset (its' := its ++ [u]) hH e (by simp) (r.append (.cons ru .nil)) ?_, rfl, q⟩
  rw [List.length_append, List.length_singleton]
  omega

def rCat : R2 := fun x y H Q => ∃ l b xs zs, x = .ref l ∧ y = .ref b ∧ H l = some (.lst xs) ∧ H b = some (.lst zs) ∧ xs.length + zs.length ≤ sizeLine ∧ ∀ p, H p = none → Q (.ref p) (upd H p (.lst (xs ++ zs)))
theorem op_cat : OpR X (binaryOp .Add) rCat := by
  intro pins s σ H x y v u Q I rx ry h
  obtain ⟨l, b, xs, zs, rfl, rfl, hH, hB, hz, q⟩ := h
  cases rx
  cases ry
  obtain ⟨z, its, n, r, hl, e⟩ := I.lstM hH
  obtain ⟨z2, its2, n2, r2, hl2, e2⟩ := I.lstM hB
  refine PySem.P.add_list e e2 ?_ (by rw [List.size_toArray, List.size_toArray]; omega)
  have ea : its.toArray ++ its2.toArray = (its ++ its2).toArray := by simp
  rw [ea]
  exact ⟨.ref _, _, I.lnew (t' := s.toks) (r.append r2) (by rw [List.length_append]; omega), rfl, q _ I.fresh⟩
end

section
variable {prog : Program} {w : World} {A : Around} {E : Value → Shared → Prop} {s : Shared}
theorem bounds_run {a c n : Nat} (hac : a ≤ c) (hc : c ≤ n) : sliceBounds (some (a : Int)) (some (c : Int)) none n = ((a : Int), (c : Int), 1) := by
  simp only [sliceBounds, Option.getD_none]
  have h1 : ¬ ((a : Int) < 0) := by omega
  have h2 : ¬ ((c : Int) < 0) := by omega
  simp only [h1, h2, if_false, show (1 : Int) > 0 by decide, if_true]
  congr 1
  · omega
  · congr 1; omega
set_option maxRecDepth 100000 in
theorem setItem_slice {l b sl : Addr} {items new : Array Value} {n n2 : Nat} {vl vu : Value} {a c : Nat} {Q : Unit → Shared → Prop}
    (e : s.heap.get? l = some { cls := .type "list", data := .seq items n }) (e2 : s.heap.get? b = some { cls := .type "list", data := .seq new n2 }) (hne : l ≠ b)
    (hs : s.heap.IsSliceOf sl vl vu .none) (pl : IsPart vl (some (a : Int))) (pu : IsPart vu (some (c : Int))) (hac : a ≤ c) (hc : c ≤ items.size)
    (hsz : items.size + new.size ≤ sizeLine) (h : Q () { s with heap := s.heap.update l (Obj.mapSeq fun xs => xs.extract 0 a ++ new ++ xs.extract c xs.size) }) :
    wpAny (model prog w) A (setItem (.ref l) (.ref sl) (.ref b)) Q E s := by
  have hl : s.heap.IsList l items := PySem.IsL.isList e
  have hb : s.heap.IsList b new := PySem.IsL.isList e2
  obtain ⟨os, hos, hcs, hds⟩ := id hs
  have hTs : s.TypeIs (.ref sl) "slice" := ⟨os, hos, hcs⟩
  have hstep : ¬ ((rawPart none == rawInt 0) = true) := Bool.false_ne_true
  have hsame : Builtin.List.listSameRef (.ref l) (.ref b) = false := by
    unfold Builtin.List.listSameRef
    exact beq_eq_false_iff_ne.mpr hne
  have hmax : (max (a : Int) (c : Int)).toNat = c := by omega
  have hz' : ((fun xs : Array Value => xs.extract 0 a ++ new ++ xs.extract c xs.size) items).size ≤ sizeLine + 1 := by
    simp only [Array.size_append, Array.size_extract]
    omega
  unfold setItem
  try with_reducible refine wpAny_holding ?_
  first | refine wpAny_bind (wpAny_pure ?_) | skip
  refine wpAny_bind (wpAny_sequenceKey hl.typeIs (by decide) ?_)
  refine wpAny_bind (wpAny_callSpecial?_slot (name := Str.ofString "__setitem__") hl.typeIs slot_list_setitem
    (wpAny_call_entry slot_list_setitem hl.typeIs entry_list_setitem ?_ (args_list_setitem _ _ _)))
  show wpAny _ _ (Builtin.List.listSubscript? (.ref sl) >>= _) _ _ s
  refine wpAny_bind ?_
  unfold Builtin.List.listSubscript?
  refine wpAny_bind (wpAny_specialOf hTs slice_no_index ?_)
  simp only [Option.isNone_none, if_true]
  refine wpAny_pure ?_
  show wpAny _ _ (typeOf (.ref sl) >>= _) _ _ s
  refine wpAny_bind (wpAny_typeOf hTs ?_)
  first
    | rw [if_neg (by decide)]
    | refine PySem.W.KFB.if_not (by decide) ?_
  rw [listSliceParts_eq]
  refine wpAny_bind (wpAny_bind (wpAny_field hos hds (x := .none) rfl (wpAny_bind (wpAny_listPart .none ?_))))
  rw [if_neg hstep]
  refine wpAny_bind (wpAny_field hos hds (x := vl) rfl (wpAny_bind (wpAny_listPart pl ?_)))
  refine wpAny_bind (wpAny_field hos hds (x := vu) rfl (wpAny_bind (wpAny_listPart pu (wpAny_pure ?_))))
  first
    | simp only [hsame, Bool.false_eq_true, if_false]
    | refine PySem.W.KFB.if_not hsame ?_
    | (dsimp only
       rw [if_neg (by rw [hsame]; exact Bool.false_ne_true)])
  refine wpAny_bind (m := Builtin.List.listAllItems (.ref b) "must assign iterable to extended slice") ?_
  unfold Builtin.List.listAllItems
  refine wpAny_bind (wpAny_typeOf hb.typeIs ?_)
  first
    | refine PySem.W.KFB.if_so (by decide) ?_
    | rw [if_pos (by decide)]
    | simp only [beq_self_eq_true, Bool.true_or, if_true]
  unfold Builtin.List.listItems
  refine wpAny_bind (wpAny_seqItems e2 rfl (wpAny_pure ?_))
  refine wpAny_bind (wpAny_bind (wpAny_seqItems e rfl (wpAny_pure ?_)))
  refine wpAny_bind (wpAny_of_eq ((sliceIndices_raw (some (a : Int)) (some (c : Int)) none items.size (by simp)).trans (congrArg (pure : Int × Int × Int → Sem (Int × Int × Int)) (bounds_run hac hc))) ?_)
  show wpAny _ _ (if ((1 : Int) == 1) = true then _ else _) _ _ s
  rw [if_pos (by decide)]
  refine wpAny_bind (wpAny_rule ?_)
  first
    | simp only [notLongL hsz, Bool.false_eq_true, if_false]
    | refine PySem.W.KFB.if_not (notLongL hsz) ?_
  first | refine wpAny_bind (wpAny_pure ?_) | skip
  show wpAny _ _ (updateSeq l (fun xs => xs.extract 0 ((a : Int)).toNat ++ new ++ xs.extract (max (a : Int) (c : Int)).toNat xs.size) >>= _) _ _ s
  rw [hmax, Int.toNat_natCast]
  refine wpAny_bind (wpAny_updateSeq (hz := Nat.le_trans (Nat.le_add_right _ _) hsz) (_hz' := hz') e rfl ?_)
  refine wpAny_bind (wpAny_letGo ?_)
  first
    | exact wpAny_bind (wpAny_pure (wpAny_pure ⟨.none, rfl, wpAny_pure h⟩))
    | exact wpAny_pure ⟨.none, rfl, wpAny_pure h⟩
end

section
variable {X : Cx}
end
end L2

namespace Att
open PySem PySem.W PySem.Calls PyProof.Rows

theorem ints_of_wellAll {P : Params} {h : Heap} : ∀ (ns : List Int) (vs : List Value), WellAll P h vs (ns.map WData.int) → IntsAre vs ns := by
  intro ns
  induction ns with
  | nil =>
    intro vs w
    rw [List.map_nil] at w
    cases w
    exact .nil
  | cons n ns ih =>
    intro vs w
    rw [List.map_cons] at w
    cases w with
    | cons a b =>
      cases a
      exact .cons _ _ (ih _ b)

theorem script_of {l : OpenLaw} {n : Nat} (hn : l.most = some n) {P : Params} {h : Heap} {args : List WData} {vals : List Value}
    (hpre : l.row.toRowW.claim.pre args = true) (hwl : WellAll P h vals args) :
    ∃ a vs ns, vals = [Value.ref a] ∧ args = [WData.list (ns.map WData.int)] ∧ h.get? a = some { cls := .type "list", data := .seq vs.toArray } ∧ IntsAre vs ns ∧ ns.length ≤ n := by
  have hsh : WShape.hasAll [] args [.list .int] = true := (pre_splitW hpre).1
  have hc : l.pre.holds [] { args := args } = true := (pre_splitW hpre).2
  obtain ⟨d, r, rfl, h1, h2⟩ := hasAllW_cons hsh
  obtain rfl := hasAllW_nil h2
  obtain ⟨xs, rfl, h3⟩ := hasW_list h1
  obtain ⟨ns, rfl⟩ := items_int h3
  have hlen : ns.length ≤ n := by
    unfold OpenLaw.pre at hc
    have h4 : (WTm.not (.lt (.lit (.int (n : Int))) (.len (.arg 0)))).holds [] { args := [.list (ns.map .int)] } = true := by
      have h4 := (holds_andW hc).1
      rw [hn] at h4
      exact h4
    have h5 := condW_of h4 (w_not (w_lt w_lit (w_len_list (w_arg rfl))))
    rw [List.length_map] at h5
    refine Nat.le_of_not_lt fun q => ?_
    have q' : (n : Int) < ((ns.length : Nat) : Int) := by omega
    first
      | (rw [decide_eq_true q'] at h5; exact absurd h5 (by decide))
      | (simp at h5; omega)
  cases hwl with
  | cons w1 w2 =>
    cases w2
    cases w1 with
    | list ho hall => exact ⟨_, _, ns, rfl, rfl, ho, ints_of_wellAll ns _ hall, hlen⟩

theorem post_true (l : OpenLaw) (args : List WData) : l.row.toRowW.claim.post args (.bool true) args = true :=
  postW_of (r := l.row.toRowW) (X := (true == true))
    (show WShape.has [] (.bool true) .bool = true by first | rfl | decide | simp [WShape.has, WShape.arms, WShape.armsAll])
    (show (WTm.eq .res (.lit (.bool true))).value [] { args := args, res := some (.bool true), after := args } = some (.bool (true == true)) from w_eq_bool (w_res rfl) w_lit) rfl

theorem attach_call {l : OpenLaw} {n : Nat} {q : Program} {loose : List Str} {XP : (Str → Option Value) → Heap → Prop} {YP : World → Heap → Prop} {d : DefRec}
    (hn : l.most = some n) (hdf : d.params.defaults = [])
    (call : ∀ (w : World) (s₀ s₁ : Shared) (mg mb : Str → Option Value) (fa : Addr) (o : Obj) (pm cd doc : Value) (a : Addr) (vs : List Value) (ns : List Int),
      Ground q loose [] XP w s₀ mg mb s₁.heap → YP w s₁.heap →
      s₁.heap.get? fa = some o → o.data = .func (docDef d.name d.params d.body d.scope pm cd doc) → s₁.heap.CodeRec cd d.name → mg d.name = some (.ref fa) →
      s₁.heap.get? a = some { cls := .type "list", data := .seq vs.toArray } → IntsAre vs ns → ns.length ≤ n → s₁.gens = #[] →
      codeAny (model l.prog w) callerA (.call (.ref fa) ⟨[.ref a], []⟩) (fun r s' => r = .ok (.ret (.bool true)) ∧ OldK s₁.heap s'.heap ∧ s'.os = s₁.os ∧ AllBare s'.gens) s₁) :
    WalkO q loose XP YP l.row.toRowW d [] (fun f vs => PySem.call f vs) := by
  intro w s₀ s₁ mg mb G Y fa o pm cd doc dV kV ho hd hcd hD hmg hg args vals as hpre hlay hrd hwl hlo
  obtain rfl : dV = .none := Dflts.none hD hdf
  obtain rfl : kV = .none := Dflts.noKw hD
  obtain ⟨a, vs, ns, rfl, rfl, hobj, hints, hlen⟩ := script_of hn hpre hwl
  refine enter_call (codeAny_mono (call w s₀ s₁ mg mb fa o pm cd doc a vs ns G Y ho (fd_plain hd) hcd hmg hobj hints hlen hg) fun r s' hq => ?_)
  obtain ⟨rfl, h2, h3, h4⟩ := hq
  exact ⟨.inl ⟨.bool true, .bool true, [], rfl, fun _ => rfl, .bool true, post_true l _, fun _ => ⟨List.Pairwise.nil, fun _ hm => (nomatch hm)⟩⟩, h2, h3, h4⟩

section
variable {prog : Program} {w : World} {A : Around} {E : Value → Shared → Prop} {s : Shared} {K : Frag}

end
end Att

namespace L2
open PySem PySem.Spec PyProof.Rows

theorem vals_ints : ∀ {vs : List Value} {ns : List Int}, IntsAre vs ns → Vals (ns.map V.int) vs
  | _, _, .nil => .nil
  | _, _, .cons n t h => .cons ⟨t, rfl⟩ (vals_ints h)

def Only (H : Hp) : Prop := ∀ b, H b = none ∨ ∃ o xs, H b = some (.frz o (.lst xs))

theorem law_call {P : Program} {w : World} {K : PySem.W.Frag} {mg mb : Str → Option Value} {CX : CXT} {k : Nat} {fa a : Addr} {fd : FuncData} {x : Str} {sp : Sp} {s₁ : Shared} {vs : List Value} {ns : List Int}
    (KX : K.In s₁.heap) (hns : s₁.heap.Ns mainGlobals mg) (hb : s₁.heap.Ns builtinsNs mb) (hbb : ∀ x : Str, x ≠ "__name__" → mb x = bootBuiltins x) (hlim : s₁.heap.NoLimit) (hg : s₁.gens = #[])
    (ha : s₁.heap.get? a = some { cls := .type "list", data := .seq vs.toArray }) (hi : IntsAre vs ns) (hl : ns.length ≤ sizeLine) (hr : Room k callerA)
    (F : ∀ base : Heap, K.In base → base.Ns mainGlobals mg → FnOk P w K mg base CX k fa fd [x] sp) (hbind : ∀ (s : Shared) (u : Value), BindsTo s fd ⟨[u], []⟩ [(x, u)])
    (hsp : ∀ H : Hp, Only H → SqL K H a (ns.map V.int) → sp [.ref a] H (fun v _ => v = .bl true) fun _ _ _ => False)
    (hCX : ∀ H e s', CX [] H s₁ (fun _ _ _ => False) e s' → False) :
    codeAny (model P w) callerA (.call (.ref fa) ⟨[.ref a], []⟩) (fun r s' => r = .ok (.ret (.bool true)) ∧ OldK s₁.heap s'.heap ∧ s'.os = s₁.os ∧ AllBare s'.gens) s₁ := by
  have rv := vals_ints hi
  have lenV := hi.length
  -- from an abstract heap in which nothing but the script may be tracked
  have core : ∀ H : Hp, Only H → SqL K H a (ns.map V.int) → HOk P w H s₁.heap → (∀ b, H b ≠ none → b = a) → (H a ≠ none → K.lookup a = none) →
      codeAny (model P w) callerA (.call (.ref fa) ⟨[.ref a], []⟩) (fun r s' => r = .ok (.ret (.bool true)) ∧ OldK s₁.heap s'.heap ∧ s'.os = s₁.os ∧ AllBare s'.gens) s₁ := by
    intro H hO hS hok hA hK
    have base_of : ∀ {b : Addr} {o : Obj}, s₁.heap.get? b = some o → H b = none → (hidT s₁.heap H).get? b = some o := fun e n => hidT_get e n
    have noA : ∀ {b : Addr} {o : Obj} {es : Array DictEntry} {ep : Nat}, s₁.heap.get? b = some o → o.data = .dict es ep → H b = none := fun {b o es ep} e d => by
      cases q : H b with
      | none => rfl
      | some u =>
        have e' : b = a := hA b (by rw [q]; simp)
        subst e'
        rw [ha] at e; cases e
        have d' : Data.seq vs.toArray _ = Data.dict es ep := d
        cases d'
    have nsK : ∀ {b : Addr} {m : Str → Option Value}, s₁.heap.Ns b m → (hidT s₁.heap H).Ns b m := fun {b m} ⟨o, es, ep, e, d, r⟩ => ⟨o, es, ep, base_of e (noA e d), d, r⟩
    have hKb : K.In (hidT s₁.heap H) := fun b o e => base_of (KX b o e) (by
      cases q : H b with
      | none => rfl
      | some u =>
        have e' : b = a := hA b (by rw [q]; simp)
        subst e'
        rw [hK (by rw [q]; simp)] at e; cases e)
    have hM : Mod K mg (hidT s₁.heap H) := ⟨hKb, nsK hns, ⟨mb, nsK hb, hbb⟩, let ⟨mc, h1, h2⟩ := hlim; ⟨mc, nsK h1, h2⟩⟩
    have e0 : Env0 P w K mg (hidT s₁.heap H) callerA [] s₁ H := ⟨rfl, hM, fun b o e => of_hidT e, Nat.le_of_eq (hidT_size _ _), trivial, fun b hb => absurd (show b ∈ ([] : List Addr) from hb) (by simp), hok, .of_eq hg⟩
    refine codeAny_mono ((F _ hKb (nsK hns)).run callerA [] s₁ H ⟨[.ref a], []⟩ [.ref a] [.ref a] _ _ hr e0 (hbind s₁ (.ref a)) (.cons rfl .nil) (hsp H hO hS)) fun r s' h => ?_
    cases r with
    | error e => exact (hCX H e s' h).elim
    | ok fl =>
      cases fl with
      | next => exact False.elim h
      | brk => exact False.elim h
      | cont => exact False.elim h
      | ret u =>
        obtain ⟨v, H', os, bare, un, hok', r', q⟩ := h
        have q' : v = .bl true := q
        subst q'
        obtain rfl : u = Value.bool true := r'
        refine ⟨rfl, OldK.of_keep fun b o e => ?_, os, bare⟩
        cases q : H b with
        | none => exact un.keep b o e q (by intro z; exact absurd (show b ∈ ([] : List Addr) from z) (by simp)) (by simp)
        | some u =>
          rcases hO b with z | ⟨ob, xs, z⟩
          · rw [q] at z; cases z
          · have z2 := un.frzs b ob _ z
            obtain ⟨e1, _⟩ := hok b _ z
            obtain ⟨e2, _⟩ := hok' b _ z2
            rw [e] at e1; cases e1
            exact e2
  cases hk : K.lookup a with
  | some o =>
    -- the script is one of the module's own objects
    have e := KX a o hk
    rw [ha] at e
    cases e
    refine core (fun _ => none) (fun _ => .inl rfl) (.inr ⟨_, vs.toArray, _, hk, rfl, rfl, rfl, by rw [List.size_toArray, lenV]; exact hl, by simpa using rv⟩) (fun b u z => by have z' : (none : Option HO) = some u := z; cases z') (fun b z => absurd rfl z) fun z => absurd rfl z
  | none =>
    refine core (fun b => if b = a then some (.frz { cls := .type "list", data := .seq vs.toArray } (.lst (ns.map V.int))) else none) (fun b => ?_) (.inl (.inr ⟨{ cls := .type "list", data := .seq vs.toArray }, if_pos rfl⟩)) (fun b u z => ?_) (fun b z => ?_) fun _ => hk
    · by_cases hb : b = a
      · exact .inr ⟨_, _, if_pos hb⟩
      · exact .inl (if_neg hb)
    · by_cases hb : b = a
      · have z' := (if_pos hb).symm.trans z
        cases z'
        subst hb
        exact ⟨ha, by rw [List.length_map]; exact hl, vs, _, rv, ha⟩
      · have z' := (if_neg hb).symm.trans z
        cases z'
    · by_cases hb : b = a
      · exact hb
      · exact absurd (if_neg hb) z
end L2

namespace L2
open PySem PySem.Spec PyProof.Rows

theorem walk_of {l : PySem.W.OpenLaw} {n k : Nat} {q : Program} {loose : List Str} {XP : (Str → Option Value) → Heap → Prop} {YP : World → Heap → Prop} {d : DefRec} {K : Params → PySem.W.Frag} {CX : World → CXT} {sp : World → Sp} {x : Str}
    (hn : l.most = some n) (hn2 : n ≤ sizeLine) (hdf : d.params.defaults = []) (hr : Room k callerA)
    (hY : ∀ (w : World) (h : Heap), YP w h → (K w.params).In h)
    (F : ∀ (w : World) (mg : Str → Option Value) (fa : Addr) (h : Heap), (K w.params).In h → h.Ns mainGlobals mg → mg d.name = some (.ref fa) →
      ∃ fd : FuncData, (∀ (s : Shared) (u : Value), BindsTo s fd ⟨[u], []⟩ [(x, u)]) ∧
        ∀ base : Heap, (K w.params).In base → base.Ns mainGlobals mg → FnOk l.prog w (K w.params) mg base (CX w) k fa fd [x] (sp w))
    (hsp : ∀ (w : World) (H : Hp) (a : Addr) (ns : List Int), ns.length ≤ n → Only H → SqL (K w.params) H a (ns.map V.int) → sp w [.ref a] H (fun v _ => v = .bl true) fun _ _ _ => False)
    (hCX : ∀ (w : World) (H : Hp) (s : Shared) (e : Value) (s' : Shared), CX w [] H s (fun _ _ _ => False) e s' → False) :
    PySem.W.WalkO q loose XP YP l.row.toRowW d [] (fun f vs => PySem.call f vs) := by
  refine Att.attach_call hn hdf fun w s₀ s₁ mg mb fa o pm cd doc a vs ns G Y ho hd hcd hmg hobj hints hlen hg => ?_
  have KX := hY w _ Y
  obtain ⟨fd, hb, hF⟩ := F w mg fa _ KX G.T.g hmg
  exact law_call KX G.T.g G.T.b G.T.builtins G.T.nolimit hg hobj hints (Nat.le_trans hlen hn2) hr hF hb (fun H hO hS => hsp w H a ns hlen hO hS) fun H e s' => hCX w H s₁ e s'
end L2


namespace L2
open PySem PySem.Spec PyProof.Rows

def defArgs (s : Stmt) : Arguments := match s with
  | .FunctionDef _ a _ _ _ _ _ _ _ _ => a
  | _ => { posonlyargs := [], args := [], vararg := none, kwonlyargs := [], kw_defaults := [], kwarg := none, defaults := [] }
def defBody (s : Stmt) : List Stmt := match s with
  | .FunctionDef _ _ b _ _ _ _ _ _ _ => b
  | _ => []
def defScope (s : Stmt) : Scope := match s with
  | .FunctionDef _ _ _ _ _ _ sc _ _ _ => sc
  | _ => { kind := .function, names := [], isGenerator := false, isCoroutine := false }

abbrev CX0 : CXT := fun _ _ _ _ _ _ => False
abbrev E0 : XK := fun _ _ _ => False
structure Fun (K : PySem.W.Frag) (x qual : Str) (st : Stmt) (f : Addr) (fd : FuncData) : Prop where
  ex : ∃ (oc : Value) (od : Option Addr) (kV doc pm : Value) (an : Option Addr) (cdv ct : Value) (osl : Array (Option Value)),
    fd = PySem.W.fnOf x qual (defArgs st) (defBody st) (defScope st) .none kV doc pm an cdv ct ∧ K.lookup f = some ⟨oc, od, .func fd, osl⟩ ∧ PySem.W.codeIn K cdv qual = true
  kp : PySem.W.keepIn K (.ref f) = true
section
variable {P : Program} {w : World} {K : PySem.W.Frag} {mg : Str → Option Value} {base : Heap}
theorem Fun.ok {x qual : Str} {st : Stmt} {f : Addr} {fd : FuncData} {N ps : List Str} {k : Nat} {sp : Sp} (F : Fun K x qual st f fd) (S : FnScope N ps (defScope st)) (len : ∀ vs H Q E, sp vs H Q E → vs.length = ps.length)
    (hbody : ∀ (cdv : Value) (A : Around) (outer : List Env) (s : Shared) (H : Hp) (vs : List V) (Q : VK) (E : XK), Room k (A.deeper (envOfC qual (defScope st) s.heap.objs.size f cdv)) → sp vs H Q E →
      ∃ t, PSs (cxOf CX0 P w K mg base N qual (defScope st) f cdv A outer s H E).nox (defBody st) t ∧ t { nx := fun _ H' => Q .non H', rt := Q } (start N vs) H) : FnOk P w K mg base CX0 (k + 1) f fd ps sp := by
  obtain ⟨oc, od, kV, doc, pm, an, cdv, ct, osl, rfl, lk, hcd⟩ := F.ex
  refine fn_of lk hcd S len fun A outer s H vs Q E hr hsp => ?_
  obtain ⟨t, h, q⟩ := hbody cdv A outer s H vs Q E hr hsp
  exact ⟨t, h.nox, q⟩
theorem Fun.binds {x qual : Str} {st : Stmt} {f : Addr} {fd : FuncData} {ps : List Str} (F : Fun K x qual st f fd)
    (h : ∀ (kV doc pm : Value) (an : Option Addr) (cdv ct : Value) (us : List Value), us.length = ps.length → bindArgs (PySem.W.fnOf x qual (defArgs st) (defBody st) (defScope st) .none kV doc pm an cdv ct) ⟨us, []⟩ = pure (ps.zip us)) : Binds K fd ps [] := by
  obtain ⟨oc, od, kV, doc, pm, an, cdv, ct, osl, rfl, lk, hcd⟩ := F.ex
  exact .all (h kV doc pm an cdv ct)
theorem fun_mk {x qual : Str} {st : Stmt} {f : Addr} {oc : Value} {od an : Option Addr} {osl : Array (Option Value)} {kV doc pm cdv ct : Value} (l : K.lookup f = some ⟨oc, od, .func (PySem.W.fnOf x qual (defArgs st) (defBody st) (defScope st) .none kV doc pm an cdv ct), osl⟩)
    (c : PySem.W.codeIn K cdv qual = true) (k : PySem.W.keepIn K (.ref f) = true) : Fun K x qual st f (PySem.W.fnOf x qual (defArgs st) (defBody st) (defScope st) .none kV doc pm an cdv ct) := ⟨⟨oc, od, kV, doc, pm, an, cdv, ct, osl, rfl, l, c⟩, k⟩
end
theorem small1000 {n : Nat} (h : n ≤ 1000) : n < sizeLine := Nat.lt_of_le_of_lt h (by decide)

section
variable {X : Cx}
theorem pv (i : Nat) {x : Str} {pos : Pos} (hN : X.N[i]? = some x := by rfl) (hv : Vis X.env.scope x := by first | exact Or.inl rfl | exact Or.inr (Or.inl rfl) | exact Or.inr (Or.inr rfl)) (hd : (x == ("__debug__" : Str)) = false := by decide)
    (hcd : (x == ("__classdict__" : Str)) = false := by decide) : PE X (.Name x pos) (tVar i) := pe_var hN hv hd hcd
end

theorem iteF {A B : Prop} (h : B) : if false = true then A else B := by
  rw [if_neg Bool.false_ne_true]
  exact h
theorem iteT {A B : Prop} (h : A) : if true = true then A else B := by
  rw [if_pos rfl]
  exact h
theorem ite2 {c A B : Prop} [Decidable c] (h1 : c → A) (h2 : ¬ c → B) : if c then A else B := by
  by_cases h : c
  · rw [if_pos h]
    exact h1 h
  · rw [if_neg h]
    exact h2 h
theorem iteNS {c A B : Prop} [Decidable c] (hc : c) (h : B) : if (!decide c) = true then A else B := by
  rw [decide_eq_true hc]
  exact iteF h

def Same (H H' : Hp) : Prop := ∀ b o, H b = some o → H' b = some o
theorem Same.refl (H : Hp) : Same H H := fun _ _ h => h
theorem Same.trans {H H1 H2 : Hp} (a : Same H H1) (b : Same H1 H2) : Same H H2 := fun c o h => b c o (a c o h)
theorem Same.free {H H' : Hp} (e : Same H H') {l : Addr} (h : H' l = Option.none) : H l = Option.none := by
  cases q : H l with
  | none => rfl
  | some o =>
    rw [e l o q] at h
    cases h
theorem Same.seq {K : PySem.W.Frag} {H H' : Hp} {a : Addr} {xs : List V} (e : Same H H') (h : SqL K H a xs) : SqL K H' a xs := by
  rcases h with (h | ⟨o, h⟩) | h
  · exact .inl (.inl (e _ _ h))
  · exact .inl (.inr ⟨o, e _ _ h⟩)
  · exact .inr h

end L2

namespace L2
open PySem PySem.Spec PyProof.Rows

def clOf (env : Env) : List (Str × NameKind) → List (Str × Addr) → List (Str × Addr)
  | [], cs => cs
  | (n, k) :: r, cs => clOf env r (if k = .free then (n, (env.cells.lookup n).getD 0) :: cs else cs)
theorem closure_go {env : Env} (f : Str × NameKind → List (Str × Addr) → Sem (ForInStep (List (Str × Addr))))
    (hf : ∀ n k r, f (n, k) r = if k = .free then (cellOf env n >>= fun a => pure (.yield ((n, a) :: r))) else pure (.yield r)) :
    ∀ (l : List (Str × NameKind)) (cs : List (Str × Addr)), (∀ y ∈ l, y.2 = .free → ∃ c, env.cells.lookup y.1 = some c) → forIn l cs f = pure (clOf env l cs)
  | [], cs, _ => rfl
  | (n, k) :: r, cs, h => by
    rw [List.forIn_cons, hf]
    by_cases hk : k = .free
    · obtain ⟨c, hc⟩ := h (n, k) List.mem_cons_self hk
      rw [if_pos hk]
      unfold cellOf
      rw [hc]
      show (pure c >>= fun a => pure (ForInStep.yield ((n, a) :: cs))) >>= _ = _
      rw [pure_bind, pure_bind]
      show forIn r ((n, c) :: cs) f = _
      rw [closure_go f hf r _ fun y hy => h y (List.mem_cons_of_mem _ hy)]
      unfold clOf
      rw [if_pos hk, hc]
      cases r <;> rfl
    · rw [if_neg hk, pure_bind]
      show forIn r cs f = _
      rw [closure_go f hf r _ fun y hy => h y (List.mem_cons_of_mem _ hy)]
      conv => rhs; unfold clOf
      rw [if_neg hk]
theorem closureFor_clOf {scope : Scope} {env : Env} (h : ∀ y ∈ scope.names, y.2 = .free → ∃ c, env.cells.lookup y.1 = some c) : closureFor scope env = pure (clOf env scope.names []) := by
  unfold closureFor
  show (forIn scope.names ([] : List (Str × Addr)) _ >>= fun cs => pure cs) = _
  rw [closure_go (env := env) _ (fun n k r => ?_) scope.names [] h]
  · rfl
  · cases k <;> rfl
theorem clOf_lookup {env : Env} {x : Str} {c : Addr} : ∀ (l : List (Str × NameKind)) (cs : List (Str × Addr)), (∀ y ∈ l, y.2 = .free → ∃ c, env.cells.lookup y.1 = some c) →
    (∀ y d, cs.lookup y = some d → env.cells.lookup y = some d) → (clOf env l cs).lookup x = some c → env.cells.lookup x = some c
  | [], cs, _, hc, h => hc x c h
  | (n, k) :: r, cs, hl, hc, h => by
    unfold clOf at h
    by_cases hk : k = .free
    · rw [if_pos hk] at h
      obtain ⟨d, hd⟩ := hl (n, k) List.mem_cons_self hk
      refine clOf_lookup r _ (fun y hy => hl y (List.mem_cons_of_mem _ hy)) (fun y e q => ?_) h
      rw [hd] at q
      by_cases hy : y = n
      · subst hy
        rw [List.lookup_cons_self] at q
        have q' : d = e := Option.some.inj q
        rw [← q']; exact hd
      · have hb : (y == n) = false := beq_eq_false_iff_ne.mpr hy
        rw [List.lookup_cons, hb] at q
        exact hc y e q
    · rw [if_neg hk] at h
      exact clOf_lookup r _ (fun y hy => hl y (List.mem_cons_of_mem _ hy)) hc h
theorem clOf_has {env : Env} {x : Str} : ∀ (l : List (Str × NameKind)) (cs : List (Str × Addr)), ((x, NameKind.free) ∈ l ∨ ∃ c, cs.lookup x = some c) → ∃ c, (clOf env l cs).lookup x = some c
  | [], cs, h => h.elim (fun z => nomatch z) id
  | (n, k) :: r, cs, h => by
    unfold clOf
    refine clOf_has r _ ?_
    rcases h with h | ⟨c, h⟩
    · rcases List.mem_cons.mp h with e | e
      · cases e
        rw [if_pos rfl]
        exact .inr ⟨_, List.lookup_cons_self ..⟩
      · exact .inl e
    · right
      by_cases hk : k = .free
      · rw [if_pos hk]
        by_cases hx : x = n
        · subst hx; exact ⟨_, List.lookup_cons_self ..⟩
        · have hb : (x == n) = false := beq_eq_false_iff_ne.mpr hx
          rw [List.lookup_cons, hb]; exact ⟨c, h⟩
      · rw [if_neg hk]; exact ⟨c, h⟩
theorem lookup_relabel {env : Env} {x : Str} {k : NameKind} : ∀ {names : List (Str × NameKind)},
    (names.map fun (n, k) => if (k == NameKind.free && env.scope.kind == .function && env.kindOf n == some .cell) then (n, NameKind.cell) else (n, k)).lookup x = some k →
    ∃ k0, names.lookup x = some k0 ∧ (k = k0 ∨ (k = .cell ∧ k0 = .free))
  | [], h => by simp at h
  | (n, k1) :: r, h => by
    have ih := @lookup_relabel env x k r
    by_cases hc : (k1 == NameKind.free && env.scope.kind == .function && env.kindOf n == some .cell) = true
    · rw [List.map_cons] at h
      dsimp only at h
      rw [if_pos hc] at h
      cases hx : x == n with
      | true =>
        simp only [List.lookup_cons, hx] at h ⊢
        refine ⟨k1, rfl, .inr ⟨(Option.some.inj h).symm, ?_⟩⟩
        simp only [Bool.and_eq_true, beq_iff_eq] at hc
        exact hc.1.1
      | false =>
        simp only [List.lookup_cons, hx] at h ⊢
        exact ih h
    · rw [List.map_cons] at h
      dsimp only at h
      rw [if_neg hc] at h
      cases hx : x == n with
      | true =>
        simp only [List.lookup_cons, hx] at h ⊢
        exact ⟨k1, rfl, .inl (Option.some.inj h).symm⟩
      | false =>
        simp only [List.lookup_cons, hx] at h ⊢
        exact ih h

abbrev Cx.seen (X : Cx) (js : List Nat) : List Str := js.map fun j => X.N.getD j (Str.ofString "")
abbrev Cx.comp (X : Cx) (scope : Scope) (T : List Str) (js : List Nat) (C : Addr) (s₀ : Shared) (H₀ : Hp) (ex : List Addr) (pn : List (Addr × Obj)) : Cx :=
  { X with N := T ++ X.seen js, s₀ := s₀, H₀ := H₀, env := compEnvC scope (clOf X.env scope.names []) C X.env, outer := X.stack, ex := ex, fn := fun _ => false, pn := pn, xe := fun _ _ => False }
def seenV (js : List Nat) (σ : St) : St := js.map fun j => σ.getD j none
def cells0 (n : Nat) (js : List Nat) (σ : St) : St := List.replicate n none ++ seenV js σ

structure CompSc (X : Cx) (scope : Scope) (T : List Str) (js : List Nat) : Prop where
  kind : scope.kind = .function
  cell : (scope.names.all fun y => decide (y.2 ≠ .cell)) = true
  loc : (scope.names.all fun y => decide (y.2 = .local → scope.names.lookup y.1 = some .local)) = true
  fr : (scope.names.all fun y => decide (y.2 = .free → (X.env.kindOf y.1 = some .cell ∨ X.env.kindOf y.1 = some .free))) = true
  seen : (js.all fun j => decide (scope.names.lookup (X.N.getD j (Str.ofString "")) = some .free)) = true

section
variable {X : Cx} {pins : List (Addr × Obj)} {σ : St} {H H2 H' : Hp} {s s2 : Shared} {scope : Scope} {T : List Str} {js : List Nat}
theorem CompSc.has (S : CompSc X scope T js) (I : Inv X pins σ H s) : ∀ y ∈ scope.names, y.2 = .free → ∃ c, X.env.cells.lookup y.1 = some c := fun y hy hf =>
  I.ok.has y.1 (of_decide_eq_true (List.all_eq_true.mp S.fr y hy) hf)

theorem comp_start {fp : List Addr} {D : Addr} {o : Obj} {h4 : Heap} {t4 : Nat} (S : CompSc X scope T js) (I : Inv X pins σ H s) (hc : X.calm = true) (hfp : ∀ b ∈ fp, FpOk X pins H b) (hob : ∀ b ∈ fp, ∃ o, s.heap.get? b = some o)
    (hD : s.heap.objs.size ≤ D) (hDo : h4.get? D = some o) (hod : ∀ v, o.data ≠ .cell v) {C : Addr} (hC : s.heap.objs.size ≤ C) (hDC : D ≠ C) (hk : ∀ b u, s.heap.get? b = some u → h4.get? b = some u) {m : Str → Option Value} (hm : h4.Ns C m) :
    Inv (X.comp scope T js C s H fp (X.pn ++ pins)) [(D, o)] (cells0 T.length js σ) H { s with heap := h4, toks := t4 } := by
  have hhas := S.has I
  have look : ∀ x c, (clOf X.env scope.names []).lookup x = some c → X.env.cells.lookup x = some c := fun x c e => clOf_lookup scope.names [] hhas (fun _ _ z => by simp at z) e
  have ltc : ∀ x c, X.env.cells.lookup x = some c → c < s.heap.objs.size := fun x c e => by obtain ⟨v, q⟩ := I.cell x c e; exact q.lt
  have ltp : ∀ p ∈ X.pn ++ pins, p.1 < s.heap.objs.size := fun p hp => Heap.lt_size (I.pin p hp).1
  have ltf : ∀ b ∈ fp, b < s.heap.objs.size := fun b hb => by obtain ⟨o, e⟩ := hob b hb; exact Heap.lt_size e
  have stk : ∀ b ∈ frs X.stack, b ≠ X.env.locals → b ∈ X.fs := fun b hb ne => (List.mem_cons.mp (I.stkSub b hb)).elim (fun z => absurd z ne) id
  have frC : H C = none := I.hok.fresh hC
  have frD : H D = none := I.hok.fresh hD
  refine ⟨⟨I.ok.mod, S.kind, I.ok.glob, I.ok.blt, hC, fun x y c h1 h2 => I.ok.inj x y c (look x c h1) (look y c h2), fun x hx => ?_, fun x c hf => (by cases hf), I.ok.hd, I.ok.frames, .inl rfl, fun b hb => ?_, I.bs, Nat.le_trans I.ok.bsz I.sz, fun b ob e hb => ?_, fun b hb hq => ?_, I.stack, I.stkFree⟩,
    rfl, I.bare, Un.kept hk, ⟨m, hm, fun i x v h1 h2 h3 => ?_⟩, fun x c e => ?_, frC, fun x c e => I.freeC x c (look x c e), fun p hp => ?_, I.hok.kept hk, ?_⟩
  · obtain ⟨k0, e0, hk0⟩ : ∃ k0, scope.names.lookup x = some k0 ∧ k0 = .free := by
      rcases hx with hx | hx
      · obtain ⟨k0, e0, q⟩ := lookup_relabel hx
        rcases q with q | q
        · exact absurd q.symm (of_decide_eq_true (List.all_eq_true.mp S.cell _ (PySem.mem_of_lookup e0)))
        · exact ⟨k0, e0, q.2⟩
      · obtain ⟨k0, e0, q⟩ := lookup_relabel hx
        rcases q with q | q
        · exact ⟨k0, e0, q.symm⟩
        · exact ⟨k0, e0, q.2⟩
    subst hk0
    exact clOf_has scope.names [] (.inl (PySem.mem_of_lookup e0))
  · refine ⟨Nat.ne_of_lt (Nat.lt_of_lt_of_le (ltf b hb) hC), fun x c e => (hfp b hb).2.2.2.2.1 x c (look x c e)⟩
  · obtain ⟨_, _, _, q, _⟩ := hfp b hb
    rcases q with q | q
    · exact I.ok.noex b ob e q
    · exact absurd (Nat.lt_of_lt_of_le (Heap.lt_size e) (Nat.le_trans I.ok.bsz q)) (Nat.lt_irrefl _)
  · obtain ⟨_, q1, q2, _⟩ := hfp b hb
    exact q2 (stk b hq q1)
  · -- the names that the block sees
    have h1' : (T ++ X.seen js)[i]? = some x := h1
    have hi : T.length ≤ i := by
      refine Nat.le_of_not_lt fun hlt => ?_
      unfold cells0 at h2
      rw [List.getElem?_append_left (by simpa using hlt), List.getElem?_replicate] at h2
      split at h2 <;> cases h2
    rw [List.getElem?_append_right hi] at h1'
    unfold cells0 at h2
    rw [List.getElem?_append_right (by simpa using hi), List.length_replicate] at h2
    unfold seenV at h2
    rw [List.getElem?_map] at h1' h2
    cases ej : js[i - T.length]? with
    | none => rw [ej] at h1'; cases h1'
    | some j =>
      rw [ej] at h1' h2
      have e1 : X.N.getD j (Str.ofString "") = x := Option.some.inj h1'
      have e2 : σ.getD j none = some v := Option.some.inj h2
      have hjf := of_decide_eq_true (List.all_eq_true.mp S.seen j (List.mem_of_getElem? ej))
      rw [e1] at hjf
      have eσ : σ[j]? = some (some v) := by
        rw [List.getD_eq_getElem?_getD] at e2
        cases q : σ[j]? with
        | none => rw [q] at e2; cases e2
        | some w => rw [q] at e2; exact congrArg some e2
      have hjl : j < X.N.length := by rw [← I.len]; exact (List.getElem?_eq_some_iff.mp eσ).1
      have eN : X.N[j]? = some x := by
        rw [List.getElem?_eq_getElem hjl]
        rw [List.getD_eq_getElem?_getD, List.getElem?_eq_getElem hjl] at e1
        exact congrArg some e1
      have kx := of_decide_eq_true (List.all_eq_true.mp S.fr _ (PySem.mem_of_lookup hjf)) rfl
      obtain ⟨m0, hn0, hl0⟩ := I.loc
      obtain ⟨u, ru, lk⟩ := hl0 j x v eN eσ (by rcases kx with q | q; exact .inr (.inl q); exact .inr (.inr q))
      refine ⟨u, ru, .inr ⟨?_, ?_⟩⟩
      · obtain ⟨k, hkx⟩ : ∃ k, (relabel scope X.env).names.lookup x = some k := by
          rcases h3 with q | q | q
          · exact ⟨_, q⟩
          · exact ⟨_, q⟩
          · exact ⟨_, q⟩
        obtain ⟨k0, e0, q⟩ := lookup_relabel hkx
        rw [hjf] at e0
        cases e0
        rcases q with q | q
        · subst q; exact .inr hkx
        · rw [q.1] at hkx; exact .inl hkx
      · rcases lk with ⟨kl, _⟩ | ⟨_, c, ec, zc⟩
        · rw [kl] at kx
          rcases kx with q | q <;> cases q
        · obtain ⟨c', ec'⟩ := clOf_has (env := X.env) scope.names [] (.inl (PySem.mem_of_lookup hjf))
          have e3 := look x c' ec'
          rw [ec] at e3
          cases e3
          refine ⟨c, ec', ?_⟩
          obtain ⟨oc, hoc, hd⟩ := zc
          exact ⟨oc, hk c oc hoc, hd⟩
  · obtain ⟨v, oc, hoc, hd⟩ := I.cell x c (look x c e)
    exact ⟨v, oc, hk c oc hoc, hd⟩
  · rcases List.mem_append.mp hp with hp | hp
    · obtain ⟨e, n, ne, nf, d⟩ := I.pin p hp
      refine ⟨hk p.1 p.2 e, n, Nat.ne_of_lt (Nat.lt_of_lt_of_le (ltp p hp) hC), fun z => nf (stk p.1 z ne), d⟩
    · obtain rfl : p = (D, o) := by simpa using hp
      refine ⟨hDo, frD, hDC, fun z => ?_, hod⟩
      obtain ⟨_, ob, e, _⟩ := I.stack.mem z
      exact absurd (Nat.lt_of_lt_of_le (Heap.lt_size e) hD) (Nat.lt_irrefl _)
  · show (cells0 T.length js σ).length = (T ++ X.seen js).length
    unfold cells0 seenV
    simp
end
end L2

namespace L2
open PySem PySem.Spec PyProof.Rows

section
variable {prog : Program} {w : World} {A : Around} {R : Result → Shared → Prop} {s : Shared}
theorem compLoop_gen {elt target iter : Expr} {ifs : List Expr} {scope : Scope} {pos : Pos} {it acc : Value} {env : Env} (I : Nat → Shared → Prop)
    (turn : ∀ n s, I n s → wpAny (model prog w) A (pyNext it) (fun r s₁ => match r with
      | none => R (.ok .next) s₁
      | some v => wpAny (model prog w) A (letOwnedTupleGo target it v) (fun _ s₁' => wpAny (model prog w) A (assign target env v) (fun _ s₂ =>
          wpAny (model prog w) A (forIn ifs true fun c r => if r = true then do let ok ← isTrue c env (eval c env); pure (ForInStep.yield ok) else pure (ForInStep.yield r)) (fun ok s₃ =>
            if ok = true then wpAny (model prog w) A (eval elt env) (fun x s₄ =>
              wpAny (model prog w) A (call (.builtin "list.append") [acc, x]) (fun _ s₅ => ∃ m, m < n ∧ I m s₅) (fun _ _ => False) s₄) (fun _ _ => False) s₃
            else ∃ m, m < n ∧ I m s₃) (fun _ _ => False) s₂) (fun _ _ => False) s₁') (fun _ _ => False) s₁) (fun _ _ => False) s)
    (n : Nat) (h : I n s) : codeAny (model prog w) A (.compLoop (.ListComp elt [⟨target, iter, ifs, 0⟩] scope pos) 0 it acc env) R s := by
  refine codeAny_loop rfl I (fun n s hI => ?_) n h
  show wpAny _ A ((compTurn (.ListComp elt [⟨target, iter, ifs, 0⟩] scope pos) 0 it acc env).onRaise (fun x => do noteFrame x env; theTreesLotGoes x)) _ _ s
  refine wpAny_noted (wpAny_noRaise ?_)
  rw [compTurn_list]
  refine wpAny_bind (wpAny_standAt (wpAny_bind (thn (turn n s hI) fun r s₁ h₁ => ?_)))
  cases r with
  | none => exact wpAny_pure h₁
  | some v =>
    refine wpAny_bind (thn h₁ fun _ s₁' h₁' => ?_)
    refine wpAny_bind (thn h₁' fun _ s₂ h₂ => wpAny_bind (thn h₂ fun ok s₃ h₃ => ?_))
    cases ok with
    | false => exact wpAny_pure ⟨rfl, h₃⟩
    | true => exact wpAny_bind (wpAny_bind (thn h₃ fun x s₄ h₄ => wpAny_bind (thn h₄ fun _ s₅ h₅ => wpAny_pure (wpAny_pure ⟨rfl, h₅⟩))))
end

abbrev TB := (V → Hp → Prop) → (Hp → Prop) → St → Hp → Prop
def PCB (X : Cx) (ifs : List Expr) (elt : Expr) (tb : TB) : Prop :=
  ∀ (pins : List (Addr × Obj)) (s : Shared) (σ : St) (H : Hp) (K : V → Hp → Prop) (N : Hp → Prop), Inv X pins σ H s → tb K N σ H →
    wpAny (model X.prog X.w) X.A (forIn ifs true fun c r => if r = true then do let ok ← isTrue c X.env (eval c X.env); pure (ForInStep.yield ok) else pure (ForInStep.yield r))
      (fun ok s3 => if ok = true then wpAny (model X.prog X.w) X.A (eval elt X.env) (fun u s4 => ∃ v H4, Inv X pins σ H4 s4 ∧ RelV v u ∧ K v H4) X.xe s3 else ∃ H3, Inv X pins σ H3 s3 ∧ N H3) X.xe s
def cbElt (te : TE) : TB := fun K _ σ H => te σ H K
def cbIf (tc : TT) (te : TE) : TB := fun K N σ H => tc σ H fun b H1 => if b = true then te σ H1 K else N H1
theorem pcb_elt {X : Cx} {elt : Expr} {te : TE} (he : PE X elt te) : PCB X [] elt (cbElt te) := by
  intro pins s σ H K N I h
  refine wpAny_tests_nil ?_
  rw [if_pos rfl]
  exact he pins s σ H K I h
theorem pcb_if {X : Cx} {c elt : Expr} {tc : TT} {te : TE} (hc : PT X c tc) (he : PE X elt te) : PCB X [c] elt (cbIf tc te) := by
  intro pins s σ H K N I h
  refine wpAny_tests_one (thn (hc pins s σ H _ I h) fun b s1 ⟨H1, I1, q1⟩ => ?_)
  cases b with
  | true =>
    rw [if_pos rfl] at q1 ⊢
    exact he pins s1 σ H1 K I1 q1
  | false =>
    rw [if_neg Bool.false_ne_true] at q1 ⊢
    exact ⟨H1, I1, q1⟩

def CompW (nT : Nat) (js : List Nat) (J : It) (g : TG) (tb : TB) (σ : St) (H1 : Hp) (Q : VK) : Prop :=
  ∃ W : Nat → Nat → List V → Hp → Prop, (∃ m, W 0 m [] H1) ∧ ∀ i m ys H2, W i m ys H2 →
    (J.stop i H2 ∧ ys.length ≤ sizeLine ∧ ∀ l, H2 l = none → Q (.ref l) (upd H2 l (.lst ys))) ∨
    (J.go i H2 ∧ ys.length < sizeLine ∧ ∃ N : List V → Hp → Prop, (∀ ys' H', N ys' H' → ∃ m', m' < m ∧ W (i + 1) m' ys' H') ∧ ∀ x H3, J.yld i H2 x H3 → g x (cells0 nT js σ) H3 fun σ4 H4 => σ4.drop nT = seenV js σ ∧
       tb (fun v H5 => N (ys ++ [v]) H5) (fun H5 => N ys H5) σ4 H4)
def tComp (nT : Nat) (js : List Nat) (wi : TI) (g : TG) (tb : TB) : TE := fun σ H Q => wi σ H fun J H1 => CompW nT js J g tb σ H1 Q

def lobj (its : List Value) (n : Nat) : Obj := { cls := .type "list", data := .seq its.toArray n }

section
variable {X : Cx} {pins : List (Addr × Obj)} {σ : St} {H2 : Hp} {s2 : Shared} {scope : Scope} {T : List Str} {js : List Nat}
theorem Un.track {fs ex : List Addr} {H H' : Hp} {h h' : Heap} {D : Addr} {o : HO} (u : Un fs ex H H' h h') (hD : h.objs.size ≤ D) (hn : H' D = none) : Un fs ex H (upd H' D o) h h' where
  keep := u.keep
  slot := u.slot
  free := fun b ob e n hx => by rw [upd_ne (Nat.ne_of_lt (Nat.lt_of_lt_of_le (Heap.lt_size e) hD))]; exact u.free b ob e n hx
  there := u.there
  tups := fun b xs e => by have q := u.tups b xs e; rw [upd_ne (ne_of_none q hn)]; exact q
  frzs := fun b ob w e => by have q := u.frzs b ob w e; rw [upd_ne (ne_of_none q hn)]; exact q
  tbls := fun b ps e => by obtain ⟨m, q⟩ := u.tbls b ps e; exact ⟨m, by rw [upd_ne (ne_of_none q hn)]; exact q⟩
theorem HOk.track {P : Program} {w : World} {H : Hp} {h : Heap} {D : Addr} {o : HO} (x : HOk P w H h) (hn : H D = none) (new : ObjOk P w (upd H D o) h D o) : HOk P w (upd H D o) h := fun b u e => by
  by_cases hb : b = D
  · subst hb; rw [upd_same] at e; cases e; exact new
  · rw [upd_ne hb] at e
    exact (x b u e).stay (fun c v _ q => q) (fun c q => by rw [upd_ne (ne_of_none q hn)]; exact q) fun c xs q => by rw [upd_ne (ne_of_none q hn)]; exact q

theorem acc_append {XC : Cx} {D : Addr} {its : List Value} {n : Nat} {σc : St} {H : Hp} {s : Shared} {u : Value} (I : Inv XC [(D, lobj its n)] σc H s) (hD : XC.s₀.heap.objs.size ≤ D) (hc : ∀ x c, XC.env.cells.lookup x = some c → c ≠ D)
    (hp : ∀ p ∈ XC.pn, p.1 ≠ D) (hz : its.length < sizeLine) :
    wpAny (model XC.prog XC.w) XC.A (call (.builtin "list.append") [.ref D, u]) (fun _ s5 => ∃ n', Inv XC [(D, lobj (its ++ [u]) n')] σc H s5 ∧ ∀ b o, b ≠ D → s.heap.get? b = some o → s5.heap.get? b = some o) (fun _ _ => False) s := by
  obtain ⟨e, hn, hL, hf, hd⟩ := I.pin (D, lobj its n) (List.mem_append_right _ (List.mem_singleton.mpr rfl))
  refine call_meets F.slot_list_append ⟨_, e, rfl⟩ F.entry_list_append (F.args_list_append_2 _ _) (PySem.list_append D its.toArray n u (by rw [List.size_toArray]; omega)) ⟨e, ?_⟩
  have q := PySem.IsL.update e (·.push u)
  have I0 : Inv XC [] σc H s := I.pins_of fun p hp => absurd hp (by simp)
  have k : ∀ b o, b ≠ D → s.heap.get? b = some o → (s.heap.update D (Obj.mapSeq (·.push u))).get? b = some o := fun b o hb e' => (Heap.get?_update_other s.heap (Obj.mapSeq (·.push u)) (Ne.symm hb)).trans e'
  have I1 : Inv XC [] σc H { s with heap := s.heap.update D (Obj.mapSeq (·.push u)) } :=
    I0.turned (it := D) (t' := s.toks) k hn hL (.inr hD) hc (fun p hp' => hp p (by simpa using hp'))
  refine ⟨(if ((its ++ [u]).toArray.size == its.toArray.size) = true then n else n + 1), I1.pins_of fun p hp' => ?_, k⟩
  obtain rfl : p = (D, lobj (its ++ [u]) (if ((its ++ [u]).toArray.size == its.toArray.size) = true then n else n + 1)) := by simpa using hp'
  refine ⟨?_, hn, hL, hf, fun v z => by cases z⟩
  have q' : (its.toArray.push u) = (its ++ [u]).toArray := by simp
  rw [q'] at q
  exact q

theorem comp_block {tg iter elt : Expr} {ifs : List Expr} {pos : Pos} {g : TG} {tb : TB} {it : Addr} {fp : List Addr} {tn : Nat → Heap → Prop} {J : It} {E : Value → Shared → Prop} {RR : Value → Addr → Result → Shared → Prop}
    (S : CompSc X scope T js) (hc : X.calm = true) (I : Inv X pins σ H2 s2) (TT : Turn X.prog X.w X.K tg J fp it tn) (st : tn 0 s2.heap) (hfp : ∀ b ∈ fp, FpOk X pins H2 b)
    (hg : ∀ C s₀ H₀ ex pn, PG (X.comp scope T js C s₀ H₀ ex pn) tg g) (hb : ∀ C s₀ H₀ ex pn, PCB (X.comp scope T js C s₀ H₀ ex pn) ifs elt tb) {Q : VK}
    (W : Nat → Nat → List V → Hp → Prop) (w0 : ∃ m, W 0 m [] H2)
    (turn : ∀ i m ys H2, W i m ys H2 →
      (J.stop i H2 ∧ ys.length ≤ sizeLine ∧ ∀ l, H2 l = none → Q (.ref l) (upd H2 l (.lst ys))) ∨
      (J.go i H2 ∧ ys.length < sizeLine ∧ ∃ N : List V → Hp → Prop, (∀ ys' H', N ys' H' → ∃ m', m' < m ∧ W (i + 1) m' ys' H') ∧ ∀ x H3, J.yld i H2 x H3 → g x (cells0 T.length js σ) H3 fun σ4 H4 => σ4.drop T.length = seenV js σ ∧
        tb (fun v H5 => N (ys ++ [v]) H5) (fun H5 => N ys H5) σ4 H4))
    (hRR : ∀ D C s' H' m, s2.heap.objs.size ≤ C → D ≠ C → s'.heap.Ns C m → H' C = none → Inv X pins σ H' s' → Q (.ref D) H' → RR (.ref D) C (.ok .next) s') :
    wpAny (model X.prog X.w) X.A (newList []) (fun acc s₃ => wpAny (model X.prog X.w) X.A (newFunctionEnv scope X.env.globals (clOf X.env scope.names []) [] X.env.qual none .none (some X.env)) (fun cenv s₄ =>
      codeAny (model X.prog X.w) X.A (.compStart (.ListComp elt [⟨tg, iter, ifs, 0⟩] scope pos) 0 (.ref it) acc { cenv with scope := relabel scope X.env }) (RR acc cenv.locals) s₄) E s₃) E s2 := by
  have ob : ∀ b ∈ fp, ∃ o, s2.heap.get? b = some o := fun b hb => by obtain ⟨o, e, _⟩ := TT.obj 0 _ st b hb; exact ⟨o, e⟩
  have ltf : ∀ b ∈ fp, b < s2.heap.objs.size := fun b hb => by obtain ⟨o, e⟩ := ob b hb; exact Heap.lt_size e
  have hcell : ∀ y ∈ scope.names, y.2 ≠ .cell := fun y hy => of_decide_eq_true (List.all_eq_true.mp S.cell y hy)
  refine wpAny_newObj_type (wpAny_newFunctionEnv hcell (by intro y hy; simp at hy) (fun h₁ hns₁ hsb₁ => ?_) S.kind)
  dsimp only at hns₁ hsb₁ ⊢
  generalize hHH : s2.heap.push { cls := .type "list", dict := none, data := .seq ([] : List Value).toArray } = HH at hns₁ hsb₁ ⊢
  have hC : HH.objs.size = s2.heap.objs.size + 1 := by rw [← hHH, Heap.size_push]
  have hDC : s2.heap.objs.size ≠ HH.objs.size := by rw [hC]; exact Nat.ne_of_lt (Nat.lt_succ_self _)
  have hCle : s2.heap.objs.size ≤ HH.objs.size := by rw [hC]; exact Nat.le_succ _
  have below : ∀ b, b < s2.heap.objs.size → b ≠ HH.objs.size := fun b hb => by rw [hC]; exact Nat.ne_of_lt (Nat.lt_succ_of_lt hb)
  have old : ∀ b o, s2.heap.get? b = some o → h₁.get? b = some o := fun b o e => hsb₁.extBut b o (below b (Heap.lt_size e)) (Heap.get?_push_of_some _ (hHH ▸ Heap.get?_push_of_some _ e))
  have hacc : h₁.get? s2.heap.objs.size = some (lobj [] 0) := hsb₁.extBut _ _ hDC (Heap.get?_push_of_some _ (hHH ▸ Heap.get?_push_size _ rfl))
  generalize hCC : HH.objs.size = C at *
  generalize hDD : s2.heap.objs.size = D at *
  have I4 : ∀ t4, Inv (X.comp scope T js C s2 H2 fp (X.pn ++ pins)) [(D, lobj [] 0)] (cells0 T.length js σ) H2 { s2 with heap := h₁, toks := t4 } := fun t4 =>
    comp_start S I hc hfp ob (Nat.le_of_eq hDD) hacc (fun v z => by cases z) (by rw [hDD]; exact hCle) hDC old hns₁
  have look : ∀ x c, (clOf X.env scope.names []).lookup x = some c → X.env.cells.lookup x = some c := fun x c e => clOf_lookup scope.names [] (S.has I) (fun _ _ z => by simp at z) e
  have ltc : ∀ x c, X.env.cells.lookup x = some c → c < D := fun x c e => by obtain ⟨v, q⟩ := I.cell x c e; rw [← hDD]; exact q.lt
  have ltp : ∀ p ∈ X.pn ++ pins, p.1 < D := fun p hp => by rw [← hDD]; exact Heap.lt_size (I.pin p hp).1
  have stat : ∀ {H' : Hp} {o : Obj}, (∀ b ∈ fp, H' b = none) → ∀ b ∈ fp, FpOk (X.comp scope T js C s2 H2 fp (X.pn ++ pins)) [(D, o)] H' b := fun hn b hb => by
    obtain ⟨_, q1, q2, q3, q4, q5⟩ := hfp b hb
    have lb : b < D := ltf b hb
    refine ⟨hn b hb, Nat.ne_of_lt (Nat.lt_of_lt_of_le lb hCle), fun z => ?_, .inl hb, fun x c e => q4 x c (look x c e), fun p hp => ?_⟩
    · exact (List.mem_cons.mp (I.stkSub b z)).elim q1 q2
    · rcases List.mem_append.mp hp with hp | hp
      · exact q5 p hp
      · obtain rfl : p = (D, _) := by simpa using hp
        exact Nat.ne_of_gt lb
  have loop : ∀ t4, codeAny (model X.prog X.w) X.A (.compLoop (.ListComp elt [⟨tg, iter, ifs, 0⟩] scope pos) 0 (.ref it) (.ref D) (compEnvC scope (clOf X.env scope.names []) C X.env)) (RR (.ref D) C) { s2 with heap := h₁, toks := t4 } := by
    intro t4
    obtain ⟨m0, w0⟩ := w0
    refine compLoop_gen (fun n s' => ∃ i ys H' its nn, Inv (X.comp scope T js C s2 H2 fp (X.pn ++ pins)) [(D, lobj its nn)] (cells0 T.length js σ) H' s' ∧ Vals ys its ∧ tn i s'.heap ∧ (∀ b ∈ fp, H' b = none) ∧ W i n ys H') ?_ m0
      ⟨0, [], H2, [], 0, I4 t4, .nil, TT.keep _ _ _ st fun b hb o e => old b o e, fun b hb => (hfp b hb).1, w0⟩
    rintro n s3 ⟨i, ys, H3, its, nn, I3, v3, st3, fr3, w3⟩
    rcases turn i n ys H3 w3 with ⟨stop, hz, q⟩ | ⟨go, hz, N, hN, step⟩
    · refine thn (TT.done (X.comp scope T js C s2 H2 fp (X.pn ++ pins)) rfl rfl rfl hc i _ s3 _ H3 _ I3 (stat fr3) st3 stop) fun r s4 ⟨hr, I5⟩ => ?_
      subst hr
      obtain ⟨e, hn, hL, hf, hd⟩ := I5.pin (D, lobj its nn) (List.mem_append_right _ (List.mem_singleton.mpr rfl))
      have hH : HOk X.prog X.w (upd H3 D (.lst ys)) s4.heap := I5.hok.track hn ⟨hz, its, nn, v3, e⟩
      have hU : Un (frs X.stack) fp H2 (upd H3 D (.lst ys)) s2.heap s4.heap := Un.track I5.base (Nat.le_of_eq hDD) hn
      have IX : Inv X pins σ (upd H3 D (.lst ys)) s4 := I.call' (ch := fp) I5.os hU hH I5.bare fun b hb => by
        obtain ⟨_, q1, q2, q3, q4, q5⟩ := hfp b hb
        exact ⟨q3, q1, q4, q5⟩
      obtain ⟨m, hm, _⟩ := I5.loc
      exact hRR D C s4 _ m hCle hDC hm (by rw [upd_ne (Ne.symm hDC)]; exact I5.free) IX (q D hn)
    · refine thn (TT.item (X.comp scope T js C s2 H2 fp (X.pn ++ pins)) rfl rfl rfl hc i _ s3 _ H3 _ I3 (stat fr3) st3 go) fun r s4 ⟨u, hr, h4⟩ => ?_
      subst hr
      refine thn h4 fun _ s5 ⟨x, H5, I5, r5, y5, st5, fr5⟩ => ?_
      have I5' := I5.pinned (stat fr5) (TT.obj _ _ st5)
      refine thn (hg C s2 H2 fp (X.pn ++ pins) _ s5 _ H5 x u _ I5' r5 (step x H5 y5)) fun _ s6 ⟨σ6, H6, I6, dr, q6⟩ => ?_
      have I6' : Inv (X.comp scope T js C s2 H2 fp (X.pn ++ pins)) ([(D, lobj its nn)] ++ pinsAt fp s5.heap) σ6 H6 s6 := I6
      refine thn (hb C s2 H2 fp (X.pn ++ pins) _ s6 σ6 H6 _ _ I6' q6) fun ok s7 q7 => ?_
      have back : ∀ {o : Obj} {s8 : Shared} {H8 : Hp}, Inv (X.comp scope T js C s2 H2 fp (X.pn ++ pins)) ([(D, o)] ++ pinsAt fp s5.heap) σ6 H8 s8 → Inv (X.comp scope T js C s2 H2 fp (X.pn ++ pins)) [(D, o)] (cells0 T.length js σ) H8 s8 ∧ tn (i + 1) s8.heap ∧ ∀ b ∈ fp, H8 b = none := fun {o s8 H8} I8 => by
        refine ⟨I8.unpinned.weak ?_ fun j v e => ?_, TT.keep _ _ _ st5 fun b hb o' e => (I8.pin (b, o') (List.mem_append_right _ (List.mem_append_right _ (mem_pinsAt hb e)))).1, fun b hb => ?_⟩
        · rw [I8.len]
          show (cells0 T.length js σ).length = (T ++ X.seen js).length
          unfold cells0 seenV
          simp
        · unfold cells0 at e
          by_cases hj : j < T.length
          · rw [List.getElem?_append_left (by simpa using hj), List.getElem?_replicate] at e
            split at e <;> cases e
          · rw [List.getElem?_append_right (by simpa using hj), List.length_replicate, ← dr, List.getElem?_drop] at e
            rw [show T.length + (j - T.length) = j by omega] at e
            exact e
        · obtain ⟨o', e, d⟩ := TT.obj _ _ st5 b hb
          exact (I8.pin (b, o') (List.mem_append_right _ (List.mem_append_right _ (mem_pinsAt hb e)))).2.1
      cases ok with
      | false =>
        rw [if_neg Bool.false_ne_true] at q7 ⊢
        obtain ⟨H7, I7, n7⟩ := q7
        obtain ⟨m', hm', w7⟩ := hN _ _ n7
        obtain ⟨J1, J2, J3⟩ := back I7
        exact ⟨m', hm', i + 1, ys, H7, its, nn, J1, v3, J2, J3, w7⟩
      | true =>
        rw [if_pos rfl] at q7 ⊢
        refine thn q7 fun u7 s8 ⟨v, H8, I8, r8, n8⟩ => ?_
        obtain ⟨m', hm', w8⟩ := hN _ _ n8
        obtain ⟨J1, J2, J3⟩ := back I8
        have lz : its.length < sizeLine := by rw [← v3.length]; exact hz
        refine thn (acc_append (XC := X.comp scope T js C s2 H2 fp (X.pn ++ pins)) (u := u7) J1 (Nat.le_of_eq hDD) (fun x c e => Nat.ne_of_lt (ltc x c (look x c e))) (fun p hp => Nat.ne_of_lt (ltp p hp)) lz) fun _ s9 ⟨n', I9, k9⟩ => ?_
        refine ⟨m', hm', i + 1, ys ++ [v], H8, its ++ [u7], n', I9, v3.append (.cons r8 .nil), TT.keep _ _ _ J2 fun b hb o e => k9 b o (Nat.ne_of_lt (ltf b hb)) e, J3, w8⟩
  exact codeAny_compStart_list (loop _) (TT.self _ 0 _ _ _ (TT.keep _ _ _ st fun b hb o e => old b o e) (loop _))

theorem CompSc.names (S : CompSc X scope T js) : ∀ y ∈ scope.names, y.2 = .local → scope.names.lookup y.1 = some .local := fun y hy => of_decide_eq_true (List.all_eq_true.mp S.loc y hy)

theorem Inv.dropC {C : Addr} {H' : Hp} {s s' : Shared} {h' : Heap} (I : Inv X pins σ H2 s) (hC : s.heap.objs.size ≤ C) (I' : Inv X pins σ H' s') (hn : H' C = none) (hs : Heap.SameBut C s'.heap h') : Inv X pins σ H' { s' with heap := h' } := by
  refine I'.turned (it := C) (t' := s'.toks) (fun b o hb e => (hs.2 b hb).trans e) hn (Nat.ne_of_gt (Nat.lt_of_lt_of_le I.lt hC)) (.inr (Nat.le_trans I.sz hC)) (fun x c e => ?_) fun p hp => ?_
  · obtain ⟨v, q⟩ := I.cell x c e
    exact Nat.ne_of_lt (Nat.lt_of_lt_of_le q.lt hC)
  · exact Nat.ne_of_lt (Nat.lt_of_lt_of_le (Heap.lt_size (I.pin p hp).1) hC)

theorem pe_comp {tg iter elt : Expr} {ifs : List Expr} {pos : Pos} {wi : TI} {g : TG} {tb : TB} (T : List Str) (js : List Nat) (S : CompSc X scope T js) (hc : X.calm = true) (hi : PI X tg iter wi)
    (hg : ∀ C s₀ H₀ ex pn, PG (X.comp scope T js C s₀ H₀ ex pn) tg g) (hb : ∀ C s₀ H₀ ex pn, PCB (X.comp scope T js C s₀ H₀ ex pn) ifs elt tb)
    (hs : ∀ x, foldedSetIterable iter X.env x = pure x := by intro _; rfl) : PE X (.ListComp elt [⟨tg, iter, ifs, 0⟩] scope pos) (tComp T.length js wi g tb) := by
  intro pins s σ H Q I h
  rw [eval_ListComp]
  refine wpAny_comprehension_free (use := none) rfl hs (closureFor_clOf (S.has I)) S.kind S.names (thn (hi pins s σ H _ I h) fun v s1 h1 => thn h1 fun itv s2 h2 => ?_)
  obtain ⟨it, fp, tn, J, H2, e, I2, TT, st2, f2, W, w0, turn⟩ := h2
  subst e
  refine comp_block (RR := fun acc C => compPost (model X.prog X.w) X.A X.xe none (EP X pins σ Q) acc C) S hc I2 TT st2 f2 hg hb W w0 turn fun D C s' H' m hC hDC hm hn I' q => ?_
  exact ⟨m, hm, fun h' hs' => ⟨.ref D, H', I2.dropC hC I' hn hs', rfl, q⟩⟩

theorem ps_setComp {tg iter elt : Expr} {ifs : List Expr} {pos pos' spos : Pos} {wi : TI} {g : TG} {tb : TB} {i : Nat} {x : Str} (T : List Str) (js : List Nat) (hN : X.N.Nodup) (hxi : X.N[i]? = some x) (hx : X.env.scope.names.lookup x = some .local)
    (S : CompSc X scope T js) (hc : X.calm = true) (hi : PI X tg iter wi)
    (hg : ∀ C s₀ H₀ ex pn, PG (X.comp scope T js C s₀ H₀ ex pn) tg g) (hb : ∀ C s₀ H₀ ex pn, PCB (X.comp scope T js C s₀ H₀ ex pn) ifs elt tb)
    (hsw : swapsWith (.ListComp elt [⟨tg, iter, ifs, 0⟩] scope pos) (some (.Name x pos')) spos.line X.env = pure true := by rfl)
    (hs : ∀ x, foldedSetIterable iter X.env x = pure x := by intro _; rfl) : PS X (.Assign [.Name x pos'] (.ListComp elt [⟨tg, iter, ifs, 0⟩] scope pos) spos) (tAsg (tComp T.length js wi g tb) (gName i)) := by
  intro pins s σ H D0 I h
  rw [exec_Assign_Name_used _ _ _ _ hsw]
  refine wpAny_bind (wpAny_standAt (wpAny_bind ?_))
  show wpAny _ X.A (do let _ ← comprehension (.ListComp elt [⟨tg, iter, ifs, 0⟩] scope pos) scope X.env _ (newList []) false (eval iter X.env) (some (assign (.Name x pos') X.env))) _ _ s
  refine wpAny_bind (thn (wpAny_comprehension_free (use := some (assign (.Name x pos') X.env)) (Q := fun _ s' => SP X pins D0 .next s') rfl hs (closureFor_clOf (S.has I)) S.kind S.names (thn (hi pins s σ H _ I h) fun v s1 h1 => thn h1 fun itv s2 h2 => ?_)) fun _ s' hq => wpAny_pure (wpAny_pure hq))
  obtain ⟨it, fp, tn, J, H2, e, I2, TT, st2, f2, W, w0, turn⟩ := h2
  subst e
  refine comp_block (Q := fun x H1 => gName i x σ H1 D0.nx) (RR := fun acc C => compPost (model X.prog X.w) X.A X.xe (some (assign (.Name x pos') X.env)) (fun _ s' => SP X pins D0 .next s') acc C) S hc I2 TT st2 f2 hg hb W w0 turn fun D C s' H' m hC hDC hm hn I' q => ?_
  show wpAny _ X.A (assign (.Name x pos') X.env (.ref D)) _ _ _
  have nC : X.env.locals ≠ C := Nat.ne_of_lt (Nat.lt_of_lt_of_le I2.lt hC)
  refine wpAny_assign_Name (store_ok2 I' hN hxi (.inl hx) (v := .ref D) rfl (fun s3 I3 hs3 => ?_) (.inr hx))
  obtain ⟨a, sb, ha⟩ := hs3
  have na : C ≠ a := by
    rcases ha with z | z
    · rw [z]; exact Ne.symm nC
    · obtain ⟨v, q⟩ := I2.cell x a z
      exact Ne.symm (Nat.ne_of_lt (Nat.lt_of_lt_of_le q.lt hC))
  refine ⟨m, hm.sameBut sb na, fun h' hs' => ⟨_, H', ?_, q⟩⟩
  refine I3.turned (it := C) (t' := s3.toks) (fun b o hb e => (hs'.2 b hb).trans e) hn (Ne.symm nC) (.inr (Nat.le_trans I2.sz hC)) (fun x c e => ?_) fun p hp => ?_
  · obtain ⟨v, q⟩ := I2.cell x c e
    exact Nat.ne_of_lt (Nat.lt_of_lt_of_le q.lt hC)
  · exact Nat.ne_of_lt (Nat.lt_of_lt_of_le (Heap.lt_size (I2.pin p hp).1) hC)
end

section
variable {nT : Nat} {js : List Nat} {g : TG} {tb : TB} {Q : VK} {σ : St} {H : Hp}
theorem comp_range {lo : Int} {n : Nat} (Pv : Nat → List V → Hp → Prop) (h0 : Pv 0 [] H) (hz : n ≤ sizeLine) (hlen : ∀ i ys H, Pv i ys H → ys.length ≤ i)
    (hs : ∀ i ys H, i < n → Pv i ys H → g (.int (lo + i)) (cells0 nT js σ) H fun σ4 H4 => σ4.drop nT = seenV js σ ∧ tb (fun v H5 => Pv (i + 1) (ys ++ [v]) H5) (fun H5 => Pv (i + 1) ys H5) σ4 H4)
    (hd : ∀ ys H, Pv n ys H → ∀ l, H l = none → Q (.ref l) (upd H l (.lst ys))) :
    CompW nT js (Itr lo n) g tb σ H Q := by
  refine ⟨fun i m ys H => m = n - i ∧ i ≤ n ∧ Pv i ys H, ⟨n, by simp, Nat.zero_le _, h0⟩, ?_⟩
  rintro i m ys H2 ⟨rfl, hi, p⟩
  have hl := hlen i ys H2 p
  by_cases hlt : i < n
  · refine .inr ⟨hlt, by omega, Pv (i + 1), fun ys' H' p' => ⟨n - (i + 1), by omega, rfl, hlt, p'⟩, fun x H3 y => ?_⟩
    obtain ⟨e, y⟩ := y
    subst e y
    exact hs i ys _ hlt p
  · have e : i = n := by omega
    subst e
    exact .inl ⟨Nat.le_refl _, by omega, hd ys H2 p⟩
theorem comp_list {K : PySem.W.Frag} {a : Addr} {xs : List V} (Pv : Nat → List V → Hp → Prop) (h0 : Pv 0 [] H) (hz : xs.length ≤ sizeLine) (hlen : ∀ i ys H, Pv i ys H → ys.length ≤ i) (hl : ∀ i ys H, i ≤ xs.length → Pv i ys H → SqL K H a xs)
    (hs : ∀ i x ys H, xs[i]? = some x → Pv i ys H → g x (cells0 nT js σ) H fun σ4 H4 => σ4.drop nT = seenV js σ ∧ tb (fun v H5 => Pv (i + 1) (ys ++ [v]) H5) (fun H5 => Pv (i + 1) ys H5) σ4 H4)
    (hd : ∀ ys H, Pv xs.length ys H → ∀ l, H l = none → Q (.ref l) (upd H l (.lst ys))) :
    CompW nT js (Itl K a) g tb σ H Q := by
  refine ⟨fun i m ys H => m = xs.length - i ∧ i ≤ xs.length ∧ Pv i ys H, ⟨xs.length, by simp, Nat.zero_le _, h0⟩, ?_⟩
  rintro i m ys H2 ⟨rfl, hi, p⟩
  have hl' := hlen i ys H2 p
  have q := hl i ys H2 hi p
  by_cases hlt : i < xs.length
  · refine .inr ⟨⟨xs, xs[i], q, by simp [hlt]⟩, by omega, Pv (i + 1), fun ys' H' p' => ⟨xs.length - (i + 1), by omega, rfl, hlt, p'⟩, fun x H3 y => ?_⟩
    obtain ⟨e, y⟩ := y
    subst e
    exact hs i x ys _ (y xs q) p
  · have e : i = xs.length := by omega
    subst e
    exact .inl ⟨⟨xs, q, Nat.le_refl _⟩, by omega, hd ys H2 p⟩
theorem comp_tup {K : PySem.W.Frag} {a : Addr} {xs : List V} (Pv : Nat → List V → Hp → Prop) (h0 : Pv 0 [] H) (hz : xs.length ≤ sizeLine) (hlen : ∀ i ys H, Pv i ys H → ys.length ≤ i) (hl : ∀ i ys H, i ≤ xs.length → Pv i ys H → SqT K H a xs)
    (hs : ∀ i x ys H, xs[i]? = some x → Pv i ys H → g x (cells0 nT js σ) H fun σ4 H4 => σ4.drop nT = seenV js σ ∧ tb (fun v H5 => Pv (i + 1) (ys ++ [v]) H5) (fun H5 => Pv (i + 1) ys H5) σ4 H4)
    (hd : ∀ ys H, Pv xs.length ys H → ∀ l, H l = none → Q (.ref l) (upd H l (.lst ys))) :
    CompW nT js (Itt K a) g tb σ H Q := by
  refine ⟨fun i m ys H => m = xs.length - i ∧ i ≤ xs.length ∧ Pv i ys H, ⟨xs.length, by simp, Nat.zero_le _, h0⟩, ?_⟩
  rintro i m ys H2 ⟨rfl, hi, p⟩
  have hl' := hlen i ys H2 p
  have q := hl i ys H2 hi p
  by_cases hlt : i < xs.length
  · refine .inr ⟨⟨xs, xs[i], q, by simp [hlt]⟩, by omega, Pv (i + 1), fun ys' H' p' => ⟨xs.length - (i + 1), by omega, rfl, hlt, p'⟩, fun x H3 y => ?_⟩
    obtain ⟨e, y⟩ := y
    subst e
    exact hs i x ys _ (y xs q) p
  · have e : i = xs.length := by omega
    subst e
    exact .inl ⟨⟨xs, q, Nat.le_refl _⟩, by omega, hd ys H2 p⟩
end
end L2

namespace L2
open PySem PySem.Spec PyProof.Rows

section
variable {X : Cx}
def clsV : V → Value
  | .ty n => .type n
  | .ref a => .ref a
  | _ => .none
theorem call_isinst : CallR X (.builtin "isinstance") (fun xs H Q => ∃ x c t b, xs = [x, c] ∧ (∀ u, RelV c u → u = clsV c) ∧ TyOf X.K H x t ∧ PySem.W.kitOne X.K t (clsV c) = some b ∧ Q (.bl b) H) := by
  intro pins s σ H xs us Q I r h
  obtain ⟨x, c, t, b, rfl, hcv, ty, e, q⟩ := h
  obtain ⟨u, u', rfl, r1, r2⟩ := r.two
  obtain rfl := hcv u' r2
  exact isinst_ok I r1 ty e fun tk => ⟨.bl b, H, I.tok tk, rfl, q⟩
theorem bools_of : ∀ {bs : List Bool} {us : List Value}, Vals (bs.map V.bl) us → LSm.BoolsAre us bs
  | [], _, .nil => .nil
  | b :: bs, _, .cons r t => by
    cases (show _ = Value.bool b from r)
    exact .cons b (bools_of t)
theorem call_all (hc : X.calm = true) : CallR X (.builtin "all") (fun xs H Q => ∃ p, ∃ bs : List Bool, xs = [.ref p] ∧ SqL X.K H p (bs.map V.bl) ∧ Q (.bl (bs.all id)) H) := by
  intro pins s σ H xs us Q I r h
  obtain ⟨p, bs, rfl, hq, q⟩ := h
  obtain ⟨u, rfl, r1⟩ := r.one
  cases r1
  obtain ⟨its, rv, pl, hz⟩ := I.list hq
  have hb := bools_of rv
  have hl := pl.isList
  have hh := I.ok.hd hc
  have hlt : p < s.heap.objs.size := by obtain ⟨_, e, _⟩ := hl; exact Heap.lt_size e
  refine call_all_walk (wpAny_pyIter_list hl ?_)
  refine ⟨s.heap.objs.size, [s.heap.objs.size, p], [s.heap.objs.size], its.toArray.size, _, _, fun i => (bs[i]?).getD true, rfl, Walks.list (A := X.A.in1) hh _ p (Nat.ne_of_lt hlt) its.toArray,
    ⟨⟨_, Heap.get?_push_size _ rfl, rfl, rfl⟩, hl.push _⟩, fun i v s' Q' E' hP hQ => ?_, fun h' tk hk => ?_⟩
  · obtain ⟨b, e, rfl⟩ := hb.get i v (by simpa using hP)
    simp only [e, Option.getD_some] at hQ
    exact wpAny_truthy_bool hQ
  · have e : ((List.range its.toArray.size).all fun i => (bs[i]?).getD true) = bs.all id := by
      rw [List.size_toArray, hb.length]; exact LSm.range_all bs
    rw [e]
    exact ⟨.bl _, H, I.kept (h' := h') (t' := tk) (LSm.kept_iter hk), rfl, q⟩
theorem call_any (hc : X.calm = true) : CallR X (.builtin "any") (fun xs H Q => ∃ p, ∃ bs : List Bool, xs = [.ref p] ∧ SqL X.K H p (bs.map V.bl) ∧ Q (.bl (bs.any id)) H) := by
  intro pins s σ H xs us Q I r h
  obtain ⟨p, bs, rfl, hq, q⟩ := h
  obtain ⟨u, rfl, r1⟩ := r.one
  cases r1
  obtain ⟨its, rv, pl, hz⟩ := I.list hq
  have hb := bools_of rv
  have hl := pl.isList
  have hh := I.ok.hd hc
  have hlt : p < s.heap.objs.size := by obtain ⟨_, e, _⟩ := hl; exact Heap.lt_size e
  refine call_any_walk (wpAny_pyIter_list hl ?_)
  refine ⟨s.heap.objs.size, [s.heap.objs.size, p], [s.heap.objs.size], its.toArray.size, _, _, fun i => (bs[i]?).getD false, rfl, Walks.list (A := X.A.in1) hh _ p (Nat.ne_of_lt hlt) its.toArray,
    ⟨⟨_, Heap.get?_push_size _ rfl, rfl, rfl⟩, hl.push _⟩, fun i v s' Q' E' hP hQ => ?_, fun h' tk hk => ?_⟩
  · obtain ⟨b, e, rfl⟩ := hb.get i v (by simpa using hP)
    simp only [e, Option.getD_some] at hQ
    exact wpAny_truthy_bool hQ
  · have e : ((List.range its.toArray.size).any fun i => (bs[i]?).getD false) = bs.any id := by
      rw [List.size_toArray, hb.length]; exact LSm.range_any bs
    rw [e]
    exact ⟨.bl _, H, I.kept (h' := h') (t' := tk) (LSm.kept_iter hk), rfl, q⟩
end

inductive Dt where
  | non | bl (b : Bool) | int (i : Int) | str (x : Str) | lst (xs : List Dt) | tup (xs : List Dt)
mutual
def IsD (H : Hp) : Dt → V → Prop
  | .non, v => v = .non
  | .bl b, v => v = .bl b
  | .int i, v => v = .int i
  | .str x, v => v = .str x
  | .lst ds, v => ∃ a xs, v = .ref a ∧ H a = some (.lst xs) ∧ IsDs H ds xs
  | .tup ds, v => ∃ a xs, v = .ref a ∧ H a = some (.tup xs) ∧ IsDs H ds xs
def IsDs (H : Hp) : List Dt → List V → Prop
  | [], xs => xs = []
  | d :: ds, xs => ∃ x r, xs = x :: r ∧ IsD H d x ∧ IsDs H ds r
end
mutual
def eqD : Dt → Dt → Bool
  | .non, .non => true
  | .bl a, .bl b => a == b
  | .bl a, .int b => (if a then 1 else 0) == b
  | .int a, .bl b => a == (if b then 1 else 0)
  | .int a, .int b => a == b
  | .str a, .str b => a == b
  | .lst as, .lst bs => eqDs as bs
  | .tup as, .tup bs => eqDs as bs
  | _, _ => false
def eqDs : List Dt → List Dt → Bool
  | [], [] => true
  | a :: as, b :: bs => eqD a b && eqDs as bs
  | _, _ => false
end
mutual
def depthD : Dt → Nat
  | .lst ds => depthDs ds + 1
  | .tup ds => depthDs ds + 1
  | _ => 0
def depthDs : List Dt → Nat
  | [] => 0
  | d :: ds => max (depthD d) (depthDs ds)
end
mutual
theorem eqD_refl : ∀ d : Dt, eqD d d = true
  | .non => by unfold eqD; rfl
  | .bl b => by unfold eqD; simp
  | .int b => by unfold eqD; simp
  | .str b => by unfold eqD; simp
  | .lst ds => by unfold eqD; exact eqDs_refl ds
  | .tup ds => by unfold eqD; exact eqDs_refl ds
theorem eqDs_refl : ∀ ds : List Dt, eqDs ds ds = true
  | [] => by unfold eqDs; rfl
  | d :: ds => by unfold eqDs; rw [eqD_refl d, eqDs_refl ds]; rfl
end
theorem IsDs.length {H : Hp} : ∀ {ds : List Dt} {xs : List V}, IsDs H ds xs → ds.length = xs.length
  | [], xs, h => by unfold IsDs at h; rw [h]; rfl
  | d :: ds, xs, h => by
    unfold IsDs at h
    obtain ⟨x, r, rfl, _, h⟩ := h
    simp [IsDs.length h]
theorem IsDs.get {H : Hp} : ∀ {ds : List Dt} {xs : List V} {i : Nat} {d : Dt}, IsDs H ds xs → ds[i]? = some d → ∃ x, xs[i]? = some x ∧ IsD H d x
  | [], xs, i, d, h, e => by simp at e
  | d' :: ds, xs, i, d, h, e => by
    unfold IsDs at h
    obtain ⟨x, r, rfl, hx, h⟩ := h
    cases i with
    | zero => simp at e; subst e; exact ⟨x, rfl, hx⟩
    | succ i => obtain ⟨y, e1, e2⟩ := IsDs.get (i := i) (d := d) h (by simpa using e); exact ⟨y, by simpa using e1, e2⟩
theorem IsDs.get' {H : Hp} {ds : List Dt} {xs : List V} {i : Nat} {x : V} (h : IsDs H ds xs) (e : xs[i]? = some x) : ∃ d, ds[i]? = some d ∧ IsD H d x := by
  have hi : i < ds.length := by rw [h.length]; exact (List.getElem?_eq_some_iff.mp e).1
  obtain ⟨y, e1, e2⟩ := h.get (List.getElem?_eq_getElem hi)
  rw [e] at e1
  cases e1
  exact ⟨_, List.getElem?_eq_getElem hi, e2⟩
mutual
theorem IsD.inj {H : Hp} : ∀ {d d' : Dt} {v : V}, IsD H d v → IsD H d' v → d = d'
  | .non, d', v, h, h' => by unfold IsD at h; subst h; cases d' <;> unfold IsD at h' <;> first | rfl | (cases h'; done) | (obtain ⟨_, _, z, _⟩ := h'; exact nomatch z)
  | .bl b, d', v, h, h' => by unfold IsD at h; subst h; cases d' <;> unfold IsD at h' <;> first | (cases h'; rfl) | (cases h'; done) | (obtain ⟨_, _, z, _⟩ := h'; exact nomatch z)
  | .int b, d', v, h, h' => by unfold IsD at h; subst h; cases d' <;> unfold IsD at h' <;> first | (cases h'; rfl) | (cases h'; done) | (obtain ⟨_, _, z, _⟩ := h'; exact nomatch z)
  | .str b, d', v, h, h' => by unfold IsD at h; subst h; cases d' <;> unfold IsD at h' <;> first | (cases h'; rfl) | (cases h'; done) | (obtain ⟨_, _, z, _⟩ := h'; exact nomatch z)
  | .lst ds, d', v, h, h' => by
    unfold IsD at h
    obtain ⟨a, xs, rfl, ha, hs⟩ := h
    cases d' <;> unfold IsD at h'
    case lst ds' =>
      obtain ⟨b, ys, e, hb, hs'⟩ := h'
      cases e
      rw [ha] at hb
      cases hb
      rw [IsDs.inj hs hs']
    case tup ds' =>
      obtain ⟨b, ys, e, hb, hs'⟩ := h'
      cases e
      rw [ha] at hb
      cases hb
    all_goals cases h'
  | .tup ds, d', v, h, h' => by
    unfold IsD at h
    obtain ⟨a, xs, rfl, ha, hs⟩ := h
    cases d' <;> unfold IsD at h'
    case tup ds' =>
      obtain ⟨b, ys, e, hb, hs'⟩ := h'
      cases e
      rw [ha] at hb
      cases hb
      rw [IsDs.inj hs hs']
    case lst ds' =>
      obtain ⟨b, ys, e, hb, hs'⟩ := h'
      cases e
      rw [ha] at hb
      cases hb
    all_goals cases h'
theorem IsDs.inj {H : Hp} : ∀ {ds ds' : List Dt} {xs : List V}, IsDs H ds xs → IsDs H ds' xs → ds = ds'
  | [], ds', xs, h, h' => by
    unfold IsDs at h; subst h
    cases ds' <;> unfold IsDs at h'
    · rfl
    · obtain ⟨_, _, e, _⟩ := h'; cases e
  | d :: ds, ds', xs, h, h' => by
    unfold IsDs at h
    obtain ⟨x, r, rfl, hx, hr⟩ := h
    cases ds' with
    | nil => unfold IsDs at h'; cases h'
    | cons d' ds' =>
      unfold IsDs at h'
      obtain ⟨y, r', e, hy, hr'⟩ := h'
      cases e
      rw [IsD.inj hx hy, IsDs.inj hr hr']
end
mutual
theorem IsD.mono {H H' : Hp} (e : Same H H') : ∀ {d : Dt} {v : V}, IsD H d v → IsD H' d v
  | .non, v, h => by unfold IsD at h ⊢; exact h
  | .bl _, v, h => by unfold IsD at h ⊢; exact h
  | .int _, v, h => by unfold IsD at h ⊢; exact h
  | .str _, v, h => by unfold IsD at h ⊢; exact h
  | .lst ds, v, h => by unfold IsD at h ⊢; obtain ⟨a, xs, h1, h2, h3⟩ := h; exact ⟨a, xs, h1, e _ _ h2, IsDs.mono e h3⟩
  | .tup ds, v, h => by unfold IsD at h ⊢; obtain ⟨a, xs, h1, h2, h3⟩ := h; exact ⟨a, xs, h1, e _ _ h2, IsDs.mono e h3⟩
theorem IsDs.mono {H H' : Hp} (e : Same H H') : ∀ {ds : List Dt} {xs : List V}, IsDs H ds xs → IsDs H' ds xs
  | [], xs, h => by unfold IsDs at h ⊢; exact h
  | d :: ds, xs, h => by unfold IsDs at h ⊢; obtain ⟨x, r, h1, h2, h3⟩ := h; exact ⟨x, r, h1, IsD.mono e h2, IsDs.mono e h3⟩
end
theorem eqDs_range : ∀ (as bs : List Dt), as.length = bs.length → eqDs as bs = (List.range as.length).all fun i => match as[i]?, bs[i]? with | some a, some b => eqD a b | _, _ => false
  | [], [], _ => by unfold eqDs; rfl
  | a :: as, b :: bs, h => by
    unfold eqDs
    rw [eqDs_range as bs (by simpa using h), List.length_cons, List.range_succ_eq_map, List.all_cons, List.all_map]
    rfl
  | [], _ :: _, h => by simp at h
  | _ :: _, [], h => by simp at h
theorem eqDs_len : ∀ (as bs : List Dt), as.length ≠ bs.length → eqDs as bs = false
  | [], [], h => absurd rfl h
  | a :: as, b :: bs, h => by
    unfold eqDs
    rw [eqDs_len as bs (by simpa using h), Bool.and_false]
  | [], _ :: _, _ => by unfold eqDs; rfl
  | _ :: _, [], _ => by unfold eqDs; rfl
section
variable {X : Cx} {pins : List (Addr × Obj)} {σ : St} {H : Hp} {s : Shared}
def eqIx (as bs : List Dt) (i : Nat) : Bool := match as[i]?, bs[i]? with | some a, some b => eqD a b | _, _ => false
theorem rc_lists (I : Inv X pins σ H s) {A : Around} {l b : Addr} {xs ys : List V} {ds es : List Dt} (hl : H l = some (.lst xs)) (hb : H b = some (.lst ys)) (h1 : IsDs H ds xs) (h2 : IsDs H es ys) (hu : A.units < cLine)
    (he : ∀ us ws, Vals xs us → Vals ys ws → ∀ (j : Nat) d e u w, ds[j]? = some d → es[j]? = some e → us[j]? = some u → ws[j]? = some w → SeqAt.EqAt A.in1 s u w (eqD d e)) : SeqAt.RcAt A s (.ref l) (.ref b) (eqDs ds es) := by
  obtain ⟨us, r1, p1, _⟩ := I.list (SqL.of (K := X.K) hl)
  obtain ⟨ws, r2, p2, _⟩ := I.list (SqL.of (K := X.K) hb)
  have n1 : us.length = ds.length := by rw [← r1.length, h1.length]
  have n2 : ws.length = es.length := by rw [← r2.length, h2.length]
  by_cases hsz : ds.length = es.length
  · have q := SeqAt.RcAt.lists (e := eqIx ds es) p1.isList p2.isList (by simp [n1, n2, hsz]) hu (fun j q1 q2 => by
      have j1 : j < us.length := by simpa using q1
      have j2 : j < ws.length := by simpa using q2
      have g1 : ds[j]? = some ds[j] := List.getElem?_eq_getElem (by omega)
      have g2 : es[j]? = some es[j] := List.getElem?_eq_getElem (by omega)
      have z := he us ws r1 r2 j _ _ us[j] ws[j] g1 g2 (List.getElem?_eq_getElem j1) (List.getElem?_eq_getElem j2)
      have ez : eqIx ds es j = eqD ds[j] es[j] := by unfold eqIx; rw [g1, g2]
      rw [ez]
      simpa using z)
    rw [eqDs_range ds es hsz]
    rw [List.size_toArray, n1] at q
    exact q
  · rw [eqDs_len ds es hsz]
    exact SeqAt.RcAt.lists_lengths p1.isList p2.isList (by simpa [n1, n2] using hsz) hu
theorem rc_tuples (I : Inv X pins σ H s) {A : Around} {l b : Addr} {xs ys : List V} {ds es : List Dt} (hl : H l = some (.tup xs)) (hb : H b = some (.tup ys)) (h1 : IsDs H ds xs) (h2 : IsDs H es ys) (hu : A.units < cLine)
    (he : ∀ us ws, Vals xs us → Vals ys ws → ∀ (j : Nat) d e u w, ds[j]? = some d → es[j]? = some e → us[j]? = some u → ws[j]? = some w → SeqAt.EqAt A.in1 s u w (eqD d e)) : SeqAt.RcAt A s (.ref l) (.ref b) (eqDs ds es) := by
  obtain ⟨us, r1, p1, _⟩ := I.tuple (SqT.of (K := X.K) hl)
  obtain ⟨ws, r2, p2, _⟩ := I.tuple (SqT.of (K := X.K) hb)
  have n1 : us.length = ds.length := by rw [← r1.length, h1.length]
  have n2 : ws.length = es.length := by rw [← r2.length, h2.length]
  have q := SeqAt.RcAt.tuples (e := eqIx ds es) (show s.heap.IsTuple l us.toArray from p1) (show s.heap.IsTuple b ws.toArray from p2) hu (fun j q1 q2 => by
      have j1 : j < us.length := by simpa using q1
      have j2 : j < ws.length := by simpa using q2
      have g1 : ds[j]? = some ds[j] := List.getElem?_eq_getElem (by omega)
      have g2 : es[j]? = some es[j] := List.getElem?_eq_getElem (by omega)
      have z := he us ws r1 r2 j _ _ us[j] ws[j] g1 g2 (List.getElem?_eq_getElem j1) (List.getElem?_eq_getElem j2)
      have ez : eqIx ds es j = eqD ds[j] es[j] := by unfold eqIx; rw [g1, g2]
      rw [ez]
      simpa using z)
  rw [List.size_toArray, List.size_toArray, n1, n2] at q
  by_cases hsz : ds.length = es.length
  · rw [← hsz, Nat.min_self] at q
    rw [eqDs_range ds es hsz]
    have e1 : (ds.length == ds.length) = true := beq_self_eq_true _
    rw [e1, Bool.and_true] at q
    exact q
  · rw [eqDs_len ds es hsz]
    have e0 : (ds.length == es.length) = false := beq_eq_false_iff_ne.mpr hsz
    rw [e0, Bool.and_false] at q
    exact q
theorem depthDs_mem : ∀ {ds : List Dt} {j : Nat} {d : Dt}, ds[j]? = some d → depthD d ≤ depthDs ds
  | [], j, d, h => by simp at h
  | d' :: ds, j, d, h => by
    unfold depthDs
    cases j with
    | zero => simp at h; subst h; exact Nat.le_max_left _ _
    | succ j => exact Nat.le_trans (depthDs_mem (j := j) (by simpa using h)) (Nat.le_max_right _ _)
theorem IsDs.rel {H : Hp} {ds : List Dt} {xs : List V} {us : List Value} {j : Nat} {d : Dt} {u : Value} (h : IsDs H ds xs) (r : Vals xs us) (g : ds[j]? = some d) (g' : us[j]? = some u) : ∃ x, IsD H d x ∧ RelV x u := by
  obtain ⟨x, e, hx⟩ := h.get g
  obtain ⟨u', e', ru⟩ := r.get e
  rw [g'] at e'
  cases e'
  exact ⟨x, hx, ru⟩
def flatD : Dt → V
  | .non => .non
  | .bl b => .bl b
  | .int i => .int i
  | .str x => .str x
  | _ => .ref 0
def isFlat : Dt → Bool
  | .lst _ => false
  | .tup _ => false
  | _ => true
theorem IsD.flat {H : Hp} {d : Dt} {v : V} (h : IsD H d v) (f : isFlat d = true) : v = flatD d := by
  cases d with
  | lst _ => cases f
  | tup _ => cases f
  | _ => unfold IsD at h; exact h
theorem eqD_flat {d e : Dt} (f : isFlat d = true) (g : isFlat e = true) : eqD d e = eqV (flatD d) (flatD e) := by
  cases d <;> first | cases f | skip
  all_goals cases e <;> first | cases g | skip
  all_goals (unfold eqD; rfl)
theorem flat_flat {d : Dt} (f : isFlat d = true) : flatV (flatD d) = true := by
  cases d <;> first | rfl | cases f
theorem eqD_seq_flat {d e : Dt} (f : isFlat d = false) (g : isFlat e = true) : eqD d e = false := by
  cases d <;> first | cases f | skip
  all_goals cases e <;> first | cases g | skip
  all_goals (unfold eqD; rfl)
theorem eqD_flat_seq {d e : Dt} (f : isFlat d = true) (g : isFlat e = false) : eqD d e = false := by
  cases d <;> first | cases f | skip
  all_goals cases e <;> first | cases g | skip
  all_goals (unfold eqD; rfl)
theorem eqAt_lst_flat {A : Around} {a : Addr} {items : Array Value} (hl : s.heap.IsList a items) (hu : A.units < cLine) {x : V} {w : Value} (fx : flatV x = true) (r : RelV x w) : SeqAt.EqAt A s (.ref a) w false := by
  cases x with
  | non => obtain rfl : w = Value.none := r; exact SeqAt.EqAt.list_none hl hu
  | bl b => obtain rfl : w = Value.bool b := r; exact SeqAt.EqAt.list_bool b hl hu
  | int b => obtain ⟨t, rfl⟩ := r; exact SeqAt.EqAt.list_int b t hl hu
  | str b => obtain ⟨t, rfl⟩ := r; exact SeqAt.EqAt.list_str b t hl hu
  | _ => exact absurd (show false = true from fx) Bool.false_ne_true
theorem eqAt_tup_flat {A : Around} {a : Addr} {items : Array Value} (hl : s.heap.IsTuple a items) (hu : A.units < cLine) {x : V} {w : Value} (fx : flatV x = true) (r : RelV x w) : SeqAt.EqAt A s (.ref a) w false := by
  cases x with
  | non => obtain rfl : w = Value.none := r; exact SeqAt.EqAt.tuple_none hl hu
  | bl b => obtain rfl : w = Value.bool b := r; exact SeqAt.EqAt.tuple_bool b hl hu
  | int b => obtain ⟨t, rfl⟩ := r; exact SeqAt.EqAt.tuple_int b t hl hu
  | str b => obtain ⟨t, rfl⟩ := r; exact SeqAt.EqAt.tuple_str b t hl hu
  | _ => exact absurd (show false = true from fx) Bool.false_ne_true
theorem eqAt_flat_lst {A : Around} {a : Addr} {items : Array Value} (hl : s.heap.IsList a items) (hu : A.units < cLine) {x : V} {w : Value} (fx : flatV x = true) (r : RelV x w) : SeqAt.EqAt A s w (.ref a) false := by
  cases x with
  | non => obtain rfl : w = Value.none := r; exact SeqAt.EqAt.none_list hl hu
  | bl b => obtain rfl : w = Value.bool b := r; exact SeqAt.EqAt.bool_list b hl hu
  | int b => obtain ⟨t, rfl⟩ := r; exact SeqAt.EqAt.int_list b t hl hu
  | str b => obtain ⟨t, rfl⟩ := r; exact SeqAt.EqAt.str_list b t hl hu
  | _ => exact absurd (show false = true from fx) Bool.false_ne_true
theorem eqAt_flat_tup {A : Around} {a : Addr} {items : Array Value} (hl : s.heap.IsTuple a items) (hu : A.units < cLine) {x : V} {w : Value} (fx : flatV x = true) (r : RelV x w) : SeqAt.EqAt A s w (.ref a) false := by
  cases x with
  | non => obtain rfl : w = Value.none := r; exact SeqAt.EqAt.none_tuple hl hu
  | bl b => obtain rfl : w = Value.bool b := r; exact SeqAt.EqAt.bool_tuple b hl hu
  | int b => obtain ⟨t, rfl⟩ := r; exact SeqAt.EqAt.int_tuple b t hl hu
  | str b => obtain ⟨t, rfl⟩ := r; exact SeqAt.EqAt.str_tuple b t hl hu
  | _ => exact absurd (show false = true from fx) Bool.false_ne_true
theorem IsD.seq {H : Hp} {d : Dt} {v : V} (h : IsD H d v) (f : isFlat d = false) : (∃ ds a xs, d = .lst ds ∧ v = .ref a ∧ H a = some (.lst xs) ∧ IsDs H ds xs) ∨ (∃ ds a xs, d = .tup ds ∧ v = .ref a ∧ H a = some (.tup xs) ∧ IsDs H ds xs) := by
  cases d with
  | lst ds => unfold IsD at h; obtain ⟨a, xs, h1, h2, h3⟩ := h; exact .inl ⟨ds, a, xs, rfl, h1, h2, h3⟩
  | tup ds => unfold IsD at h; obtain ⟨a, xs, h1, h2, h3⟩ := h; exact .inr ⟨ds, a, xs, rfl, h1, h2, h3⟩
  | _ => cases f
theorem eqD_ll (as bs : List Dt) : eqD (.lst as) (.lst bs) = eqDs as bs := by unfold eqD; rfl
theorem eqD_tt (as bs : List Dt) : eqD (.tup as) (.tup bs) = eqDs as bs := by unfold eqD; rfl
theorem eqD_lt (as bs : List Dt) : eqD (.lst as) (.tup bs) = false := by unfold eqD; rfl
theorem eqD_tl (as bs : List Dt) : eqD (.tup as) (.lst bs) = false := by unfold eqD; rfl
theorem depth_l (ds : List Dt) : depthD (.lst ds) = depthDs ds + 1 := by unfold depthD; rfl
theorem depth_t (ds : List Dt) : depthD (.tup ds) = depthDs ds + 1 := by unfold depthD; rfl
theorem eqAt_D (I : Inv X pins σ H s) : ∀ (n : Nat) (d e : Dt) (v x : V) (u w : Value) (A : Around), depthD d ≤ n → IsD H d v → IsD H e x → RelV v u → RelV x w → A.units + n < cLine → SeqAt.EqAt A s u w (eqD d e) := by
  intro n
  induction n with
  | zero =>
    intro d e v x u w A hd h1 h2 r1 r2 hu
    have hu0 : A.units < cLine := by omega
    have fd : isFlat d = true := by
      cases d with
      | lst ds => rw [depth_l] at hd; omega
      | tup ds => rw [depth_t] at hd; omega
      | _ => rfl
    obtain rfl := h1.flat fd
    cases fe : isFlat e with
    | true =>
      obtain rfl := h2.flat fe
      rw [eqD_flat fd fe]
      exact eqAt_V r1 r2 (flat_flat fd) (flat_flat fe)
    | false =>
      rw [eqD_flat_seq fd fe]
      rcases h2.seq fe with ⟨es, b, ys, rfl, rfl, hb, hs2⟩ | ⟨es, b, ys, rfl, rfl, hb, hs2⟩
      · obtain rfl : w = Value.ref b := r2
        obtain ⟨ws, _, p2, _⟩ := I.list (SqL.of (K := X.K) hb)
        exact eqAt_flat_lst p2.isList hu0 (flat_flat fd) r1
      · obtain rfl : w = Value.ref b := r2
        obtain ⟨ws, _, p2, _⟩ := I.tuple (SqT.of (K := X.K) hb)
        exact eqAt_flat_tup (show s.heap.IsTuple b ws.toArray from p2) hu0 (flat_flat fd) r1
  | succ n ih =>
    intro d e v x u w A hd h1 h2 r1 r2 hu
    have hu0 : A.units < cLine := by omega
    have hin : A.in1.units + n < cLine := by show A.units + 1 + n < cLine; omega
    cases fd : isFlat d with
    | true =>
      obtain rfl := h1.flat fd
      cases fe : isFlat e with
      | true =>
        obtain rfl := h2.flat fe
        rw [eqD_flat fd fe]
        exact eqAt_V r1 r2 (flat_flat fd) (flat_flat fe)
      | false =>
        rw [eqD_flat_seq fd fe]
        rcases h2.seq fe with ⟨es, b, ys, rfl, rfl, hb, hs2⟩ | ⟨es, b, ys, rfl, rfl, hb, hs2⟩
        · obtain rfl : w = Value.ref b := r2
          obtain ⟨ws, _, p2, _⟩ := I.list (SqL.of (K := X.K) hb)
          exact eqAt_flat_lst p2.isList hu0 (flat_flat fd) r1
        · obtain rfl : w = Value.ref b := r2
          obtain ⟨ws, _, p2, _⟩ := I.tuple (SqT.of (K := X.K) hb)
          exact eqAt_flat_tup (show s.heap.IsTuple b ws.toArray from p2) hu0 (flat_flat fd) r1
    | false =>
      have h1' := h1
      have h2' := h2
      rcases h1.seq fd with ⟨ds, a, xs, rfl, rfl, ha, hs⟩ | ⟨ds, a, xs, rfl, rfl, ha, hs⟩
      · obtain rfl : u = Value.ref a := r1
        obtain ⟨us, _, p1, _⟩ := I.list (SqL.of (K := X.K) ha)
        cases fe : isFlat e with
        | true =>
          obtain rfl := h2.flat fe
          rw [eqD_seq_flat fd fe]
          exact eqAt_lst_flat p1.isList hu0 (flat_flat fe) r2
        | false =>
          rcases h2.seq fe with ⟨es, b, ys, rfl, rfl, hb, hs2⟩ | ⟨es, b, ys, rfl, rfl, hb, hs2⟩
          · obtain rfl : w = Value.ref b := r2
            by_cases hab : a = b
            · subst hab
              rw [IsD.inj h1' h2', eqD_refl]
              exact SeqAt.EqAt.same _
            · rw [eqD_ll]
              refine SeqAt.EqAt.of_refs hab (rc_lists I ha hb hs hs2 hu0 fun us ws k1 k2 j d e u w g1 g2 g3 g4 => ?_)
              obtain ⟨x1, q1, q2⟩ := hs.rel k1 g1 g3
              obtain ⟨x2, q3, q4⟩ := hs2.rel k2 g2 g4
              exact ih d e x1 x2 u w A.in1 (by have := depthDs_mem g1; rw [depth_l] at hd; omega) q1 q3 q2 q4 hin
          · obtain rfl : w = Value.ref b := r2
            obtain ⟨ws, _, p2, _⟩ := I.tuple (SqT.of (K := X.K) hb)
            rw [eqD_lt]
            exact SeqAt.EqAt.list_tuple p1.isList (show s.heap.IsTuple b ws.toArray from p2) hu0
      · obtain rfl : u = Value.ref a := r1
        obtain ⟨us, _, p1, _⟩ := I.tuple (SqT.of (K := X.K) ha)
        cases fe : isFlat e with
        | true =>
          obtain rfl := h2.flat fe
          rw [eqD_seq_flat fd fe]
          exact eqAt_tup_flat (show s.heap.IsTuple a us.toArray from p1) hu0 (flat_flat fe) r2
        | false =>
          rcases h2.seq fe with ⟨es, b, ys, rfl, rfl, hb, hs2⟩ | ⟨es, b, ys, rfl, rfl, hb, hs2⟩
          · obtain rfl : w = Value.ref b := r2
            obtain ⟨ws, _, p2, _⟩ := I.list (SqL.of (K := X.K) hb)
            rw [eqD_tl]
            exact SeqAt.EqAt.tuple_list (show s.heap.IsTuple a us.toArray from p1) p2.isList hu0
          · obtain rfl : w = Value.ref b := r2
            by_cases hab : a = b
            · subst hab
              rw [IsD.inj h1' h2', eqD_refl]
              exact SeqAt.EqAt.same _
            · rw [eqD_tt]
              refine SeqAt.EqAt.of_refs hab (rc_tuples I ha hb hs hs2 hu0 fun us ws k1 k2 j d e u w g1 g2 g3 g4 => ?_)
              obtain ⟨x1, q1, q2⟩ := hs.rel k1 g1 g3
              obtain ⟨x2, q3, q4⟩ := hs2.rel k2 g2 g4
              exact ih d e x1 x2 u w A.in1 (by have := depthDs_mem g1; rw [depth_t] at hd; omega) q1 q3 q2 q4 hin

def rEqD : R2 := fun x y H Q => ∃ d e, IsD H d x ∧ IsD H e y ∧ isFlat d = false ∧ isFlat e = false ∧ depthD d ≤ 20 ∧ Q (.bl (eqD d e)) H
theorem rcAt_D (I : Inv X pins σ H s) {d e : Dt} {v x : V} {u w : Value} {A : Around} (h1 : IsD H d v) (h2 : IsD H e x) (fd : isFlat d = false) (fe : isFlat e = false) (r1 : RelV v u) (r2 : RelV x w) (hd : depthD d ≤ 20) (hu : A.units + 20 < cLine) : SeqAt.RcAt A s u w (eqD d e) := by
  have hu0 : A.units < cLine := by omega
  have hin : A.in1.units + 19 < cLine := by show A.units + 1 + 19 < cLine; omega
  rcases h1.seq fd with ⟨ds, a, xs, rfl, rfl, ha, hs⟩ | ⟨ds, a, xs, rfl, rfl, ha, hs⟩
  · obtain rfl : u = Value.ref a := r1
    obtain ⟨us, _, p1, _⟩ := I.list (SqL.of (K := X.K) ha)
    rcases h2.seq fe with ⟨es, b, ys, rfl, rfl, hb, hs2⟩ | ⟨es, b, ys, rfl, rfl, hb, hs2⟩
    · obtain rfl : w = Value.ref b := r2
      rw [eqD_ll]
      refine rc_lists I ha hb hs hs2 hu0 fun us ws k1 k2 j d e u w g1 g2 g3 g4 => ?_
      obtain ⟨x1, q1, q2⟩ := hs.rel k1 g1 g3
      obtain ⟨x2, q3, q4⟩ := hs2.rel k2 g2 g4
      exact eqAt_D I 19 d e x1 x2 u w A.in1 (by have := depthDs_mem g1; rw [depth_l] at hd; omega) q1 q3 q2 q4 hin
    · obtain rfl : w = Value.ref b := r2
      obtain ⟨ws, _, p2, _⟩ := I.tuple (SqT.of (K := X.K) hb)
      rw [eqD_lt]
      exact SeqAt.RcAt.list_tuple p1.isList (show s.heap.IsTuple b ws.toArray from p2) hu0
  · obtain rfl : u = Value.ref a := r1
    obtain ⟨us, _, p1, _⟩ := I.tuple (SqT.of (K := X.K) ha)
    rcases h2.seq fe with ⟨es, b, ys, rfl, rfl, hb, hs2⟩ | ⟨es, b, ys, rfl, rfl, hb, hs2⟩
    · obtain rfl : w = Value.ref b := r2
      obtain ⟨ws, _, p2, _⟩ := I.list (SqL.of (K := X.K) hb)
      rw [eqD_tl]
      exact SeqAt.RcAt.tuple_list (show s.heap.IsTuple a us.toArray from p1) p2.isList hu0
    · obtain rfl : w = Value.ref b := r2
      rw [eqD_tt]
      refine rc_tuples I ha hb hs hs2 hu0 fun us ws k1 k2 j d e u w g1 g2 g3 g4 => ?_
      obtain ⟨x1, q1, q2⟩ := hs.rel k1 g1 g3
      obtain ⟨x2, q3, q4⟩ := hs2.rel k2 g2 g4
      exact eqAt_D I 19 d e x1 x2 u w A.in1 (by have := depthDs_mem g1; rw [depth_t] at hd; omega) q1 q3 q2 q4 hin
end
section
variable {X : Cx}
theorem op_eqD (hu : X.A.units + 20 < cLine) : OpR X (compareOp .Eq) rEqD := by
  intro pins s σ H x y v u Q I rx ry h
  obtain ⟨d, e, h1, h2, s1, s2, hd, q⟩ := h
  exact rcAt_D I h1 h2 s1 s2 rx ry hd hu X.prog X.w X.xe _ ⟨.bl (eqD d e), H, I, rfl, q⟩
end
end L2

namespace L2
open PySem PySem.Spec PyProof.Rows

structure Bt (mg : Str → Option Value) : Prop where
  len : mg "len" = none
  range : mg "range" = none
  isinstance : mg "isinstance" = none
  all : mg "all" = none
  any : mg "any" = none
  sum : mg "sum" = none
  min : mg "min" = none
  max : mg "max" = none
  int : mg "int" = none
  bool : mg "bool" = none
  tuple : mg "tuple" = none
  list : mg "list" = none
  reversed : mg "reversed" = none
theorem bt_len : bootBuiltins "len" = some (.builtin "len") := by decide +kernel
theorem bt_isinstance : bootBuiltins "isinstance" = some (.builtin "isinstance") := by decide +kernel
theorem bt_all : bootBuiltins "all" = some (.builtin "all") := by decide +kernel
theorem bt_any : bootBuiltins "any" = some (.builtin "any") := by decide +kernel
theorem bt_sum : bootBuiltins "sum" = some (.builtin "sum") := by decide +kernel
theorem bt_int : bootBuiltins "int" = some (.type "int") := by decide +kernel
theorem bt_bool : bootBuiltins "bool" = some (.type "bool") := by decide +kernel
theorem bt_tuple : bootBuiltins "tuple" = some (.type "tuple") := by decide +kernel
structure Callee (P : Program) (w : World) (K : PySem.W.Frag) (mg : Str → Option Value) (base : Heap) (CX : CXT) (x : Str) (k : Nat) (ps : List Str) (sp : Sp) : Prop where
  ex : ∃ f fd, mg x = some (.ref f) ∧ PySem.W.keepIn K (.ref f) = true ∧ Binds K fd ps [] ∧ FnOk P w K mg base CX k f fd ps sp
section
variable {X : Cx} {CX : CXT} {j k : Nat} {ps : List Str} {sp : Sp} {x : Str} {p pos : Pos} {e : Expr} {es : List Expr} {t : TA}
def CXNo (CX : CXT) : Prop := ∀ outer H s e s', ¬ CX outer H s E0 e s'
theorem cxno0 : CXNo CX0 := fun _ _ _ _ _ h => h
theorem passNo (h : CXNo CX) : Passes CX X E0 := fun _ _ H s e s' _ q => (h _ H s e s' q).elim
theorem pe_cal (c : Callee X.prog X.w X.K X.mg X.base CX x k ps sp) (hr : Room j X.A) (ha : PA X (e :: es) t) (hk : k ≤ j := by decide) (hx : CXNo CX := by exact cxno0) (hg : Gl X x := by rfl)
    (hdb : (x == ("__debug__" : Str)) = false := by decide) (he : starEach (e :: es) X.env = (false, eval e X.env) :: starEach es X.env := by rfl) (hpl : (backTo pos (starEach es X.env)).any (·.1) = false := by rfl) :
    PE X (.Call (.Name x p) (e :: es) [] pos) (tCall sp [] E0 t) := by
  obtain ⟨f, fd, hm, hkp, hb, F⟩ := c.ex
  exact pe_call F (hr.mono hk) hg hm hkp hb .nil (passNo hx) ha hdb he hpl
end

theorem same_upd {H : Hp} {l : Addr} {o : HO} (h : H l = none) : Same H (upd H l o) := fun b u e => by rw [upd_ne (ne_of_none e h)]; exact e
theorem same_upd' {H H' : Hp} {l : Addr} {o : HO} (s : Same H H') (h : H l = none) : Same H (upd H' l o) := fun b u e => by rw [upd_ne (ne_of_none e h)]; exact s b u e
theorem SqL.ints {K : PySem.W.Frag} {H H' : Hp} {a : Addr} {xs : List V} (h : SqL K H a xs) (s : Same H H') : SqL K H' a xs := s.seq h
theorem map_get {ns : List Int} {i : Nat} {x : V} (h : (ns.map V.int)[i]? = some x) : ∃ z, ns[i]? = some z ∧ x = .int z := by
  rw [List.getElem?_map] at h
  cases e : ns[i]? with
  | none => rw [e] at h; cases h
  | some z => rw [e] at h; exact ⟨z, rfl, (Option.some.inj h).symm⟩
theorem pz {j : Int} (h : decide (0 < j) = true) : 0 < j := of_decide_eq_true h
theorem dec_int1 {z y : Int} : (decide (V.int z = V.int y) = true) ↔ z = y := by
  constructor
  · intro h; have := of_decide_eq_true h; cases this; rfl
  · intro h; subst h; exact decide_eq_true rfl
def tJoin (t u : TS) : TS := fun D σ H => ∃ J : St → Hp → Prop, t { D with nx := J } σ H ∧ ∀ σ' H', J σ' H' → u D σ' H'
theorem pss_join {X : Cx} {st : Stmt} {rest : List Stmt} {t u : TS} (h1 : PS X st t) (h2 : PSs X rest u) : PSs X (st :: rest) (tJoin t u) := by
  intro pins s σ H D I h
  obtain ⟨J, h, hj⟩ := h
  refine wpAny_execs_cons (thn (h1 pins s σ H _ I h) fun f s1 q => ?_)
  cases f with
  | next => obtain ⟨σ1, H1, I1, q1⟩ := q; exact h2 pins s1 σ1 H1 D I1 (hj σ1 H1 q1)
  | brk => exact q
  | cont => exact q
  | ret v => exact q

theorem isDs_ints {H : Hp} : ∀ ns : List Int, IsDs H (ns.map Dt.int) (ns.map V.int)
  | [] => by unfold IsDs; rfl
  | n :: r => by
    show IsDs H (Dt.int n :: r.map Dt.int) (V.int n :: r.map V.int)
    unfold IsDs
    exact ⟨_, _, rfl, by unfold IsD; rfl, isDs_ints r⟩
theorem depth_ints : ∀ ns : List Int, depthDs (ns.map Dt.int) = 0
  | [] => by unfold depthDs; rfl
  | n :: r => by
    show depthDs (Dt.int n :: r.map Dt.int) = 0
    unfold depthDs
    rw [depth_ints r]
    unfold depthD
    rfl
theorem isD_lstI {H : Hp} {a : Addr} {ns : List Int} (h : H a = some (.lst (ns.map V.int))) : IsD H (.lst (ns.map Dt.int)) (.ref a) := by unfold IsD; exact ⟨a, _, rfl, h, isDs_ints ns⟩
theorem isD_tupI {H : Hp} {a : Addr} {ns : List Int} (h : H a = some (.tup (ns.map V.int))) : IsD H (.tup (ns.map Dt.int)) (.ref a) := by unfold IsD; exact ⟨a, _, rfl, h, isDs_ints ns⟩
theorem units20 {k : Nat} {A : Around} (hr : Room k A) : A.units + 20 < cLine := by have := hr.units; omega
end L2

namespace L2
open PySem PySem.Spec PyProof.Rows

section
variable {prog : Program} {w : World} {A : Around} {s : Shared} {R : Result → Shared → Prop}
variable {I : Addr} {fp wr : List Addr} {G : Array GenState → Array GenState → Prop} {n : Nat} {P : Nat → Value → Prop} {St : Nat → Shared → Prop}
end
section
variable {prog : Program} {w : World} {A : Around} {E : Value → Shared → Prop} {s : Shared}
variable {I : Addr} {fp wr : List Addr} {G : Array GenState → Array GenState → Prop} {n : Nat} {P : Nat → Value → Prop} {St : Nat → Shared → Prop}
end

section
variable {X : Cx} {e : Expr} {te : TE} {p1 p2 pos pos2 : Pos}
end

section
variable {X : Cx} {pins : List (Addr × Obj)} {σ : St} {H : Hp} {s : Shared}
theorem rcn_lists (I : Inv X pins σ H s) {A : Around} {l b : Addr} {xs ys : List V} {ds es : List Dt} (hl : H l = some (.lst xs)) (hb : H b = some (.lst ys)) (h1 : IsDs H ds xs) (h2 : IsDs H es ys) (hu : A.units < cLine)
    (he : ∀ us ws, Vals xs us → Vals ys ws → ∀ (j : Nat) d e u w, ds[j]? = some d → es[j]? = some e → us[j]? = some u → ws[j]? = some w → SeqAt.EqAt A.in1 s u w (eqD d e)) : SeqAt.RcNeAt A s (.ref l) (.ref b) (!eqDs ds es) := by
  obtain ⟨us, r1, p1, _⟩ := I.list (SqL.of (K := X.K) hl)
  obtain ⟨ws, r2, p2, _⟩ := I.list (SqL.of (K := X.K) hb)
  have n1 : us.length = ds.length := by rw [← r1.length, h1.length]
  have n2 : ws.length = es.length := by rw [← r2.length, h2.length]
  by_cases hsz : ds.length = es.length
  · have q := SeqAt.RcNeAt.lists (e := eqIx ds es) p1.isList p2.isList (by simp [n1, n2, hsz]) hu (fun j q1 q2 => by
      have j1 : j < us.length := by simpa using q1
      have j2 : j < ws.length := by simpa using q2
      have g1 : ds[j]? = some ds[j] := List.getElem?_eq_getElem (by omega)
      have g2 : es[j]? = some es[j] := List.getElem?_eq_getElem (by omega)
      have z := he us ws r1 r2 j _ _ us[j] ws[j] g1 g2 (List.getElem?_eq_getElem j1) (List.getElem?_eq_getElem j2)
      have ez : eqIx ds es j = eqD ds[j] es[j] := by unfold eqIx; rw [g1, g2]
      rw [ez]
      simpa using z)
    rw [eqDs_range ds es hsz]
    rw [List.size_toArray, n1] at q
    exact q
  · rw [eqDs_len ds es hsz]
    exact SeqAt.RcNeAt.lists_lengths p1.isList p2.isList (by simpa [n1, n2] using hsz) hu
theorem rcn_tuples (I : Inv X pins σ H s) {A : Around} {l b : Addr} {xs ys : List V} {ds es : List Dt} (hl : H l = some (.tup xs)) (hb : H b = some (.tup ys)) (h1 : IsDs H ds xs) (h2 : IsDs H es ys) (hu : A.units < cLine)
    (he : ∀ us ws, Vals xs us → Vals ys ws → ∀ (j : Nat) d e u w, ds[j]? = some d → es[j]? = some e → us[j]? = some u → ws[j]? = some w → SeqAt.EqAt A.in1 s u w (eqD d e)) : SeqAt.RcNeAt A s (.ref l) (.ref b) (!eqDs ds es) := by
  obtain ⟨us, r1, p1, _⟩ := I.tuple (SqT.of (K := X.K) hl)
  obtain ⟨ws, r2, p2, _⟩ := I.tuple (SqT.of (K := X.K) hb)
  have n1 : us.length = ds.length := by rw [← r1.length, h1.length]
  have n2 : ws.length = es.length := by rw [← r2.length, h2.length]
  have q := SeqAt.RcNeAt.tuples (e := eqIx ds es) (show s.heap.IsTuple l us.toArray from p1) (show s.heap.IsTuple b ws.toArray from p2) hu (fun j q1 q2 => by
      have j1 : j < us.length := by simpa using q1
      have j2 : j < ws.length := by simpa using q2
      have g1 : ds[j]? = some ds[j] := List.getElem?_eq_getElem (by omega)
      have g2 : es[j]? = some es[j] := List.getElem?_eq_getElem (by omega)
      have z := he us ws r1 r2 j _ _ us[j] ws[j] g1 g2 (List.getElem?_eq_getElem j1) (List.getElem?_eq_getElem j2)
      have ez : eqIx ds es j = eqD ds[j] es[j] := by unfold eqIx; rw [g1, g2]
      rw [ez]
      simpa using z)
  rw [List.size_toArray, List.size_toArray, n1, n2] at q
  by_cases hsz : ds.length = es.length
  · rw [← hsz, Nat.min_self] at q
    rw [eqDs_range ds es hsz]
    have e1 : (ds.length == ds.length) = true := beq_self_eq_true _
    rw [e1, Bool.and_true] at q
    exact q
  · rw [eqDs_len ds es hsz]
    have e0 : (ds.length == es.length) = false := beq_eq_false_iff_ne.mpr hsz
    rw [e0, Bool.and_false] at q
    exact q
theorem rcnAt_D (I : Inv X pins σ H s) {d e : Dt} {v x : V} {u w : Value} {A : Around} (h1 : IsD H d v) (h2 : IsD H e x) (hk : (∃ ds es, d = .lst ds ∧ e = .lst es) ∨ (∃ ds es, d = .tup ds ∧ e = .tup es)) (r1 : RelV v u) (r2 : RelV x w) (hd : depthD d ≤ 20) (hu : A.units + 20 < cLine) : SeqAt.RcNeAt A s u w (!eqD d e) := by
  have hu0 : A.units < cLine := by omega
  have hin : A.in1.units + 19 < cLine := by show A.units + 1 + 19 < cLine; omega
  rcases hk with ⟨ds, es, rfl, rfl⟩ | ⟨ds, es, rfl, rfl⟩
  · unfold IsD at h1 h2
    obtain ⟨a, xs, rfl, ha, hs⟩ := h1
    obtain ⟨b, ys, rfl, hb, hs2⟩ := h2
    obtain rfl : u = Value.ref a := r1
    obtain rfl : w = Value.ref b := r2
    rw [eqD_ll]
    refine rcn_lists I ha hb hs hs2 hu0 fun us ws k1 k2 j d e u w g1 g2 g3 g4 => ?_
    obtain ⟨x1, q1, q2⟩ := hs.rel k1 g1 g3
    obtain ⟨x2, q3, q4⟩ := hs2.rel k2 g2 g4
    exact eqAt_D I 19 d e x1 x2 u w A.in1 (by have := depthDs_mem g1; rw [depth_l] at hd; omega) q1 q3 q2 q4 hin
  · unfold IsD at h1 h2
    obtain ⟨a, xs, rfl, ha, hs⟩ := h1
    obtain ⟨b, ys, rfl, hb, hs2⟩ := h2
    obtain rfl : u = Value.ref a := r1
    obtain rfl : w = Value.ref b := r2
    rw [eqD_tt]
    refine rcn_tuples I ha hb hs hs2 hu0 fun us ws k1 k2 j d e u w g1 g2 g3 g4 => ?_
    obtain ⟨x1, q1, q2⟩ := hs.rel k1 g1 g3
    obtain ⟨x2, q3, q4⟩ := hs2.rel k2 g2 g4
    exact eqAt_D I 19 d e x1 x2 u w A.in1 (by have := depthDs_mem g1; rw [depth_t] at hd; omega) q1 q3 q2 q4 hin
end
section
variable {X : Cx}
def rNeS : R2 := fun x y H Q => ∃ d e, IsD H d x ∧ IsD H e y ∧ ((∃ ds es, d = .lst ds ∧ e = .lst es) ∨ (∃ ds es, d = .tup ds ∧ e = .tup es)) ∧ depthD d ≤ 20 ∧ Q (.bl (!eqD d e)) H
theorem op_neD (hu : X.A.units + 20 < cLine) : OpR X (compareOp .NotEq) rNeS := by
  intro pins s σ H x y v u Q I rx ry h
  obtain ⟨d, e, h1, h2, hk, hd, q⟩ := h
  exact rcnAt_D I h1 h2 hk rx ry hd hu X.prog X.w X.xe _ ⟨.bl (!eqD d e), H, I, rfl, q⟩
end

theorem IsDs.snoc {H : Hp} {d : Dt} {v : V} : ∀ {ds : List Dt} {ys : List V}, IsDs H ds ys → IsD H d v → IsDs H (ds ++ [d]) (ys ++ [v])
  | [], ys, h, hv => by
    unfold IsDs at h
    subst h
    show IsDs H [d] [v]
    unfold IsDs
    exact ⟨v, [], rfl, hv, by unfold IsDs; rfl⟩
  | d' :: ds, ys, h, hv => by
    unfold IsDs at h
    obtain ⟨x, r, rfl, hx, hr⟩ := h
    show IsDs H (d' :: (ds ++ [d])) (x :: (r ++ [v]))
    unfold IsDs
    exact ⟨x, _, rfl, hx, IsDs.snoc hr hv⟩
def PvD (H0 : Hp) (f : Nat → Dt) (i : Nat) (ys : List V) (H' : Hp) : Prop := Same H0 H' ∧ IsDs H' ((List.range i).map f) ys
theorem PvD.zero {H0 H' : Hp} {f : Nat → Dt} (s : Same H0 H') : PvD H0 f 0 [] H' := ⟨s, by show IsDs H' [] []; unfold IsDs; rfl⟩
theorem PvD.len {H0 : Hp} {f : Nat → Dt} {i : Nat} {ys : List V} {H' : Hp} (p : PvD H0 f i ys H') : ys.length ≤ i := by
  have := p.2.length; rw [List.length_map, List.length_range] at this; omega
theorem PvD.next {H0 : Hp} {f : Nat → Dt} {i : Nat} {ys : List V} {H1 H2 : Hp} {v : V} (p : PvD H0 f i ys H1) (s : Same H1 H2) (d : IsD H2 (f i) v) : PvD H0 f (i + 1) (ys ++ [v]) H2 := by
  refine ⟨p.1.trans s, ?_⟩
  rw [List.range_succ, List.map_append]
  exact (IsDs.mono s p.2).snoc d

section
variable {X : Cx} (K : PySem.W.Frag)
theorem ix_listK (h : X.K = K := by rfl) : IxR X (rIxL K) := by subst h; exact ix_list
theorem ix_tupK (h : X.K = K := by rfl) : IxR X (rIxT K) := by subst h; exact ix_tup
theorem call_lenK (h : X.K = K := by rfl) : CallR X (.builtin "len") (fun xs H Q => ∃ p ys, xs = [.ref p] ∧ (SqL K H p ys ∨ SqT K H p ys) ∧ Q (.int ys.length) H) := by subst h; exact call_len_seq
theorem call_tupleK (h : X.K = K := by rfl) : CallR X (.type "tuple") (fun xs H Q => ∃ p ys, xs = [.ref p] ∧ ((SqL K H p ys ∧ ∀ l, H l = none → Q (.ref l) (upd H l (.tup ys))) ∨ (SqT K H p ys ∧ Q (.ref p) H))) := by subst h; exact call_tuple_of
theorem call_allK (hc : X.calm = true) (h : X.K = K := by rfl) : CallR X (.builtin "all") (fun xs H Q => ∃ p, ∃ bs : List Bool, xs = [.ref p] ∧ SqL K H p (bs.map V.bl) ∧ Q (.bl (bs.all id)) H) := by subst h; exact call_all hc
theorem call_anyK (hc : X.calm = true) (h : X.K = K := by rfl) : CallR X (.builtin "any") (fun xs H Q => ∃ p, ∃ bs : List Bool, xs = [.ref p] ∧ SqL K H p (bs.map V.bl) ∧ Q (.bl (bs.any id)) H) := by subst h; exact call_any hc
theorem call_isinstK (h : X.K = K := by rfl) : CallR X (.builtin "isinstance") (fun xs H Q => ∃ x c t b, xs = [x, c] ∧ (∀ u, RelV c u → u = clsV c) ∧ TyOf K H x t ∧ PySem.W.kitOne K t (clsV c) = some b ∧ Q (.bl b) H) := by subst h; exact call_isinst
theorem pi_listK {tg l : Expr} {tl : TE} (hl : PE X l tl) (h : X.K = K := by rfl) : PI X tg l (iList K tl) := by subst h; exact pi_list hl
theorem pi_tupK {tg l : Expr} {tl : TE} (hl : PE X l tl) (h : X.K = K := by rfl) : PI X tg l (iTup K tl) := by subst h; exact pi_tup hl
end
end L2

namespace L2
open PySem PySem.Spec PyProof.Rows

section
variable {X : Cx} {tg : Expr}
end
structure Method (P : Program) (w : World) (K : PySem.W.Frag) (mg : Str → Option Value) (base : Heap) (CX : CXT) (C : Addr) (m : Str) (k : Nat) (ps : List Str) (sp : Sp) : Prop where
  cl : Cls K C
  ex : ∃ f fd, Meth K C m f ∧ Binds K fd ps [] ∧ FnOk P w K mg base CX k f fd ps sp
structure Maker (P : Program) (w : World) (K : PySem.W.Frag) (mg : Str → Option Value) (base : Heap) (CX : CXT) (x : Str) (C : Addr) (k : Nat) (ps : List Str) (sp : Sp) : Prop where
  ex : ∃ f fd, mg x = some (.ref C) ∧ Mk K C f ∧ Binds K fd ps [] ∧ FnOk P w K mg base CX k f fd ps sp
section
variable {X : Cx} {CX : CXT} {j k : Nat} {ps : List Str} {sp : Sp} {x m : Str} {C : Addr} {p pos apos : Pos} {o e : Expr} {es : List Expr} {ta : TE} {t : TA}
end
end L2

namespace L2
open PySem PySem.Spec PyProof.Rows
section
variable {X : Cx} {pins : List (Addr × Obj)} {σ : St} {H : Hp} {s : Shared} {h' : Heap}
theorem FpOk.upd {b a : Addr} {o : HO} (f : FpOk X pins H b) (h : b ≠ a) : FpOk X pins (upd H a o) b := ⟨by rw [upd_ne h]; exact f.1, f.2⟩
end
section
variable {X : Cx} {elts : List Expr} {x1 : Nat} {pos : Pos}
end

section
variable {X : Cx} {elts : List Expr} {x1 : Nat} {pos : Pos}
end
structure Bz (mg : Str → Option Value) : Prop where
  zip : mg "zip" = none
  enumerate : mg "enumerate" = none
end L2

namespace HT
open PySem PyProof.Rows
section
open PySem.SeqAt
open PySem.AutoSeq1 (wpAny_loadPart')
open PySem.MeetsSeq PySem.MeetsSeq2 PySem.MeetsSeq3
theorem IntsAre.at' : ∀ {vs : List Value} {ns : List Int}, IntsAre vs ns → ∀ {i : Nat} (h : i < vs.length), ∃ (z : Int) (t : Tok), vs[i] = .int z t ∧ ns.drop i = z :: ns.drop (i + 1)
  | _, _, .cons n t r, 0, _ => ⟨n, t, rfl, rfl⟩
  | _, _, .cons n t r, i + 1, h => by
    obtain ⟨z, u, e1, e2⟩ := IntsAre.at' r (i := i) (by simpa using h)
    exact ⟨z, u, by simpa using e1, by simpa using e2⟩
end
end HT
namespace L2
open PySem PySem.Spec PyProof.Rows
section
variable {X : Cx}
end
end L2

namespace L2
open PySem PySem.Spec PyProof.Rows
abbrev bmV : List Value := [.type "ValueError", .type "Exception", .type "BaseException", .type "object"]
abbrev ExcIn (K : PySem.W.Frag) (C : Addr) : Prop := PySem.W.excIn K C bmV "ValueError.__new__" = true
theorem exc_obj {K : PySem.W.Frag} {h : Heap} {C : Addr} (X : K.In h) (q : ExcIn K C) :
    ∃ bm N nm qn bs hdct sn sub ab col dd k0 k1 k2 k3 k5 mN, h.get? C = some (excClassObj nm qn C N bs bm hdct sn sub ab col dd k0 k1 k2 k3 k5 "ValueError.__new__") ∧ h.Ns N mN ∧ mN "__init__" = none ∧ OwnTail h bmV bm ∧
      ∀ y b, PySem.W.mroIn K C y = some b → (Value.ref C :: bm).contains y = b := by
  unfold ExcIn PySem.W.excIn at q
  split at q
  · rename_i dd cd sl ho
    split at q
    · rename_i C' bm k0 k1 k2 k3 n k5 hm hs
      simp only [Bool.and_eq_true, beq_iff_eq, Bool.not_eq_true'] at q
      obtain ⟨⟨⟨⟨⟨rfl, rfl⟩, hdel⟩, ht⟩, hok⟩, hni⟩ := q
      obtain ⟨nm, bs, mro, ns, qn, hd, sn, sub, ab, col, del⟩ := cd
      dsimp only at hm hdel hok hni
      subst hm hdel
      have hsl : sl = #[k0, k1, k2, k3, some (.builtin "ValueError.__new__"), k5] := by
        obtain ⟨l⟩ := sl
        simp only at hs
        rw [hs]
      subst hsl
      refine ⟨bm, ns, nm, qn, bs, hd, sn, sub, ab, col, dd, k0, k1, k2, k3, k5, _, X _ _ ho, .of_isNs (PySem.W.isNs_of_in X hok), PySem.W.nsMap_none_of_in X hok hni, PySem.W.tail_of_in X ht, fun y b e => ?_⟩
      unfold PySem.W.mroIn PySem.W.clsIn at e
      rw [ho] at e
      simpa using e
    · cases q
  · cases q
structure Flies (P : Program) (w : World) (outer : List Env) (H : Hp) (s : Shared) (a C : Addr) (a0 : Value) (B : Heap) (H' : Hp) (s' : Shared) : Prop where
  os : s'.os = s.os
  bare : AllBare s'.gens
  un : Un (frs outer) [] H H' s.heap s'.heap
  hok : HOk P w H' s'.heap
  fl : Heap.FlyingW B outer a (.ref C) a0 s'.heap
  cov : ∀ b o, s.heap.get? b = some o → b ∉ frs outer → ∃ o', B.get? b = some o' ∧ (H b = none → o' = o)
  cov2 : ∀ b, H' b ≠ none → ∃ o, B.get? b = some o
  new : s.heap.get? a = none
def CXe (P : Program) (w : World) : CXT := fun outer H s E e s' => ∃ (a C : Addr) (a0 : Value) (B : Heap) (H' : Hp), e = .ref a ∧ Flies P w outer H s a C a0 B H' s' ∧ E (.ref C) none H'
theorem HOk.stays {P : Program} {w : World} {H : Hp} {B h h' : Heap} (ok : HOk P w H h) (c : ∀ b, H b ≠ none → ∃ o, B.get? b = some o) (k1 : B.StaysIn h) (k2 : B.StaysIn h') : HOk P w H h' := fun b u e => by
  refine (ok b u e).stay (fun c' v hc q => ?_) (fun _ q => q) fun _ _ q => q
  have hne : H c' ≠ none := by
    rcases hc with z | z
    · rw [z, e]; simp
    · rw [z]; simp
  obtain ⟨o, ho⟩ := c c' hne
  have h1 := k1 _ _ ho
  rw [q] at h1
  cases h1
  exact k2 _ _ ho
theorem Un.fly {fs0 : List Addr} {H0 H H' : Hp} {h0 h h' h'' B : Heap} {l : List Env} {L : Addr} (u0 : Un fs0 [] H0 H h0 h) (u : Un (frs l) [] H H' h h') (hfs : frs l = L :: fs0) (hL : h0.get? L = none)
    (hff : h'.FunFrames B l) (sm : h'.UpToSlots h'') (k2 : B.StaysIn h'') (cov : ∀ b o, h.get? b = some o → b ∉ frs l → ∃ o', B.get? b = some o' ∧ (H b = none → o' = o)) : Un fs0 [] H0 H' h0 h'' := by
  have nL : ∀ b o, h0.get? b = some o → b ≠ L := fun b o e z => by rw [z, hL] at e; cases e
  have frame : ∀ b o, b ∈ frs l → h'.get? b = some o → ∃ sl, h''.get? b = some { o with slots := sl } := fun b o hb e => by
    obtain ⟨_, o1, e1, hn⟩ := hff.mem (b := b) hb
    rw [e] at e1
    cases e1
    exact sm b o e hn
  refine ⟨fun b o e n hb hx => ?_, fun b o e n hb hx => ?_, fun b o e n hx => ?_, fun b o e hx => ?_, fun b xs e => u.tups _ _ (u0.tups _ _ e), fun b o x e => u.frzs _ _ _ (u0.frzs _ _ _ e), fun b ps e => ?_⟩
  · have e1 := u0.keep b o e n hb hx
    obtain ⟨o', ho', heq⟩ := cov b o e1 (by rw [hfs]; exact fun z => (List.mem_cons.mp z).elim (nL b o e) hb)
    rw [heq (u0.free b o e n hx)] at ho'
    exact k2 _ _ ho'
  · obtain ⟨sl, e1⟩ := u0.slot b o e n hb hx
    have n1 := u0.free b o e n hx
    have hb' : b ∈ frs l := by rw [hfs]; exact List.mem_cons_of_mem _ hb
    obtain ⟨sl2, e2⟩ := u.slot b _ e1 n1 hb' hx
    obtain ⟨sl3, e3⟩ := frame b _ hb' e2
    exact ⟨sl3, e3⟩
  · obtain ⟨o1, e1⟩ := u0.there b o e hx
    exact u.free b o1 e1 (u0.free b o e n hx) hx
  · obtain ⟨o1, e1⟩ := u0.there b o e hx
    by_cases hb : b ∈ frs l
    · obtain ⟨o2, e2⟩ := u.there b o1 e1 hx
      obtain ⟨sl, e3⟩ := frame b o2 hb e2
      exact ⟨_, e3⟩
    · obtain ⟨o', ho', _⟩ := cov b o1 e1 hb
      exact ⟨o', k2 _ _ ho'⟩
  · obtain ⟨m1, e1⟩ := u0.tbls b ps e
    obtain ⟨m2, e2⟩ := u.tbls b _ e1
    exact ⟨m1 ++ m2, by rw [e2, Array.append_assoc]⟩
theorem ObjOk.there {P : Program} {w : World} {H : Hp} {h : Heap} {a : Addr} {o : HO} (x : ObjOk P w H h a o) : ∃ u, h.get? a = some u := by
  cases o with
  | lst xs => obtain ⟨_, _, _, _, e⟩ := x; exact ⟨_, e⟩
  | tup xs => obtain ⟨_, _, _, ob, e, _⟩ := x; exact ⟨_, e⟩
  | dK kvs => obtain ⟨_, _, _, _, o, _, _, e, _⟩ := x; exact ⟨_, e⟩
  | dT kvs => obtain ⟨_, _, _, _, o, _, _, e, _⟩ := x; exact ⟨_, e⟩
  | set S n => obtain ⟨o, _, _, _, e, _⟩ := x; exact ⟨_, e⟩
  | ins C dx fs => obtain ⟨_, _, _, e, _⟩ := x; exact ⟨_, e⟩
  | own y => exact x
  | xd fs => obtain ⟨_, ⟨_, _, _, e, _⟩, _⟩ := x; exact ⟨_, e⟩
  | rng lo hi => obtain ⟨_, _, _, e⟩ := x; exact ⟨_, e⟩
  | frz ob u => obtain ⟨e, _⟩ := x; exact ⟨_, e⟩
  | tbl ps => exact ⟨_, (show h.get? a = some _ from x)⟩
  | met f y => exact ⟨_, (show h.get? a = some _ from x)⟩
  | ext φ => obtain ⟨_, ⟨_, e⟩, _⟩ := x; exact ⟨_, e⟩
theorem funFrames_rebase {h base B : Heap} : ∀ {l : List Env}, h.FunFrames base l → (∀ b ∈ frs l, B.get? b = none) → h.FunFrames B l
  | [], _, _ => trivial
  | env :: r, ⟨hk, ⟨L, o, hf, hn, ho, hd⟩, hr⟩, hb => by
    have e : frs (env :: r) = L :: frs r := by unfold frs; rw [List.filterMap_cons, hf]
    refine ⟨hk, ⟨L, o, hf, hb L (by rw [e]; exact List.mem_cons_self ..), ho, hd⟩, funFrames_rebase hr fun b q => hb b (by rw [e]; exact List.mem_cons_of_mem _ q)⟩
section
variable {P : Program} {w : World} {K : PySem.W.Frag} {mg : Str → Option Value} {base : Heap} {N : List Str} {qual : Str} {scope : Scope} {f : Addr} {cd : Value} {A : Around} {outer : List Env} {s0 : Shared} {H0 : Hp} {E : XK}
def Takes (X : Cx) (EE : St → XK) : Prop := ∀ (pins : List (Addr × Obj)) (σ : St) (H : Hp) (s : Shared) (e : Value) (s' : Shared), Inv X pins σ H s → CXe X.prog X.w X.stack H s (EE σ) e s' → X.xe e s'
theorem takes_fn : Takes (cxOf (CXe P w) P w K mg base N qual scope f cd A outer s0 H0 E) (fun _ => E) := by
  rintro pins σ H s e s' I ⟨a, C, a0, B, H', rfl, F, q⟩
  have hL : s0.heap.get? s0.heap.objs.size = none := Heap.get?_none_of_le (Nat.le_refl _)
  refine wpAny_leaves_onW (base := B) I.ok.frames rfl F.fl fun h'' fl sm => ⟨a, C, a0, B, H', rfl, ⟨?_, F.bare, ?_, ?_, fl, ?_, F.cov2, ?_⟩, q⟩
  · exact F.os.trans I.os
  · exact Un.fly I.base F.un rfl hL F.fl.2.2.1 sm fl.1 F.cov
  · exact F.hok.stays F.cov2 F.fl.1 fl.1
  · intro b o e hb
    obtain ⟨o1, e1⟩ := I.base.there b o e (by simp [cxOf])
    have nL : b ≠ s0.heap.objs.size := fun z => by rw [z, hL] at e; cases e
    obtain ⟨o', ho', heq⟩ := F.cov b o1 e1 (fun z => (List.mem_cons.mp z).elim nL hb)
    refine ⟨o', ho', fun n => ?_⟩
    have e2 := I.base.keep b o e n hb (by simp [cxOf])
    rw [e1] at e2
    cases e2
    exact heq (I.base.free b o e n (by simp [cxOf]))
  · cases e : s0.heap.get? a with
    | none => rfl
    | some o =>
      obtain ⟨o1, e1⟩ := I.base.there a o e (by simp [cxOf])
      have := F.new
      rw [e1] at this
      cases this
def tRaise (C : Addr) (E : XK) (t : TA) : TS := fun _ σ H => t σ H fun vs H1 => vs.length ≤ 10 ∧ E (.ref C) none H1
theorem ps_raise {x : Str} {C : Addr} {arg : Expr} {np cpos pos : Pos} {t : TA} (hm : mg x = some (.ref C)) (hE : ExcIn K C) (hB : PySem.W.mroIn K C (.type "BaseException") = some true)
    (ha : PA (cxOf (CXe P w) P w K mg base N qual scope f cd A outer s0 H0 E) [arg] t) (hg : Gl (cxOf (CXe P w) P w K mg base N qual scope f cd A outer s0 H0 E) x := by rfl)
    (hst : starEach [arg] (cxOf (CXe P w) P w K mg base N qual scope f cd A outer s0 H0 E).env = [(false, eval arg (cxOf (CXe P w) P w K mg base N qual scope f cd A outer s0 H0 E).env)] := by rfl)
    (hd : (x == ("__debug__" : Str)) = false := by decide) :
    PS (cxOf (CXe P w) P w K mg base N qual scope f cd A outer s0 H0 E) (.Raise (some (.Call (.Name x np) [arg] [] cpos)) none pos) (tRaise C E t) := by
  intro pins s σ H D I h
  generalize hX : cxOf (CXe P w) P w K mg base N qual scope f cd A outer s0 H0 E = X at *
  have hcalm : X.calm = true := by rw [← hX]; rfl
  have hXK : X.K = K := by rw [← hX]; rfl
  obtain ⟨bm, N', nm, qn, bs, hdct, sn, sub, ab, col, dd, k0, k1, k2, k3, k5, mN, hC, hN, hni, TL, hmro⟩ := exc_obj I.ok.mod.kin (by rw [hXK]; exact hE)
  have hbase : bm.contains (.type "BaseException") = true := by
    have := hmro (.type "BaseException") true (by rw [hXK]; exact hB)
    rw [List.contains_cons] at this
    simpa using this
  have hpl : (backTo cpos (starEach [arg] X.env)).any (·.1) = false := by rw [hst]; rfl
  refine wpAny_Raise_call_subT (C := C) (nm := nm) (q := qn) (N := N') (bs := bs) (bm := bm) (hdct := hdct) (sn := sn) (sub := sub) (ab := ab) (col := col) (dd := dd) (k0 := k0) (k1 := k1) (k2 := k2) (k3 := k3) (k5 := k5) F.excBase_ValueError hbase (I.ok.hd hcalm) hpl hni ?_
  refine ld_glob I hg (by rw [← hX]; exact hm) ⟨rfl, ?_⟩ hd
  have harg : backTo cpos (starEach [arg] X.env) = [(false, (backTo cpos (starEach [arg] X.env)).head!.2)] := by rw [hst]; rfl
  rw [harg]
  refine Calls.evalArgs_plain ?_
  rw [← harg]
  refine thn (ha cpos pins s σ H _ I h) fun us s1 ⟨vs, H1, I1, r, hl, q⟩ => ?_
  refine ⟨rfl, ?_, I1.bk _ _ hC, hN.keeps I1.bk, TL.keeps I1.bk, fun h' e hx => ?_⟩
  · show us.length ≤ sizeLine
    have := r.length
    have := small1000 (n := 10) (by omega)
    omega
  have ff : s1.heap.FunFrames (PySem.W.hideAll s1.heap (frs X.stack)) X.stack := funFrames_rebase I1.stack fun b hb => PySem.W.hideAll_none _ hb
  have kb : (PySem.W.hideAll s1.heap (frs X.stack)).StaysIn s1.heap := fun b o q => PySem.W.of_hideAll _ q
  have cv : ∀ b o, s1.heap.get? b = some o → b ∉ frs X.stack → ∃ o', (PySem.W.hideAll s1.heap (frs X.stack)).get? b = some o' ∧ (H1 b = none → o' = o) := fun b o e1 hb => ⟨o, PySem.W.hideAll_get _ e1 hb, fun _ => rfl⟩
  have cv2 : ∀ b, H1 b ≠ none → ∃ o, (PySem.W.hideAll s1.heap (frs X.stack)).get? b = some o := fun b hb => by
    cases q1 : H1 b with
    | none => exact absurd q1 hb
    | some u =>
      obtain ⟨o, ho⟩ := (I1.hok b u q1).there
      exact ⟨o, PySem.W.hideAll_get _ ho fun z => hb (I1.stkFree b z)⟩
  subst hX
  have hL : s0.heap.get? s0.heap.objs.size = none := Heap.get?_none_of_le (Nat.le_refl _)
  refine wpAny_leaves_madeW (base := PySem.W.hideAll s1.heap (frs (cxOf (CXe P w) P w K mg base N qual scope f cd A outer s0 H0 E).stack)) (h := s1.heap) I1.ok.frames rfl kb ff hx fun h'' t fl ht htn sm => ⟨e, C, .ref t, _, H1, rfl, ⟨I1.os, I1.bare, ?_, ?_, fl, ?_, cv2, ?_⟩, q⟩
  · exact Un.fly I1.base (Un.kept hx.keeps) rfl hL (ff.of_keeps fun b o hb _ => ⟨o, hx.keeps b o hb, rfl⟩) sm fl.1 cv
  · exact I1.hok.stays cv2 kb fl.1
  · intro b o e1 hb
    obtain ⟨o1, e2⟩ := I1.base.there b o e1 (by simp [cxOf])
    have nL : b ≠ s0.heap.objs.size := fun z => by rw [z, hL] at e1; cases e1
    obtain ⟨o', ho', heq⟩ := cv b o1 e2 (fun z => (List.mem_cons.mp z).elim nL hb)
    refine ⟨o', ho', fun n => ?_⟩
    have e3 := I1.base.keep b o e1 n hb (by simp [cxOf])
    rw [e2] at e3
    cases e3
    exact heq (I1.base.free b o e1 n (by simp [cxOf]))
  · cases e1 : s0.heap.get? e with
    | none => rfl
    | some o =>
      obtain ⟨o1, e2⟩ := I1.base.there e o e1 (by simp [cxOf])
      have := hx.new
      rw [e2] at this
      cases this
end
section
variable {P : Program} {w : World} {K : PySem.W.Frag} {mg : Str → Option Value} {base : Heap}
theorem Fun.okX {x qual : Str} {st : Stmt} {f : Addr} {fd : FuncData} {N ps : List Str} {k : Nat} {sp : Sp} (F : Fun K x qual st f fd) (S : FnScope N ps (defScope st)) (len : ∀ vs H Q E, sp vs H Q E → vs.length = ps.length)
    (hbody : ∀ (cdv : Value) (A : Around) (outer : List Env) (s : Shared) (H : Hp) (vs : List V) (Q : VK) (E : XK), Room k (A.deeper (envOfC qual (defScope st) s.heap.objs.size f cdv)) → sp vs H Q E →
      ∃ t, PSs (cxOf (CXe P w) P w K mg base N qual (defScope st) f cdv A outer s H E) (defBody st) t ∧ t { nx := fun _ H' => Q .non H', rt := Q } (start N vs) H) : FnOk P w K mg base (CXe P w) (k + 1) f fd ps sp := by
  obtain ⟨oc, od, kV, doc, pm, an, cdv, ct, osl, rfl, lk, hcd⟩ := F.ex
  exact fn_of lk hcd S len fun A outer s H vs Q E hr hsp => hbody cdv A outer s H vs Q E hr hsp
end
section
variable {X : Cx} {j k : Nat} {ps : List Str} {sp : Sp} {x : Str} {p pos : Pos} {e : Expr} {es : List Expr} {t : TA} {EE : St → XK}
def tCallX (sp : Sp) (EE : St → XK) (t : TA) : TE := fun σ H Q => t σ H fun vs H1 => sp vs H1 Q (EE σ)
theorem pe_calX (c : Callee X.prog X.w X.K X.mg X.base (CXe X.prog X.w) x k ps sp) (hr : Room j X.A) (hx : Takes X EE) (ha : PA X (e :: es) t) (hk : k ≤ j := by decide) (hg : Gl X x := by rfl)
    (hdb : (x == ("__debug__" : Str)) = false := by decide) (he : starEach (e :: es) X.env = (false, eval e X.env) :: starEach es X.env := by rfl) (hpl : (backTo pos (starEach es X.env)).any (·.1) = false := by rfl) :
    PE X (.Call (.Name x p) (e :: es) [] pos) (tCallX sp EE t) := by
  obtain ⟨f, fd, hm, hkp, hb, F⟩ := c.ex
  intro pins s σ H Q I h
  refine wpAny_Call_Name_kw (ld_glob I hg hm ?_ hdb)
  refine PySem.W.callWith_K (h₀ := X.base) I.ok.mod.kin hkp (thn (ha pos pins s σ H _ I h) fun us s1 ⟨vs, H1, I1, r, q⟩ => ⟨I1.kIn, ?_⟩) he hpl
  have hl : (us ++ []).length = ps.length := by rw [List.append_nil, ← r.length]; exact F.len _ _ _ _ q
  have hb' := hb s1 us I1.kIn hl
  rw [List.append_nil] at hb'
  refine wpAny_call (codeAny_mono (F.run X.A X.stack s1 H1 ⟨us, []⟩ us vs Q (EE σ) (hr.mono hk) I1.env0 hb' r q) fun r s' hq => ?_)
  cases r with
  | error e => exact hx pins σ H1 s1 e s' I1 hq
  | ok fl =>
    cases fl with
    | ret u => exact I1.after hq
    | next => exact False.elim hq
    | brk => exact False.elim hq
    | cont => exact False.elim hq
end
def excO (C a : Addr) : HO := .ext fun h => ∃ o, h.get? a = some o ∧ o.cls = .ref C
def Wx (X : Cx) (EE : St → XK) : Value → Shared → Prop := fun e s' => ∃ (pins : List (Addr × Obj)) (σ : St) (H : Hp) (s : Shared), Inv X pins σ H s ∧ CXe X.prog X.w X.stack H s (EE σ) e s'
theorem takes_wx {X : Cx} {EE : St → XK} : Takes (X.wish (Wx X EE)) EE := fun pins σ H s e s' I h => ⟨pins, σ, H, s, I.unwish, h⟩
abbrev Cx.exc (X : Cx) (a : Addr) : Cx := { X with A := X.A.mark (some (.ref a)), calm := false, xe := fun _ _ => False }
theorem Inv.exc {X : Cx} {pins : List (Addr × Obj)} {σ : St} {H : Hp} {s : Shared} (a : Addr) (I : Inv X pins σ H s) : Inv (X.exc a) pins σ H s :=
  ⟨⟨I.ok.mod, I.ok.kind, I.ok.glob, I.ok.blt, I.ok.above, I.ok.inj, I.ok.has, I.ok.cab, (fun z => by cases z), I.ok.frames, I.ok.stk, I.ok.exf, I.ok.bs, I.ok.bsz, I.ok.noex, I.ok.exfs, I.ok.funs, I.ok.frf⟩, I.os, I.bare, I.base, I.loc, I.cell, I.free, I.freeC, I.pin, I.hok, I.len⟩
theorem Inv.unexc {X : Cx} {pins : List (Addr × Obj)} {σ : St} {H : Hp} {s : Shared} {a : Addr} (ok : X.Ok) (I : Inv (X.exc a) pins σ H s) : Inv X pins σ H s := ⟨ok, I.os, I.bare, I.base, I.loc, I.cell, I.free, I.freeC, I.pin, I.hok, I.len⟩
theorem Inv.goes {X : Cx} {pins : List (Addr × Obj)} {σ : St} {H : Hp} {s : Shared} {i : Nat} {n : Str} {M : Model} {A : Around} {E : Value → Shared → Prop} {Q : Unit → Shared → Prop} {pos : Pos} (I : Inv X pins σ H s) (hN : X.N.Nodup) (hi : X.N[i]? = some n) (hk : X.env.scope.names.lookup n = some .local)
    (h : ∀ s', Inv X pins (σ.set i none) H s' → Q () s') : wpAny M A (do bindName X.env n .none; unbindBehindTheSuite X.env n pos) Q E s := by
  obtain ⟨m, hn, hl⟩ := id I.loc
  have hcls : (X.env.scope.kind == .class || (X.env.scope.kind == .module && X.env.locals != X.env.globals)) = false := by rw [I.ok.kind]; rfl
  have hiσ : i < σ.length := by rw [I.len]; exact (List.getElem?_eq_some_iff.mp hi).1
  have cne := I.cne
  obtain ⟨oL, _, _, hoL, _⟩ := id hn
  refine wpAny_nameGoes_keeps hk hn hcls fun h' v hn' hs => h _ ?_
  have tracked : HOk X.prog X.w H h' := fun b ob e => by
    refine (I.hok b ob e).stay (fun c w' hc q => (hs.2 c ?_).trans q) (fun _ q => q) fun _ _ q => q
    rintro rfl
    have hfree := I.free
    rcases hc with z | hc
    · rw [← z, hfree] at e; cases e
    · rw [hfree] at hc; cases hc
  refine ⟨I.ok, I.os, I.bare, ⟨fun b o e n hb hx => ?_, fun b o e n hb hx => ?_, I.base.free, fun b o e hx => ?_, I.base.tups, I.base.frzs, I.base.tbls⟩, ⟨_, hn', fun j y v' e1 e2 e3 => ?_⟩, fun y c e => ?_, I.free, I.freeC, fun p hp => ?_, tracked, by simpa using I.len⟩
  · exact (hs.2 b (Nat.ne_of_lt (Nat.lt_of_lt_of_le (Heap.lt_size e) I.ok.above))).trans (I.base.keep b o e n hb hx)
  · obtain ⟨sl, e1⟩ := I.base.slot b o e n hb hx
    exact ⟨sl, (hs.2 b (Nat.ne_of_lt (Nat.lt_of_lt_of_le (Heap.lt_size e) I.ok.above))).trans e1⟩
  · obtain ⟨o', e1⟩ := I.base.there b o e hx
    exact ⟨o', (hs.2 b (Nat.ne_of_lt (Nat.lt_of_lt_of_le (Heap.lt_size e) I.ok.above))).trans e1⟩
  · by_cases hj : j = i
    · subst hj
      rw [List.getElem?_set_self hiσ] at e2
      cases e2
    · rw [List.getElem?_set_ne (Ne.symm hj)] at e2
      obtain ⟨u', r', q⟩ := hl j y v' e1 e2 e3
      refine ⟨u', r', ?_⟩
      rcases q with ⟨k, e⟩ | ⟨k, c, e, z⟩
      · refine .inl ⟨k, ?_⟩
        have : y ≠ n := fun e => hj (nodup_ix hN e1 (e ▸ hi))
        simp [this, e]
      · exact .inr ⟨k, c, e, z.sameBut hs (cne y c e)⟩
  · obtain ⟨w', z⟩ := I.cell y c e
    exact ⟨w', z.sameBut hs (cne y c e)⟩
  · obtain ⟨e, n, ne, nf, d⟩ := I.pin p hp
    exact ⟨(hs.2 p.1 ne).trans e, n, ne, nf, d⟩
theorem Un.fly0 {H H' : Hp} {h h' h'' B : Heap} {l : List Env} (u : Un (frs l) [] H H' h h') (hff : h'.FunFrames B l) (sm : h'.UpToSlots h'') (k2 : B.StaysIn h'')
    (cov : ∀ b o, h.get? b = some o → b ∉ frs l → ∃ o', B.get? b = some o' ∧ (H b = none → o' = o)) : Un (frs l) [] H H' h h'' := by
  have frame : ∀ b o, b ∈ frs l → h'.get? b = some o → ∃ sl, h''.get? b = some { o with slots := sl } := fun b o hb e => by
    obtain ⟨_, o1, e1, hn⟩ := hff.mem (b := b) hb
    rw [e] at e1
    cases e1
    exact sm b o e hn
  refine ⟨fun b o e n hb hx => ?_, fun b o e n hb hx => ?_, u.free, fun b o e hx => ?_, u.tups, u.frzs, u.tbls⟩
  · obtain ⟨o', ho', heq⟩ := cov b o e hb
    rw [heq n] at ho'
    exact k2 _ _ ho'
  · obtain ⟨sl2, e2⟩ := u.slot b _ e n hb hx
    obtain ⟨sl3, e3⟩ := frame b _ hb e2
    exact ⟨sl3, e3⟩
  · by_cases hb : b ∈ frs l
    · obtain ⟨o2, e2⟩ := u.there b o e hx
      obtain ⟨sl, e3⟩ := frame b o2 hb e2
      exact ⟨_, e3⟩
    · obtain ⟨o', ho', _⟩ := cov b o e hb
      exact ⟨o', k2 _ _ ho'⟩
theorem wpAny_excMatches_sub_ref {M : Model} {A : Around} {E : Value → Shared → Prop} {s : Shared} {e C D : Addr} {oe : Obj} {Q : Bool → Shared → Prop} {K : PySem.W.Frag} (X : K.In s.heap) (hC : ExcIn K C) (hD : ExcIn K D) (he : s.heap.get? e = some oe) (hcls : oe.cls = .ref C)
    (hB : PySem.W.mroIn K D (.type "BaseException") = some true) {b : Bool} (hsub : PySem.W.mroIn K C (.ref D) = some b) (hq : Q b s) : wpAny M A (excMatches (.ref e) (.ref D)) Q E s := by
  obtain ⟨h, g, d, t, os⟩ := s
  obtain ⟨bm, N, nm, qn, bs, hdct, sn, sub, ab, col, dd, k0, k1, k2, k3, k5, mN, oC, hN, hni, TL, hmro⟩ := exc_obj X hC
  obtain ⟨bm', N', nm', qn', bs', hdct', sn', sub', ab', col', dd', k0', k1', k2', k3', k5', mN', oD, hN', hni', TL', hmro'⟩ := exc_obj X hD
  have hcB := hmro' _ _ hB
  have hcC := hmro _ _ hsub
  have f := tc_notTuple
  unfold excMatches
  repeat (first | (with_reducible refine wpAny_loadPart_at he ?_; rw [hcls]) | with_reducible refine wpAny_loadPart_at oD ?_ | (with_reducible refine wpAny_isSubtype_exc oD ?_; rw [hcB]) | (with_reducible refine wpAny_isSubtype_exc oC ?_; rw [hcC]) | wp_step)
  cases b
  · wp_walk
    exact hq
  · wp_walk
    exact hq
end L2

namespace L2
open PySem PySem.Spec PyProof.Rows
abbrev Cx.pinned (X : Cx) (pn : List (Addr × Obj)) : Cx := { X with pn := pn }
theorem Inv.toPinned {X : Cx} {pins : List (Addr × Obj)} {σ : St} {H : Hp} {s : Shared} (I : Inv X pins σ H s) : Inv (X.pinned (X.pn ++ pins)) [] σ H s :=
  ⟨⟨I.ok.mod, I.ok.kind, I.ok.glob, I.ok.blt, I.ok.above, I.ok.inj, I.ok.has, I.ok.cab, I.ok.hd, I.ok.frames, I.ok.stk, I.ok.exf, I.ok.bs, I.ok.bsz, I.ok.noex, I.ok.exfs, I.ok.funs, I.ok.frf⟩, I.os, I.bare, I.base, I.loc, I.cell, I.free, I.freeC, fun p hp => I.pin p (by simpa using hp), I.hok, I.len⟩
theorem Inv.ofPinned {X : Cx} {pins pins' : List (Addr × Obj)} {σ : St} {H : Hp} {s : Shared} (I : Inv (X.pinned (X.pn ++ pins)) pins' σ H s) : Inv X pins σ H s :=
  ⟨⟨I.ok.mod, I.ok.kind, I.ok.glob, I.ok.blt, I.ok.above, I.ok.inj, I.ok.has, I.ok.cab, I.ok.hd, I.ok.frames, I.ok.stk, I.ok.exf, I.ok.bs, I.ok.bsz, I.ok.noex, I.ok.exfs, I.ok.funs, I.ok.frf⟩, I.os, I.bare, I.base, I.loc, I.cell, I.free, I.freeC, fun p hp => I.pin p (List.mem_append_left _ hp), I.hok, I.len⟩
theorem SP.ofPinned {X : Cx} {pins pins' : List (Addr × Obj)} {D : Ends} {f : Flow} {s' : Shared} {W : Value → Shared → Prop} (h : SP ((X.pinned (X.pn ++ pins)).wish W) pins' D f s') : SP X pins D f s' := by
  cases f with
  | next => obtain ⟨σ', H', I, q⟩ := h; exact ⟨σ', H', I.unwish.ofPinned, q⟩
  | brk => obtain ⟨σ', H', I, q⟩ := h; exact ⟨σ', H', I.unwish.ofPinned, q⟩
  | cont => obtain ⟨σ', H', I, q⟩ := h; exact ⟨σ', H', I.unwish.ofPinned, q⟩
  | ret u => obtain ⟨v, σ', H', I, r, q⟩ := h; exact ⟨v, σ', H', I.unwish.ofPinned, r, q⟩
def tTry (K : PySem.W.Frag) (D0 : Addr) (i : Nat) (EE : St → XK) (tb th : TS) : TS := fun D σ H =>
  tb D σ H ∧ ∀ σ1 C a H1, EE σ1 (.ref C) none H1 → H1 a = none → ExcIn K C ∧ PySem.W.mroIn K C (.ref D0) = some true ∧
    th { nx := fun σ2 H2 => D.nx (σ2.set i none) H2, rt := D.rt, bk := fun σ2 H2 => D.bk (σ2.set i none) H2, ct := fun σ2 H2 => D.ct (σ2.set i none) H2 } (σ1.set i (some (.ref a))) (upd H1 a (excO C a))
theorem hok_exc {P : Program} {w : World} {H : Hp} {h : Heap} {a C : Addr} (ok : HOk P w H h) (hn : H a = none) (ha : ∃ o, h.get? a = some o ∧ o.cls = .ref C) : HOk P w (upd H a (excO C a)) h := fun b u e => by
  by_cases hb : b = a
  · subst hb
    rw [upd_same] at e
    cases e
    obtain ⟨o, e1, e2⟩ := ha
    exact ⟨⟨o, e1, e2⟩, ⟨o, e1⟩, fun h1 h2 ⟨o', q1, q2⟩ k => ⟨o', k _ q1, q2⟩⟩
  · rw [upd_ne hb] at e
    have na : ∀ c v, H c = some v → c ≠ a := fun c v q z => by rw [z, hn] at q; cases q
    exact (ok b u e).stay (fun c v hc q => q) (fun c q => by rw [upd_ne (na c _ q)]; exact q) fun c xs q => by rw [upd_ne (na c _ q)]; exact q
theorem Un.exc {fs : List Addr} {H H' : Hp} {h h' : Heap} {a C : Addr} (u : Un fs [] H H' h h') (hn : H' a = none) (hh : h.get? a = none) : Un fs [] H (upd H' a (excO C a)) h h' := by
  have na : ∀ c v, H' c = some v → c ≠ a := fun c v q z => by rw [z, hn] at q; cases q
  refine ⟨u.keep, u.slot, fun b o e n hx => ?_, u.there, fun b xs e => ?_, fun b o x e => ?_, fun b ps e => ?_⟩
  · rw [upd_ne (fun z => by rw [z, hh] at e; cases e)]; exact u.free b o e n hx
  · have := u.tups b xs e; rw [upd_ne (na _ _ this)]; exact this
  · have := u.frzs b o x e; rw [upd_ne (na _ _ this)]; exact this
  · obtain ⟨m, q⟩ := u.tbls b ps e
    exact ⟨m, by rw [upd_ne (na _ _ q)]; exact q⟩
theorem ps_try {X : Cx} {body : List Stmt} {b₀ : Stmt} {suite : List Stmt} {dn n : Str} {np hpos pos : Pos} {D0 : Addr} {i : Nat} {EE : St → XK} {tb th : TS} (K : PySem.W.Frag) (hK : X.K = K) (hN : X.N.Nodup) (hi : X.N[i]? = some n) (hk : X.env.scope.names.lookup n = some .local) (hcalm : X.calm = true)
    (hstk : X.stack = X.env :: X.outer) (hfr : X.env.frame = some X.env.locals) (hm : X.mg dn = some (.ref D0)) (hD : ExcIn K D0) (hB : PySem.W.mroIn K D0 (.type "BaseException") = some true)
    (hbody : ∀ pn, PSs ((X.pinned pn).wish (Wx (X.pinned pn) EE)) body tb) (hh : ∀ a, PSs (X.exc a) (b₀ :: suite) th) (hg : Gl X dn := by rfl) (hd : (dn == ("__debug__" : Str)) = false := by decide) :
    PS X (.Try body [.ExceptHandler (some (.Name dn np)) (some n) (b₀ :: suite) hpos] [] [] pos) (tTry K D0 i EE tb th) := by
  intro pins s σ H D I h
  subst hK
  obtain ⟨hb, hx⟩ := h
  refine wpAny_Try_except (wpAny_mono (hbody (X.pn ++ pins) [] s σ H D (I.toPinned.wish _) hb) (fun f s1 q => ?_) fun e s1 q => ?_)
  · have q' := SP.ofPinned q
    cases f with
    | next => exact wpAny_execs_nil q'
    | brk => exact q'
    | cont => exact q'
    | ret u => exact q'
  · obtain ⟨pins', σ1, H1', s', I', a, C, a0, B, H1, rfl, F, qE⟩ := q
    have J0 : Inv X pins σ1 H1' s' := I'.ofPinned
    have hfl : Heap.FlyingW B (X.env :: X.outer) a (.ref C) a0 s1.heap := by rw [← hstk]; exact F.fl
    have hAf : X.A.frames = some (X.env :: X.outer) := by rw [← hstk]; exact I.ok.frames
    refine wpAny_looks_onW hAf hfr hfl fun h4 held4 sm4 => ?_
    refine wpAny_landsW held4 fun h5 fl5 sm5 => ?_
    have hna : H1 a = none := by
      cases q : H1 a with
      | none => rfl
      | some u =>
        obtain ⟨o, ho⟩ := F.cov2 a (by rw [q]; simp)
        rw [F.fl.2.1] at ho
        cases ho
    obtain ⟨hC, hsub, hth⟩ := hx σ1 C a H1 qE hna
    have un5 : Un (frs X.stack) [] H1' H1 s'.heap h5 := Un.fly0 F.un F.fl.2.2.1 (sm4.trans sm5) fl5.1 F.cov
    have hok5 : HOk X.prog X.w H1 h5 := F.hok.stays F.cov2 F.fl.1 fl5.1
    have J5 : Inv X pins σ1 H1 { s1 with heap := h5 } := J0.call' (s' := { s1 with heap := h5 }) F.os un5 hok5 F.bare fun b z => absurd z (by simp)
    obtain ⟨ob, hob, hobc⟩ := fl5.there
    refine wpAny_handleBy_cons (codeAny_handlers_test (ld_glob (X := X.exc a) (J5.exc a) hg hm ?_ hd)) (by intro q; cases q)
    refine wpAny_excMatches_sub_ref (s := { s1 with heap := h5 }) J5.kIn hC hD hob hobc hB hsub ?_
    refine codeAny_handlers_suite_as ?_
    refine lands_againW (s := { s1 with heap := h5 }) fl5 fun h6 fl6 sm6 => ?_
    have un6 : Un (frs X.stack) [] H1' H1 s'.heap h6 := Un.fly0 F.un F.fl.2.2.1 ((sm4.trans sm5).trans sm6) fl6.1 F.cov
    have hok6 : HOk X.prog X.w H1 h6 := F.hok.stays F.cov2 F.fl.1 fl6.1
    have J6 : Inv X pins σ1 (upd H1 a (excO C a)) { s1 with heap := h6 } := J0.call' (s' := { s1 with heap := h6 }) F.os (un6.exc hna F.new) (hok_exc hok6 hna fl6.there) F.bare fun b z => absurd z (by simp)
    refine store_ok (X := X.exc a) (J6.exc a) hN hi (.inl hk) (v := .ref a) rfl (fun s7 J7 => ?_) (.inr hk)
    refine wpAny_mono (hh a pins s7 _ _ _ J7 hth) (fun f s8 q8 => ?_) fun e s8 q8 => q8.elim
    show wpAny _ X.A _ _ _ s8
    cases f with
    | next =>
      obtain ⟨σ', H', I8, q⟩ := q8
      exact Inv.goes (I8.unexc J5.ok) hN hi hk fun s9 J9 => ⟨_, _, J9, q⟩
    | brk =>
      obtain ⟨σ', H', I8, q⟩ := q8
      exact Inv.goes (I8.unexc J5.ok) hN hi hk fun s9 J9 => ⟨_, _, J9, q⟩
    | cont =>
      obtain ⟨σ', H', I8, q⟩ := q8
      exact Inv.goes (I8.unexc J5.ok) hN hi hk fun s9 J9 => ⟨_, _, J9, q⟩
    | ret u =>
      obtain ⟨v, σ', H', I8, r, q⟩ := q8
      exact Inv.goes (I8.unexc J5.ok) hN hi hk fun s9 J9 => ⟨v, _, _, J9, r, q⟩
end L2

namespace L2
open PySem PySem.Spec PyProof.Rows PySem.W Builtin Builtin.ObjectAttr Builtin.Getset_descriptor
theorem class_get' {prog : Program} {w : World} {A : Around} {s : Shared} {K : Frag} {x C : Addr} {ox : Obj} {tp : Value} {R : Result → Shared → Prop} (X : K.In s.heap) (hx : s.heap.get? x = some ox) (hc : ox.cls = .ref C) (hm : mroIn K C (.type "object") = some true)
    (h : R (.ok (.ret (.ref C))) s) : codeAny (model prog w) A (.call (.builtin "getset_descriptor.__get__") ⟨[.builtin "object.__class__", .ref x, tp], []⟩) R s := by
  obtain ⟨hh, g, dr, t, os⟩ := s
  have L0 : Looks (model prog w) hh (typeOf (.ref x)) (.ref C) := hc ▸ (Looks.ld hx).andThen .now
  have L1 := looks_mroIn (M := model prog w) X hm
  refine codeAny_call_builtin KF.slot_gs.plain KF.entry_gs (KF.slot_gs.check _ _ _ _ _ _ _ _ KF.type_class (KF.args_gs _ _ _) ?_)
  unfold Builtin.«getset_descriptor.__get__» descrGet
  rw [dga_obj]
  refine wpAny_bind (wpAny_pure ?_)
  unfold descrGetter descrCheckInstance descrNameAndClass isInstance
  simp only [KF.owner_class]
  repeat lk
  refine ⟨Code.quiet_builtin _ (by decide +kernel), codeAny_builtin KF.entry_class ?_⟩
  unfold Builtin.«object.__class__» shownTypeOf
  repeat lk
  exact h
theorem class_entry {prog : Program} {w : World} {A : Around} {s : Shared} {K : Frag} {x C : Addr} {ox : Obj} {tk : Tok} {Q : Fin → Shared → Prop} {E : Value → Shared → Prop} (X : K.In s.heap) (hx : s.heap.get? x = some ox) (hc : ox.cls = .ref C) (hm : mroIn K C (.type "object") = some true)
    (hcl : findIn K (.ref C) "__class__" = some (some (.builtin "object.__class__"))) (hn : specialIn K (.builtin "object.__class__") "__get__" = some (some (.builtin "getset_descriptor.__get__"))) (htk : takesIn K (.builtin "object.__class__") = some true)
    (h : Q (.done (.ret (.ref C))) s) : wpAny (model prog w) A (Builtin.«object.__getattribute__» ⟨[.ref x, .str "__class__" tk], []⟩) Q E s := by
  obtain ⟨hh, g, dr, t, os⟩ := s
  have L0 : Looks (model prog w) hh (typeOf (.ref x)) (.ref C) := hc ▸ (Looks.ld hx).andThen .now
  have L3 := looks_findIn (M := model prog w) X hcl
  have hT5 : (⟨hh, g, dr, t, os⟩ : Shared).TypeIs (.builtin "object.__class__") "getset_descriptor" := KF.type_class
  have f5 := KF.type_class
  have f6 := F.slot_gs_get.lookup
  have f7 := F.slot_gs_set.lookup
  repeat (any_goals (first | assumption | with_reducible refine Looks.at L0 ?_ | with_reducible refine Looks.at L3 ?_ | wp_step))
  refine class_get' X hx hc hm ?_
  exact wpAny_pure h
theorem check_ga_exc {M : Model} {A : Around} {E : Value → Shared → Prop} {s : Shared} {K : Frag} {a C : Addr} {o : Obj} {nameV : Value} {Q : Unit → Shared → Prop} (X : K.In s.heap) (hE : ExcIn K C) (hB : mroIn K C (.type "BaseException") = some true) (hx : s.heap.get? a = some o) (hc : o.cls = .ref C) (hq : Q () s) :
    wpAny M A (checkBuiltinCall "BaseException.__getattribute__" ⟨[.ref a, nameV], []⟩) Q E s := by
  obtain ⟨h, g, d, t, os⟩ := s
  obtain ⟨bm, N, nm, qn, bs, hdct, sn, sub, ab, col, dd, k0, k1, k2, k3, k5, mN, hC, hN, hni, TL, hmro⟩ := exc_obj X hE
  have hk : builtinKind "BaseException.__getattribute__" = some .slot := by decide +kernel
  have hsplit : splitId "BaseException.__getattribute__" = some ("BaseException", "__getattribute__") := by decide +kernel
  have hcB := hmro _ _ hB
  have ha := F.args_bexc_ga (.ref a) nameV
  simp only [checkBuiltinCall, hk, hsplit]
  refine wpAny_bind ?_
  · unfold isInstance
    repeat (first | (with_reducible refine wpAny_loadPart_at hx ?_; rw [hc]) | (with_reducible refine wpAny_isSubtype_exc hC ?_; rw [hcB]) | wp_step)
    exact hq
theorem exc_class {prog : Program} {w : World} {A : Around} {E : Value → Shared → Prop} {s : Shared} {K : Frag} {a C : Addr} {o : Obj} {Q : Option Value → Shared → Prop} (X : K.In s.heap) (hE : ExcIn K C) (hB : mroIn K C (.type "BaseException") = some true) (hm : mroIn K C (.type "object") = some true)
    (hga : findIn K (.ref C) "__getattribute__" = some (some (.builtin "BaseException.__getattribute__"))) (hgn : findIn K (.ref C) "__getattr__" = some none)
    (hcl : findIn K (.ref C) "__class__" = some (some (.builtin "object.__class__"))) (hn : specialIn K (.builtin "object.__class__") "__get__" = some (some (.builtin "getset_descriptor.__get__"))) (htk : takesIn K (.builtin "object.__class__") = some true)
    (hx : s.heap.get? a = some o) (hc : o.cls = .ref C) (h : Q (some (.ref C)) { s with toks := s.toks + 1 }) : wpAny (model prog w) A (getAttr? (.ref a) "__class__") Q E s := by
  obtain ⟨hh, g, d, t, os⟩ := s
  have L0 : Looks (model prog w) hh (typeOf (.ref a)) (.ref C) := hc ▸ (Looks.ld hx).andThen .now
  have L1 := looks_findIn (M := model prog w) X hga
  have L2 := looks_findIn (M := model prog w) X hgn
  have FB := F.attr_ValueError
  have f3 := FB.ga.bind (.ref a)
  have hx2 : (Value.builtin "BaseException.__getattribute__" == Value.builtin "object.__getattribute__") = false := by decide +kernel
  have hx1 : (onTheHeap (Value.ref C) && Value.builtin "BaseException.__getattribute__" == Value.builtin "object.__getattribute__") = false := by rw [hx2]; rfl
  unfold getAttr? getAttrBy?
  refine wpAny_bind (wpAny_mkText (wpAny_bind (wpAny_attempt ?_)))
  have hx0 : ∀ expr : Bool, (expr && onTheHeap (Value.builtin "BaseException.__getattribute__")) = false := fun expr => by cases expr <;> rfl
  unfold getAttrBy
  repeat (any_goals (first | assumption | with_reducible refine Looks.at L0 ?_ | with_reducible refine Looks.at L1 ?_ | with_reducible refine Looks.at L2 ?_ | wp_step))
  refine codeAny_call_builtin FB.ga.plain F.entry_bexc_ga (check_ga_exc (s := ⟨hh, g, d, t + 1, os⟩) X hE hB hx hc (class_entry (s := ⟨hh, g, d, t + 1, os⟩) X hx hc hm hcl hn htk ?_))
  repeat (any_goals (first | assumption | wp_step))
theorem kitx_exc {K : Frag} {a C : Addr} (hE : ExcIn K C) (hB : mroIn K C (.type "BaseException") = some true) (hm : mroIn K C (.type "object") = some true)
    (hga : findIn K (.ref C) "__getattribute__" = some (some (.builtin "BaseException.__getattribute__"))) (hgn : findIn K (.ref C) "__getattr__" = some none)
    (hcl : findIn K (.ref C) "__class__" = some (some (.builtin "object.__class__"))) (hn : specialIn K (.builtin "object.__class__") "__get__" = some (some (.builtin "getset_descriptor.__get__"))) (htk : takesIn K (.builtin "object.__class__") = some true) :
    KitX K (.ref a) (.ref C) (fun h => ∃ o, h.get? a = some o ∧ o.cls = .ref C) where
  ty := fun M h X p => by
    obtain ⟨o, hx, hc⟩ := p
    exact hc ▸ (Looks.ld hx).andThen .now
  it := fun M h X p => by
    obtain ⟨bm, N, nm, qn, bs, hdct, sn, sub, ab, col, dd, k0, k1, k2, k3, k5, mN, hC, hN, hni, TL, hmro⟩ := exc_obj X hE
    intro A' Q' E' s' k q
    unfold isType loadHead
    exact wpAny_bind (wpAny_loadPart (k _ _ hC) (wpAny_pure q))
  ne := fun h tp dd' its n sl X htp => by
    obtain ⟨bm, N, nm, qn, bs, hdct, sn, sub, ab, col, dd, k0, k1, k2, k3, k5, mN, hC, hN, hni, TL, hmro⟩ := exc_obj X hE
    refine Bool.eq_false_iff.mpr fun q => ?_
    cases beq_iff_eq.mp q
    rw [hC] at htp
    have z := congrArg Obj.data (Option.some.inj htp)
    cases z
  ca := fun X p k => by
    obtain ⟨o, hx, hc⟩ := p
    exact exc_class X hE hB hm hga hgn hcl hn htk hx hc k
structure ExcC (K : Frag) (C : Addr) : Prop where
  ex : ExcIn K C
  be : mroIn K C (.type "BaseException") = some true
  ob : mroIn K C (.type "object") = some true
  ga : findIn K (.ref C) "__getattribute__" = some (some (.builtin "BaseException.__getattribute__"))
  gn : findIn K (.ref C) "__getattr__" = some none
  cl : findIn K (.ref C) "__class__" = some (some (.builtin "object.__class__"))
  sg : specialIn K (.builtin "object.__class__") "__get__" = some (some (.builtin "getset_descriptor.__get__"))
  tk : takesIn K (.builtin "object.__class__") = some true
theorem call_isinstX {X : Cx} (K : Frag) (h : X.K = K := by rfl) : CallR X (.builtin "isinstance") (fun xs H Q => ∃ a c C b, xs = [.ref a, c] ∧ (∀ u, RelV c u → u = clsV c) ∧ H a = some (excO C a) ∧ ExcC K C ∧ kitOne K (.ref C) (clsV c) = some b ∧ Q (.bl b) H) := by
  subst h
  intro pins s σ H xs us Q I r h
  obtain ⟨a, c, C, b, rfl, hcv, ha, hC, e, q⟩ := h
  obtain ⟨u, u', rfl, r1, r2⟩ := r.two
  obtain rfl := hcv u' r2
  cases r1
  obtain ⟨φ, _, _⟩ := (show ObjOk X.prog X.w H s.heap a (excO C a) from I.hok a _ ha)
  exact kia_one (kitx_exc hC.ex hC.be hC.ob hC.ga hC.gn hC.cl hC.sg hC.tk) I.kIn φ e (fun z => nomatch z) fun tk => ⟨.bl b, H, I.tok tk, rfl, q⟩
end L2

namespace L2
open PySem PySem.Spec PyProof.Rows
section
variable {prog : Program} {w : World} {A : Around} {I : Addr} {fp wr : List Addr} {G : Array GenState → Array GenState → Prop} {n : Nat} {P : Nat → Value → Prop} {St : Nat → Shared → Prop} {R : Result → Shared → Prop}
theorem sum_loop_any (W : WalksS prog w A.in1 I fp wr G n P St) (val : Nat → Int) (hval : ∀ i v, P i v → ∃ t, v = .int (val i) t) (S : Addr) (hSf : S ∉ fp) :
    ∀ (k i : Nat) (stage : Int) (s : Shared) (tA : Tok) (c : Nat), (stage = 0 ∨ stage = 2) → n - i = k → i ≤ n → St i s → s.heap.get? S = some { cls := .type "list", dict := none, data := .seq #[.int (preSum val i) tA] c, slots := #[] } →
    (∀ s' t', Moved (S :: wr) G s s' → R (.ok (.ret (.int (preSum val n) t'))) s') → codeAny (model prog w) A (.builtin "sum.loop" ⟨[.ref I, .ref S, rawInt stage, rawInt 0], []⟩) R s := by
  have hSw : S ∉ wr := fun h => hSf (W.sub _ h)
  have hsub : ∀ b ∈ wr, b ∈ S :: wr := fun b hb => List.mem_cons_of_mem _ hb
  intro k
  induction k with
  | zero =>
    intro i stage s tA c hstg hk hi hst hS hR
    have hin : i = n := by omega
    subst hin
    refine codeAny_builtin F.entry_sum_loop ?_
    rw [Around.under_plainId F.plain_sum_loop _]
    show wpAny _ A.in1 (seqItems? (.ref S) >>= _) _ _ s
    refine wpAny_bind (wpAny_seqItems hS rfl ?_)
    show wpAny _ A.in1 (tryCatch (pyNext (.ref I)) _ >>= _) _ _ s
    refine wpAny_bind (wpAny_tryCatch (W.done s _ _ hst fun s' hm => ?_))
    exact wpAny_pure (hR s' tA (hm.mono hsub))
  | succ k ih =>
    intro i stage s tA c hstg hk hi hst hS hR
    have hlt : i < n := by omega
    refine codeAny_builtin F.entry_sum_loop ?_
    rw [Around.under_plainId F.plain_sum_loop _]
    show wpAny _ A.in1 (seqItems? (.ref S) >>= _) _ _ s
    refine wpAny_bind (wpAny_seqItems hS rfl ?_)
    show wpAny _ A.in1 (tryCatch (pyNext (.ref I)) _ >>= _) _ _ s
    refine wpAny_bind (wpAny_tryCatch (W.item i s _ _ hlt hst fun v s' hP hst' hm => ?_))
    obtain ⟨t, rfl⟩ := hval i v hP
    have hS' := hm.heap S _ hSw hS
    have plain : ∀ (A' : Around), A' = A.in1 → wpAny (model prog w) A' (do
        match ← (holding [Value.int (val i) t] (binaryOp .Add (.int (preSum val i) tA) (.int (val i) t))).attempt with
        | .ok r => updateSeq S (fun _ => #[r]); letGo [Value.int (preSum val i) tA, .int (val i) t]; updateSeq S (fun _ => #[r]); again (.builtin "sum.loop" ⟨[.ref I, .ref S, rawInt 2, rawInt 0], []⟩)
        | .error e => updateSeq S (fun _ => #[]); letGo [Value.int (preSum val i) tA, .int (val i) t] [e]; throw e)
        (fun fin s' => match fin with | .done f => R (.ok f) s' | .again c' => c'.quiet = true ∧ codeAny (model prog w) A c' R s') (fun e s' => R (.error e) s') s' := by
      rintro A' rfl
      refine wpAny_bind (wpAny_attempt (wpAny_holding (add_int ?_)))
      refine wpAny_bind (wpAny_updateSeq hS' rfl ?_)
      have hS1 := Heap.get?_update_self (Obj.mapSeq (fun _ => (#[.int (preSum val i + val i) s'.toks] : Array Value))) hS' rfl
      refine wpAny_bind (wpAny_letGo ?_)
      refine wpAny_bind (wpAny_updateSeq hS1 rfl ?_)
      refine wpAny_pure ⟨plainId_quiet F.plain_sum_loop _, ih (i + 1) 2 _ s'.toks _ (.inr rfl) (by omega) hlt (W.frame _ s' _ _ hst' (by first | exact Nat.le_refl _ | exact Nat.le_succ _ | omega) fun b hb o e => ?_) (Heap.get?_update_self _ hS1 rfl) fun s'' t'' hm'' => ?_⟩
      · have nb : S ≠ b := fun h : S = b => hSf (by rw [h]; exact hb)
        exact (Heap.get?_update_other _ _ nb).trans ((Heap.get?_update_other _ _ nb).trans e)
      · refine hR s'' t'' (Moved.trans W.gtrans ((hm.mono hsub).then_heap (by first | exact Nat.le_refl _ | exact Nat.le_succ _ | omega) fun b o hb e => ?_) hm'')
        have nb : S ≠ b := fun h : S = b => hb (by rw [h]; exact List.mem_cons_self)
        exact (Heap.get?_update_other _ _ nb).trans ((Heap.get?_update_other _ _ nb).trans e)
    rcases hstg with rfl | rfl
    · show wpAny _ A.in1 (if (_ : Bool) = true then (mkInt (preSum val i + val i) >>= _) else _) _ _ _
      split
      · refine wpAny_bind (wpAny_mkInt ?_)
        show wpAny _ A.in1 (updateSeq S (fun _ => #[.int (preSum val i + val i) s'.toks]) >>= _) _ _ _
        refine wpAny_bind ?_
        refine wpAny_updateSeq hS' rfl (wpAny_pure ⟨plainId_quiet F.plain_sum_loop _, ih (i + 1) 0 _ s'.toks _ (.inl rfl) (by omega) hlt (W.frame _ s' _ _ hst' (by first | exact Nat.le_refl _ | exact Nat.le_succ _ | omega) fun b hb o e => ?_) (Heap.get?_update_self _ hS' rfl) fun s'' t'' hm'' => ?_⟩)
        · exact (Heap.get?_update_other _ _ (fun h : S = b => hSf (by rw [h]; exact hb))).trans e
        · refine hR s'' t'' (Moved.trans W.gtrans ((hm.mono hsub).then_heap (by first | exact Nat.le_refl _ | exact Nat.le_succ _ | omega) fun b o hb e => ?_) hm'')
          exact (Heap.get?_update_other _ _ (fun h : S = b => hb (by rw [h]; exact List.mem_cons_self))).trans e
      · exact wpAny_bind (wpAny_rule (plain _ rfl))
    · exact plain _ rfl
end
section
variable {prog : Program} {w : World} {A : Around} {E : Value → Shared → Prop} {s : Shared}
theorem call_sum_any {x : Value} {Q : Value → Shared → Prop}
    (h : wpAny (model prog w) A.in1 (pyIter x) (fun it s₂ => ∃ I fp wr G n P St val, it = .ref I ∧ WalksS prog w A.in1 I fp wr G n P St ∧ St 0 s₂ ∧ (∀ b ∈ fp, b < s₂.heap.objs.size) ∧
      (∀ i v, P i v → ∃ t, v = .int (val i) t) ∧ ∀ s' t', Moved wr G s₂ s' → Q (.int (preSum val n) t') s') E s) :
    wpAny (model prog w) A (call (.builtin "sum") [x]) Q E s := by
  refine call_function_tree F.kind_sum F.plain_sum F.entry_sum (F.args_sum1 _) ?_
  unfold Builtin.«sum»
  simp only [List.length_cons, List.length_nil]
  rw [if_neg (by decide)]
  refine wpAny_bind (wpAny_of_eq (show Builtin.Builtins.bindParams "sum" ["start"] 0 { } = pure [none] from rfl) ?_)
  refine wpAny_bind (wpAny_mono h (fun it s₂ h₂ => ?_) fun _ _ e => e)
  obtain ⟨I, fp, wr, G, n, P, St, val, rfl, W, hst, hfp, hval, hQ⟩ := h₂
  refine wpAny_bind (wpAny_mkInt ?_)
  refine wpAny_bind (wpAny_pure ?_)
  simp only [List.forIn_cons, List.forIn_nil]
  refine wpAny_bind (wpAny_bind (wpAny_bind (wpAny_isInstance (T := "int") (b := false) (typeIs_int _ _ _) PySem.sub_int_str ?_)))
  simp only [Bool.false_eq_true, if_false]
  refine wpAny_pure (wpAny_bind (wpAny_bind (wpAny_isInstance (T := "int") (b := false) (typeIs_int _ _ _) PySem.sub_int_bytes ?_)))
  simp only [Bool.false_eq_true, if_false]
  refine wpAny_pure (wpAny_bind (wpAny_bind (wpAny_isInstance (T := "int") (b := false) (typeIs_int _ _ _) PySem.sub_int_bytearray ?_)))
  simp only [Bool.false_eq_true, if_false]
  refine wpAny_pure (wpAny_pure ?_)
  refine wpAny_bind (wpAny_newObj_type ?_)
  have hSf : s₂.heap.objs.size ∉ fp := fun hm => Nat.lt_irrefl _ (hfp _ hm)
  refine wpAny_pure ⟨plainId_quiet F.plain_sum_loop _, sum_loop_any W val hval s₂.heap.objs.size hSf n 0 0 _ s₂.toks 0 (.inl rfl) rfl (Nat.zero_le _)
    (W.frame 0 s₂ _ _ hst (by first | exact Nat.le_refl _ | exact Nat.le_succ _ | omega) fun b _ o e => Heap.get?_push_of_some _ e) (Heap.get?_push_size _ rfl) fun s' t' hm => ?_⟩
  exact hQ s' t' (hm.drop_new (by first | exact Nat.le_refl _ | exact Nat.le_succ _ | omega))
end
theorem preSum_take (ns : List Int) : ∀ k, k ≤ ns.length → preSum (fun i => ns.getD i 0) k = (ns.take k).sum
  | 0, _ => by simp [preSum]
  | k + 1, h => by
    have hk : k < ns.length := by omega
    show preSum (fun i => ns.getD i 0) k + ns.getD k 0 = _
    rw [preSum_take ns k (by omega), List.take_add_one, List.getElem?_eq_getElem hk, List.sum_append, List.getD_eq_getElem?_getD, List.getElem?_eq_getElem hk]
    simp
theorem call_sumT {X : Cx} (hc : X.calm = true) : CallR X (.builtin "sum") (fun xs H Q => ∃ (p : Addr) (ns : List Int), xs = [.ref p] ∧ SqT X.K H p (ns.map V.int) ∧ Q (.int ns.sum) H) := by
  intro pins s σ H xs us Q I r h
  obtain ⟨p, ns, rfl, hq, q⟩ := h
  obtain ⟨u, rfl, r1⟩ := r.one
  cases r1
  obtain ⟨its, rv, pl, hz⟩ := I.tuple hq
  have hi : IntsAre its.toArray.toList ns := intsAre_of rv
  have hh := I.ok.hd hc
  have hlt : p < s.heap.objs.size := pl.lt
  have hln : its.toArray.size = ns.length := by rw [← hi.length]; simp
  refine call_sum_any (wpAny_pyIter_tuple (show s.heap.IsTuple p its.toArray from pl) ?_)
  refine ⟨s.heap.objs.size, _, _, _, its.toArray.size, _, _, fun i => ns.getD i 0, rfl, (Walks.tuple (prog := X.prog) (w := X.w) (A := X.A.in1) hh s.heap.objs.size p (Nat.ne_of_lt hlt) its.toArray).toS, ?_, ?_, ?_, ?_⟩
  · exact ⟨⟨_, Heap.get?_push_size _ rfl, rfl, rfl⟩, (show s.heap.IsTuple p its.toArray from pl).at fun o e => Heap.get?_push_of_some _ e⟩
  · intro b hb
    rw [Heap.size_push]
    rcases List.mem_cons.mp hb with rfl | hb
    · exact Nat.lt_succ_self _
    · rw [List.mem_singleton.mp hb]; exact Nat.lt_succ_of_lt hlt
  · intro i v hv
    have hil : i < its.toArray.toList.length := by
      have := (Array.getElem?_eq_some_iff.mp hv).1
      simpa using this
    obtain ⟨z, t, e1, e2⟩ := HT.IntsAre.at' hi hil
    have hv' : its.toArray.toList[i] = v := by
      have := (Array.getElem?_eq_some_iff.mp hv).2
      simpa using this
    refine ⟨t, ?_⟩
    rw [← hv', e1]
    have hin : i < ns.length := by rw [← hi.length]; exact hil
    rw [List.drop_eq_getElem_cons hin] at e2
    injection e2 with e3 _
    show Value.int z t = Value.int (ns.getD i 0) t
    rw [List.getD_eq_getElem?_getD, List.getElem?_eq_getElem hin, ← e3]
    rfl
  · intro s' t' hm
    have e : preSum (fun i => ns.getD i 0) its.toArray.size = ns.sum := by rw [hln, preSum_take ns _ (Nat.le_refl _), List.take_length]
    rw [e]
    have kp : ∀ b o, s.heap.get? b = some o → s'.heap.get? b = some o := fun b o e => by
      refine hm.heap b o ?_ (Heap.get?_push_of_some _ e)
      intro hmem
      rw [List.mem_singleton.mp hmem] at e
      exact absurd (Heap.lt_size e) (Nat.lt_irrefl _)
    have es : s' = { s with heap := s'.heap, toks := s'.toks } := by
      have z := Moved.eq_with hm
      exact z
    have I1 : Inv X pins σ H { s with heap := s'.heap, toks := s'.toks } := I.kept kp
    have I2 : Inv X pins σ H s' := by rw [es]; exact I1
    exact ⟨.int ns.sum, H, I2, ⟨t', rfl⟩, q⟩
theorem call_sumTK {X : Cx} (K : PySem.W.Frag) (hc : X.calm = true) (h : X.K = K := by rfl) : CallR X (.builtin "sum") (fun xs H Q => ∃ (p : Addr) (ns : List Int), xs = [.ref p] ∧ SqT K H p (ns.map V.int) ∧ Q (.int ns.sum) H) := by subst h; exact call_sumT hc
end L2

namespace Att
open PySem PySem.W PySem.Calls PyProof.Rows
end Att
namespace L2
open PySem PySem.Spec PyProof.Rows
end L2

namespace L2
open PySem PySem.Spec PyProof.Rows
end L2

namespace L2
open PySem PySem.Spec PyProof.Rows
section
variable {X : Cx} {pins : List (Addr × Obj)} {s : Shared} {σ : St} {H : Hp}
open Classical in
noncomputable def evD (H : Hp) (ds : List Dt) (e : Dt) (u : Value) : Bool := decide (∃ (d : Dt) (b : Addr), d ∈ ds ∧ u = .ref b ∧ IsD H d (.ref b) ∧ eqD d e = true)
end
end L2

namespace RevT
open PySem PySem.Spec PyProof.Rows
section
variable {prog : Program} {w : World} {A : Around} {E : Value → Shared → Prop} {s : Shared}
def IsRevT (h : Heap) (a t : Addr) (i : Int) : Prop := ∃ o, h.get? a = some o ∧ o.cls = .type "reversed" ∧ o.data = .fields #[.ref t, rawInt i]
theorem IsRevT.typeIs {a t : Addr} {i : Int} (x : IsRevT s.heap a t i) : s.TypeIs (.ref a) "reversed" := let ⟨o, ho, hc, _⟩ := x; ⟨o, ho, hc⟩
theorem IsRevT.at {h h' : Heap} {a t : Addr} {i : Int} (x : IsRevT h a t i) (e : ∀ o, h.get? a = some o → h'.get? a = some o) : IsRevT h' a t i := let ⟨o, ho, r⟩ := x; ⟨o, e _ ho, r⟩
end
section
variable {prog : Program} {w : World} {A : Around} {E : Value → Shared → Prop} {s : Shared}
end
end RevT
namespace L2
open PySem PySem.Spec PyProof.Rows
section
variable {X : Cx} {e : Expr} {te : TE} {p1 p2 pos pos2 : Pos}
end
end L2

namespace L2
open PySem PySem.Spec PyProof.Rows Builtin.Str
theorem strs_of : ∀ {texts : List Str} {us : List Value}, Vals (texts.map V.str) us → ∃ l : List (Str × Tok), us = strValues l ∧ l.map (·.1) = texts
  | [], _, .nil => ⟨[], rfl, rfl⟩
  | x :: r, _, .cons h t => by
    obtain ⟨k, rfl⟩ := h
    obtain ⟨l, rfl, e⟩ := strs_of t
    exact ⟨(x, k) :: l, rfl, by rw [List.map_cons, e]⟩
theorem vals_strs : ∀ (l : List (Str × Tok)), Vals ((l.map (·.1)).map V.str) (strValues l)
  | [] => .nil
  | p :: l => .cons ⟨p.2, rfl⟩ (vals_strs l)
section
variable {X : Cx}
def rJoin (K : PySem.W.Frag) : V → List V → Hp → VK → Prop := fun x vs H Q => ∃ (sep : Str) (p : Addr) (texts : List Str), x = .str sep ∧ vs = [.ref p] ∧ SqL K H p (texts.map V.str) ∧ JoinOk sep texts = true ∧ Q (.str (Str.join sep texts)) H
theorem mt_join : MtR X "str.join" (rJoin X.K) := by
  intro pins s σ H x vs v us Q I rx rv h
  obtain ⟨sep, p, texts, rfl, rfl, hq, hok, q⟩ := h
  obtain ⟨t, rfl⟩ := rx
  obtain ⟨u, rfl, ru⟩ := rv.one
  cases ru
  obtain ⟨its, r, pl, hz⟩ := I.list hq
  obtain ⟨l, rfl, e⟩ := strs_of r
  refine SC.join pl.isList e hok fun t' k => ⟨.str (Str.join sep texts), H, I.kept (t' := k) (fun _ _ e => e), ⟨t', ?_⟩, q⟩
  show Value.str (glued sep texts) t' = _
  rw [StrLaws.glued_eq_join]
def rSplit : V → List V → Hp → VK → Prop := fun x vs H Q => ∃ (z sep : Str), x = .str z ∧ vs = [.str sep] ∧ (sep.length == 0) = false ∧ z.length ≤ 2000 ∧ ∀ l, H l = none → Q (.ref l) (upd H l (.lst ((Txt.split z sep).map V.str)))
theorem mt_split : MtR X "str.split" rSplit := by
  intro pins s σ H x vs v us Q I rx rv h
  obtain ⟨z, sep, rfl, rfl, hsep, hz, q⟩ := h
  obtain ⟨t, rfl⟩ := rx
  obtain ⟨u, rfl, k, rfl⟩ := rv.one
  have hbig : 2002 ≤ sizeLine := by decide
  have fin : ∀ (l : List (Str × Tok)) (tk : Nat), l.map (·.1) = Txt.split z sep → l.length ≤ sizeLine → EP X pins σ Q (.ref s.heap.objs.size) { s with heap := s.heap.push { cls := .type "list", data := .seq (strValues l).toArray }, toks := tk } := fun l tk e hl => by
    have hn : H s.heap.objs.size = none := I.hok.fresh (Nat.le_refl _)
    have rl := vals_strs l
    rw [e] at rl
    have hlen : ((Txt.split z sep).map V.str).length ≤ sizeLine := by rw [List.length_map, ← e, List.length_map]; exact hl
    have I2 : Inv X pins σ (upd H s.heap.objs.size (.lst ((Txt.split z sep).map V.str))) { s with heap := s.heap.push { cls := .type "list", data := .seq (strValues l).toArray }, toks := tk } :=
      I.laid (t' := tk) (fun b o e => Heap.get?_push_of_some _ e) (Nat.le_refl _) (show ObjOk X.prog X.w _ _ _ (.lst ((Txt.split z sep).map V.str)) from ⟨hlen, strValues l, _, rl, Heap.get?_push_size _ rfl⟩)
    exact ⟨.ref s.heap.objs.size, _, I2, rfl, q _ hn⟩
  have hle : (Txt.split z sep).length ≤ sizeLine := by have := split_le z sep; omega
  cases h1 : (decide (z.length < sep.length) || decide (strKind z < strKind sep))
  · cases hf : (occurrences z sep 0 z.length (z.length + 1)).isEmpty
    · have es : Txt.split z sep = partsBetween z (occurrences z sep 0 z.length (z.length + 1)) sep.length := (if_neg (ne_true_of_eq_false h1)).trans (if_neg (ne_true_of_eq_false hf))
      refine call_meets F.slot_str_split (typeIs_str _ _ _) F.entry_str_split (F.args_str_split_2 _ _) (meets_str_split_sep z sep t k h1 hsep hf (by omega) (by rw [← es]; exact hle)) ?_
      show EP X pins σ Q (.ref s.heap.objs.size) { s with toks := _, heap := s.heap.push { cls := .type "list", data := .seq (strsFrom s.toks (partsBetween z (occurrences z sep 0 z.length (z.length + 1)) sep.length)).toArray } }
      rw [strsFrom_eq]
      refine fin (numbered s.toks _) _ ((numbered_texts _ _).trans es.symm) ?_
      rw [← List.length_map (f := (·.1)), numbered_texts, ← es]
      exact hle
    · refine call_meets F.slot_str_split (typeIs_str _ _ _) F.entry_str_split (F.args_str_split_2 _ _) (meets_str_split_not_found z sep t k h1 hsep hf) ?_
      exact fin [(z, t)] s.toks ((if_neg (ne_true_of_eq_false h1)).trans (if_pos hf)).symm (by show 1 ≤ sizeLine; decide)
  · refine call_meets F.slot_str_split (typeIs_str _ _ _) F.entry_str_split (F.args_str_split_2 _ _) (meets_str_split_cannot_occur z sep t k h1) ?_
    exact fin [(z, t)] s.toks (if_pos h1).symm (by show 1 ≤ sizeLine; decide)
theorem call_intT : CallR X (.type "int") (fun xs H Q => ∃ (z : Str) (i : Int), xs = [.str z] ∧ intText? z = some i ∧ z.length ≤ 640 ∧ Q (.int i) H) := by
  intro pins s σ H xs us Q I r h
  obtain ⟨z, i, rfl, hn, hl, q⟩ := h
  obtain ⟨u, rfl, t, rfl⟩ := r.one
  exact PySem.W.KIN.call_text hn hl ⟨.int i, H, I.tok _, ⟨_, rfl⟩, q⟩
def Its (x : Str) : It := ⟨fun i _ => i < x.cps.size, fun i H v H' => H' = H ∧ ∃ c, x.cps[i]? = some c ∧ v = .str ⟨#[c]⟩, fun i _ => x.cps.size ≤ i⟩
end
theorem turn_str {P : Program} {w : World} {K : PySem.W.Frag} {tg : Expr} (x : Str) (it : Addr) (St : Nat → Heap → Prop) (T : String) (t : Tok) (hT : ∀ i h, St i h ↔ h.IsStrIter it T x t i) (hTn : T = "str_ascii_iterator" ∨ T = "str_iterator")
    (W : ∀ A' : Around, A'.handled = none → Walks P w A' it [it] [it] x.cps.size (SignAt x) St) : Turn P w K tg (Its x) [it] it (fun i h => i ≤ x.cps.size ∧ St i h) where
  mem := by simp
  obj := fun i h st b hb => by
    have e : b = it := by simpa using hb
    subst e
    obtain ⟨o, e, c, d⟩ := (hT i h).mp st.2
    exact ⟨o, e, fun v z => by rw [d] at z; cases z⟩
  keep := fun i h h' st k => ⟨st.1, (hT i h').mpr (by
    obtain ⟨o, e, r⟩ := (hT i h).mp st.2
    exact ⟨o, k it (by simp) o e, r⟩)⟩
  item := by
    intro X hP hw hK hc i pins s σ H E I hf st hg
    subst hP hw hK
    obtain ⟨f0, f1, f2, f3, f4, f5⟩ := hf it (by simp)
    have W' := W X.A (I.ok.hd hc)
    refine W'.item i s _ _ hg st.2 fun v h' tk hv st' kk => ?_
    obtain ⟨c, u, hcx, rfl⟩ := hv
    have I1 : Inv X pins σ H { s with heap := h', toks := tk } := I.turned (fun b o hb e => kk b o (by simpa using hb) e) f0 f1 f3 f4 f5
    obtain ⟨o, e1, c1, d1⟩ := (hT (i + 1) h').mp st'
    refine ⟨_, rfl, go_of (s := { s with heap := h', toks := tk }) (n := T) e1 c1 d1 ?_ ⟨.str ⟨#[c]⟩, H, I1, ⟨u, rfl⟩, ⟨rfl, c, hcx, rfl⟩, ⟨hg, st'⟩, fun b hb => (hf b hb).1⟩⟩
    rcases hTn with rfl | rfl <;> decide
  done := by
    intro X hP hw hK hc i pins s σ H E I hf st hg
    subst hP hw hK
    obtain ⟨f0, f1, f2, f3, f4, f5⟩ := hf it (by simp)
    have hi : i = x.cps.size := Nat.le_antisymm st.1 hg
    have st2 := st.2
    rw [hi] at st2
    exact (W X.A (I.ok.hd hc)).done s _ _ st2 fun h' tk eb => ⟨rfl, I.turned (t' := tk) (fun b o hb e => eb b o (by simpa using hb) e) f0 f1 f3 f4 f5⟩
  self := fun A i s Q E st h => by
    have st' := (hT i s.heap).mp st.2
    rcases hTn with rfl | rfl
    · exact wpAny_pyIter_striter_ascii st' h
    · exact wpAny_pyIter_striter_wide st' h
section
variable {X : Cx} {tg : Expr}
def iStr (tl : TE) : TI := fun σ H R => tl σ H fun x H1 => ∃ z, x = .str z ∧ R (Its z) H1
theorem pi_str {l : Expr} {tl : TE} (hl : PE X l tl) : PI X tg l (iStr tl) := by
  intro pins s σ H R I h
  refine thn (hl pins s σ H _ I h) fun v s1 ⟨x, H1, I1, r1, q1⟩ => ?_
  obtain ⟨z, rfl, q⟩ := q1
  obtain ⟨t, rfl⟩ := r1
  cases ha : z.cps.all (· < 128)
  · refine wpAny_pyIter_wide ha ?_
    refine ⟨_, [s1.heap.objs.size], _, Its z, H1, rfl, I1.kept (t' := s1.toks) (fun b o e => Heap.get?_push_of_some _ e), turn_str z _ _ "str_iterator" t (fun i h => Iff.rfl) (.inr rfl) (fun A' hA => Walks.strWide hA _ z t), ⟨Nat.zero_le _, ⟨_, Heap.get?_push_size _ rfl, rfl, rfl⟩⟩, fun b hb => ?_, q⟩
    rw [List.mem_singleton.mp hb]
    exact I1.fpOk (Nat.le_refl _) (I1.hok.fresh (Nat.le_refl _))
  · refine wpAny_pyIter_ascii ha ?_
    refine ⟨_, [s1.heap.objs.size], _, Its z, H1, rfl, I1.kept (t' := s1.toks) (fun b o e => Heap.get?_push_of_some _ e), turn_str z _ _ "str_ascii_iterator" t (fun i h => Iff.rfl) (.inl rfl) (fun A' hA => Walks.strAscii hA _ z t), ⟨Nat.zero_le _, ⟨_, Heap.get?_push_size _ rfl, rfl, rfl⟩⟩, fun b hb => ?_, q⟩
    rw [List.mem_singleton.mp hb]
    exact I1.fpOk (Nat.le_refl _) (I1.hok.fresh (Nat.le_refl _))
end
theorem comp_str {nT : Nat} {js : List Nat} {g : TG} {tb : TB} {Q : VK} {σ : St} {H : Hp} {x : Str} (Pv : Nat → List V → Hp → Prop) (h0 : Pv 0 [] H) (hz : x.cps.size ≤ sizeLine) (hlen : ∀ i ys H, Pv i ys H → ys.length ≤ i)
    (hs : ∀ i c ys H, x.cps[i]? = some c → Pv i ys H → g (.str ⟨#[c]⟩) (cells0 nT js σ) H fun σ4 H4 => σ4.drop nT = seenV js σ ∧ tb (fun v H5 => Pv (i + 1) (ys ++ [v]) H5) (fun H5 => Pv (i + 1) ys H5) σ4 H4)
    (hd : ∀ ys H, Pv x.cps.size ys H → ∀ l, H l = none → Q (.ref l) (upd H l (.lst ys))) :
    CompW nT js (Its x) g tb σ H Q := by
  refine ⟨fun i m ys H => m = x.cps.size - i ∧ i ≤ x.cps.size ∧ Pv i ys H, ⟨x.cps.size, by simp, Nat.zero_le _, h0⟩, ?_⟩
  rintro i m ys H2 ⟨rfl, hi, p⟩
  have hl' := hlen i ys H2 p
  by_cases hlt : i < x.cps.size
  · refine .inr ⟨hlt, by omega, Pv (i + 1), fun ys' H' p' => ⟨x.cps.size - (i + 1), by omega, rfl, hlt, p'⟩, fun v H3 y => ?_⟩
    obtain ⟨rfl, c, hc, rfl⟩ := y
    exact hs i c ys _ hc p
  · have e : i = x.cps.size := by omega
    subst e
    exact .inl ⟨Nat.le_refl _, by omega, hd ys H2 p⟩
end L2

namespace L2
open PySem PySem.Spec PyProof.Rows
section
variable {X : Cx} {j k : Nat} {ps : List Str} {sp : Sp} {x m : Str} {C : Addr} {p pos apos : Pos} {o e : Expr} {es : List Expr} {ta : TE} {t : TA} {E : XK}
end
end L2

namespace L2
open PySem PySem.Spec PyProof.Rows
open AutoSeq1 (wpAny_loadPart')
section
variable {prog : Program} {w : World} {A : Around} {E : Value → Shared → Prop} {s : Shared}
end
section
variable {X : Cx} {elts : List Expr} {x1 : Nat} {pos : Pos}
end
end L2

namespace L2
open PySem PySem.Spec PyProof.Rows
theorem for_listL {K : PySem.W.Frag} {a : Addr} {xs : List V} {g : TG} {tb : TS} {D : Ends} {σ : St} {H : Hp} (Pv : Nat → St → Hp → Prop) (h0 : Pv 0 σ H) (hl : ∀ i σ H, i ≤ xs.length → Pv i σ H → SqL K H a xs)
    (hs : ∀ Pw : Nat → St → Hp → Prop, (∀ i σ H, Pv i σ H → Pw i σ H) → ∀ i x σ H, xs[i]? = some x → Pv i σ H → g x σ H fun σ2 H2 => tb { D with nx := Pw (i + 1), ct := Pw (i + 1), bk := D.nx } σ2 H2) (hd : ∀ σ H, Pv xs.length σ H → D.nx σ H) :
    ∃ W : Nat → Nat → St → Hp → Prop, (∃ m, W 0 m σ H) ∧ ∀ i m σ H, W i m σ H →
      ((Itl K a).stop i H ∧ D.nx σ H) ∨ ((Itl K a).go i H ∧ ∃ N : St → Hp → Prop, (∀ σ' H', N σ' H' → ∃ m', m' < m ∧ W (i + 1) m' σ' H') ∧ ∀ x H', (Itl K a).yld i H x H' → g x σ H' fun σ2 H2 => tb { D with nx := N, ct := N, bk := D.nx } σ2 H2) := for_list Pv h0 hl (hs Pv fun _ _ _ q => q) hd
theorem joinL {t u : TS} {D : Ends} {σ : St} {H : Hp} (J : St → Hp → Prop) (h1 : ∀ N : St → Hp → Prop, (∀ σ H, J σ H → N σ H) → t { D with nx := N } σ H) (h2 : ∀ σ' H', J σ' H' → u D σ' H') : tJoin t u D σ H := ⟨J, h1 J fun _ _ q => q, h2⟩
end L2

namespace L2
open PySem PySem.Spec PyProof.Rows
section
variable {prog : Program} {w : World} {A : Around} {E : Value → Shared → Prop} {s : Shared}
def PairAt (h : Heap) (v : Value) : Prop := ∃ a x t y u, v = .ref a ∧ IsTup h a #[.int x t, .int y u]
structure WBase (a₀ : Array Keyed) (st : SortSt) : Prop where
  perm : (arrOf st).Perm a₀
  kind : ∃ b, kindOf st = tuples' b
  failed : failedOf st = none
  pend : pendingOf st = #[]
theorem WBase.size {a₀ : Array Keyed} {st : SortSt} (h : WBase a₀ st) : (arrOf st).size = a₀.size := h.perm.size_eq
def PairKeys (h : Heap) (a₀ : Array Keyed) : Prop := ∀ p, p ∈ a₀.toList → PairAt h p.1
theorem WBase.at {a₀ : Array Keyed} {st : SortSt} {g : Heap} (h : WBase a₀ st) (h0 : PairKeys g a₀) {i : Nat} (hi : i < a₀.size) :
    ∃ p, (arrOf st)[i]? = some p ∧ PairAt g p.1 := by
  have hi' : i < (arrOf st).size := by rw [h.size]; exact hi
  have hm : (arrOf st)[i] ∈ a₀.toList := (Array.perm_iff_toList_perm.mp h.perm).mem_iff.mp (by simp)
  exact ⟨_, getElem?_pos _ i hi', h0 _ hm⟩
section
variable {a₀ : Array Keyed}
def WDone (a₀ : Array Keyed) (st : SortSt) : Prop := (arrOf st).Perm a₀ ∧ failedOf st = none ∧ pendingOf st = #[(0, a₀.size, 0)]
theorem WBase.done {st : SortSt} (hB : WBase a₀ st) : WDone a₀ (setPending st ((pendingOf st).push (0, a₀.size, 0))) :=
  ⟨hB.perm, hB.failed, by show (pendingOf st).push _ = _; rw [hB.pend]; rfl⟩
end
end

theorem Vals.perm {us ws : List Value} (p : List.Perm us ws) : ∀ {xs : List V}, Vals xs ws → ∃ zs, List.Perm zs xs ∧ Vals zs us := by
  induction p with
  | nil => intro xs r; exact ⟨xs, List.Perm.refl _, r⟩
  | cons u p ih =>
    intro xs r
    cases r with
    | cons r t =>
      obtain ⟨zs, h1, h2⟩ := ih t
      exact ⟨_ :: zs, h1.cons _, .cons r h2⟩
  | swap u v l =>
    intro xs r
    cases r with
    | cons r t =>
      cases t with
      | cons r2 t => exact ⟨_, List.Perm.swap _ _ _, .cons r2 (.cons r t)⟩
  | trans p q ih1 ih2 =>
    intro xs r
    obtain ⟨ys, h1, h2⟩ := ih2 r
    obtain ⟨zs, h3, h4⟩ := ih1 h2
    exact ⟨zs, h3.trans h1, h4⟩
section
variable {X : Cx}
end
end L2

namespace L2
open PySem PySem.Spec PyProof.Rows
def compPostX (M : Model) (A : Around) (E : Value → Shared → Prop) (Q : Value → Shared → Prop) (acc : Value) (cenv : Env) : Result → Shared → Prop
  | .ok _, s' => ∃ m, s'.heap.Ns cenv.locals m ∧ ∀ h', Heap.SameBut cenv.locals s'.heap h' → Q acc { s' with heap := h' }
  | .error x, s' => ∃ m, s'.heap.Ns cenv.locals m ∧ ∀ h' m', h'.Ns cenv.locals m' → Heap.SameBut cenv.locals s'.heap h' → wpAny M A (PySem.passOn (α := Value) "comprehension.variables-let-go" x cenv) (fun _ _ => False) E { s' with heap := h' }
theorem lookup_local {env : Env} {x : Str} : ∀ {names : List (Str × NameKind)}, names.lookup x = some .local →
    (names.map fun (n, k) => if (k == NameKind.free && env.scope.kind == .function && env.kindOf n == some .cell) then (n, NameKind.cell) else (n, k)).lookup x = some .local
  | [], h => by cases h
  | (n, k1) :: r, h => by
    rw [List.map_cons]
    cases hx : x == n with
    | true =>
      simp only [List.lookup_cons, hx] at h
      cases h
      dsimp only
      rw [if_neg (by simp)]
      simp only [List.lookup_cons, hx]
    | false =>
      simp only [List.lookup_cons, hx] at h
      have ih := @lookup_local env x r h
      dsimp only
      split
      · simp only [List.lookup_cons, hx]; exact ih
      · simp only [List.lookup_cons, hx]; exact ih
theorem wpAny_comprehension_x {M : Model} {A : Around} {E : Value → Shared → Prop} {s : Shared} {env : Env} {e : Expr} {scope : Scope} {pos : Pos} {newAcc first : Sem Value} {g : Comprehension} {gs : List Comprehension} {cl : List (Str × Addr)} {Q : Value → Shared → Prop}
    (hcl : clausesOf e = g :: gs) (hs : ∀ x, foldedSetIterable g.iter env x = pure x) (hcf : closureFor scope env = pure cl) (hk : scope.kind = .function)
    (hn : ∀ x ∈ scope.names, x.2 = .local → scope.names.lookup x.1 = some .local)
    (h : wpAny M A first (fun x s₁ => wpAny M A (pyIter x) (fun it s₂ => wpAny M A newAcc (fun acc s₃ => wpAny M A (newFunctionEnv scope env.globals cl [] env.qual none .none (some env)) (fun cenv s₄ =>
      codeAny M A (.compStart e 0 it acc { cenv with scope := relabel scope env }) (compPostX M A E Q acc { cenv with scope := relabel scope env }) s₄) E s₃) E s₂) E s₁) E s) :
    wpAny M A (comprehension e scope env pos newAcc false first none) Q E s := by
  unfold comprehension
  refine wpAny_bind (thn h fun x s1 h1 => ?_)
  refine wpAny_bind (wpAny_standAt ?_)
  rw [hcl]
  dsimp only
  rw [hs, pure_bind]
  refine wpAny_bind (wpAny_holding (thn h1 fun it s2 h2 => ?_))
  rw [if_neg (by simp)]
  refine wpAny_bind (thn h2 fun acc s3 h3 => ?_)
  rw [hcf, pure_bind]
  refine wpAny_bind (thn h3 fun cenv s4 h4 => ?_)
  refine wpAny_holding (wpAny_bind (wpAny_attempt (wpAny_holding (wpAny_run ?_))))
  refine codeAny_mono h4 fun r s5 h5 => ?_
  have hkk : (relabel scope env).kind = .function := hk
  have hloc : ∀ (x : Str × NameKind), x ∈ (List.filter (fun x => match x with | (n, k) => (k == NameKind.local || k == NameKind.cell) && n != Str.ofString ".0") scope.names).reverse → x.2 = .local → Env.kindOf { cenv with scope := relabel scope env } x.1 = some .local := fun x hx hl => by
    have hx' : x ∈ scope.names := (List.mem_filter.mp (List.mem_reverse.mp hx)).1
    exact lookup_local (env := env) (hn x hx' hl)
  cases r with
  | ok f =>
    obtain ⟨m, hm, hq⟩ := h5
    refine wpAny_bind (wpAny_holding (wpAny_comp_letGo (cenv := { cenv with scope := relabel scope env }) hkk _ s5 m hloc hm fun h' m' hm' hs' => wpAny_pure (hq h' hs')))
  | error x =>
    obtain ⟨m, hm, hq⟩ := h5
    refine wpAny_bind (wpAny_holding (wpAny_comp_letGo (cenv := { cenv with scope := relabel scope env }) hkk _ s5 m hloc hm fun h' m' hm' hs' => ?_))
    exact wpAny_mono (hq h' m' hm' hs') (fun _ _ z => z.elim) fun _ _ z => z
section
variable {prog : Program} {w : World} {A : Around} {R : Result → Shared → Prop} {s : Shared}
theorem compLoop_genX {elt target iter : Expr} {ifs : List Expr} {scope : Scope} {pos : Pos} {it acc : Value} {env : Env} (I : Nat → Shared → Prop)
    (turn : ∀ n s, I n s → wpAny (model prog w) A (pyNext it) (fun r s₁ => match r with
      | none => R (.ok .next) s₁
      | some v => wpAny (model prog w) A (letOwnedTupleGo target it v) (fun _ s₁' => wpAny (model prog w) A (assign target env v) (fun _ s₂ =>
          wpAny (model prog w) A (forIn ifs true fun c r => if r = true then do let ok ← isTrue c env (eval c env); pure (ForInStep.yield ok) else pure (ForInStep.yield r)) (fun ok s₃ =>
            if ok = true then wpAny (model prog w) A (eval elt env) (fun x s₄ =>
              wpAny (model prog w) A (call (.builtin "list.append") [acc, x]) (fun _ s₅ => ∃ m, m < n ∧ I m s₅) (fun _ _ => False) s₄) (notedBy (model prog w) A env fun e s' => R (.error e) s') s₃
            else ∃ m, m < n ∧ I m s₃) (notedBy (model prog w) A env fun e s' => R (.error e) s') s₂) (fun _ _ => False) s₁') (fun _ _ => False) s₁) (fun _ _ => False) s)
    (n : Nat) (h : I n s) : codeAny (model prog w) A (.compLoop (.ListComp elt [⟨target, iter, ifs, 0⟩] scope pos) 0 it acc env) R s := by
  refine codeAny_loop rfl I (fun n s hI => ?_) n h
  show wpAny _ A ((compTurn (.ListComp elt [⟨target, iter, ifs, 0⟩] scope pos) 0 it acc env).onRaise (fun x => do noteFrame x env; theTreesLotGoes x)) _ _ s
  refine wpAny_noted ?_
  rw [compTurn_list]
  refine wpAny_bind (wpAny_standAt (wpAny_bind (thn (wpAny_noRaise (turn n s hI)) fun r s₁ h₁ => ?_)))
  cases r with
  | none => exact wpAny_pure h₁
  | some v =>
    refine wpAny_bind (thn (wpAny_noRaise h₁) fun _ s₁' h₁' => ?_)
    refine wpAny_bind (thn (wpAny_noRaise h₁') fun _ s₂ h₂ => wpAny_bind (thn h₂ fun ok s₃ h₃ => ?_))
    cases ok with
    | false => exact wpAny_pure ⟨rfl, h₃⟩
    | true => exact wpAny_bind (wpAny_bind (thn h₃ fun x s₄ h₄ => wpAny_bind (thn (wpAny_noRaise h₄) fun _ s₅ h₅ => wpAny_pure (wpAny_pure ⟨rfl, h₅⟩))))
end
structure FliesH (P : Program) (w : World) (outer : List Env) (H : Hp) (s : Shared) (a C : Addr) (a0 : Value) (L : Addr) (B : Heap) (H' : Hp) (s' : Shared) : Prop where
  os : s'.os = s.os
  bare : AllBare s'.gens
  un : Un (frs outer) [] H H' s.heap s'.heap
  hok : HOk P w H' s'.heap
  fl : Heap.HeldW B outer a (.ref C) a0 L s'.heap
  cov : ∀ b o, s.heap.get? b = some o → b ∉ frs outer → ∃ o', B.get? b = some o' ∧ (H b = none → o' = o)
  cov2 : ∀ b, H' b ≠ none → ∃ o, B.get? b = some o
  new : s.heap.get? a = none
def TakesH (X : Cx) (EE : St → XK) : Prop := ∀ (pins : List (Addr × Obj)) (σ : St) (H : Hp) (s : Shared) (a C : Addr) (a0 : Value) (L : Addr) (B : Heap) (H' : Hp) (s' : Shared), X.env.frame = some L → Inv X pins σ H s → FliesH X.prog X.w X.stack H s a C a0 L B H' s' → EE σ (.ref C) none H' → X.xe (.ref a) s'
section
variable {P : Program} {w : World} {K : PySem.W.Frag} {mg : Str → Option Value} {base : Heap} {N : List Str} {qual : Str} {scope : Scope} {f : Addr} {cd : Value} {A : Around} {outer : List Env} {s0 : Shared} {H0 : Hp} {E : XK}
theorem takesH_fn : TakesH (cxOf (CXe P w) P w K mg base N qual scope f cd A outer s0 H0 E) (fun _ => E) := by
  intro pins σ H s a C a0 L B H' s' hL I F q
  have hL0 : s0.heap.get? s0.heap.objs.size = none := Heap.get?_none_of_le (Nat.le_refl _)
  show wpAny _ _ (leaving _ (.ref a)) _ _ s'
  unfold leaving
  refine wpAny_bind (wpAny_noteFrame_againW (base := B) hL F.fl.2.2.2 (wpAny_landsW F.fl fun h'' fl0 sm => ?_))
  have fl : Heap.FlyingW B outer a (.ref C) a0 h'' := ⟨fl0.1, fl0.2.1, fl0.2.2.1.2.2, fl0.2.2.2⟩
  refine ⟨a, C, a0, B, H', rfl, ⟨?_, F.bare, ?_, ?_, fl, ?_, F.cov2, ?_⟩, q⟩
  · exact F.os.trans I.os
  · exact Un.fly I.base F.un rfl hL0 F.fl.2.2.1 sm fl.1 F.cov
  · exact F.hok.stays F.cov2 F.fl.1 fl.1
  · intro b o e hb
    obtain ⟨o1, e1⟩ := I.base.there b o e (by simp [cxOf])
    have nL : b ≠ s0.heap.objs.size := fun z => by rw [z, hL0] at e; cases e
    obtain ⟨o', ho', heq⟩ := F.cov b o1 e1 (fun z => (List.mem_cons.mp z).elim nL hb)
    refine ⟨o', ho', fun n => ?_⟩
    have e2 := I.base.keep b o e n hb (by simp [cxOf])
    rw [e1] at e2
    cases e2
    exact heq (I.base.free b o e n (by simp [cxOf]))
  · cases e : s0.heap.get? a with
    | none => rfl
    | some o =>
      obtain ⟨o1, e1⟩ := I.base.there a o e (by simp [cxOf])
      have := F.new
      rw [e1] at this
      cases this
end

section
variable {X : Cx} {pins : List (Addr × Obj)} {σ : St} {H2 : Hp} {s2 : Shared} {scope : Scope} {T : List Str} {js : List Nat}
theorem funFrames_move {h h' base : Heap} : ∀ {l : List Env}, h.FunFrames base l → (∀ b ∈ frs l, ∀ o, h.get? b = some o → h'.get? b = some o) → h'.FunFrames base l
  | [], _, _ => trivial
  | env :: r, ⟨hk, ⟨L, o, hf, hn, ho, hd⟩, hr⟩, hb => by
    have e : frs (env :: r) = L :: frs r := by unfold frs; rw [List.filterMap_cons, hf]
    exact ⟨hk, ⟨L, o, hf, hn, hb L (by rw [e]; exact List.mem_cons_self ..) o ho, hd⟩, funFrames_move hr fun b q => hb b (by rw [e]; exact List.mem_cons_of_mem _ q)⟩
theorem dict_live {h : Heap} {b : Addr} {o : Obj} (e : h.get? b = some o) : o.isFreed = false := by
  unfold Heap.get? at e
  split at e
  · cases e
  · rename_i x hx
    cases o with
    | mk c d dt sl =>
      cases dt with
      | freed => exact absurd e (hx c d sl)
      | _ => rfl
theorem comp_err {E0 : XK} {C L a CC : Addr} {a0 : Value} {B : Heap} {H' : Hp} {Hs : Hp} {ss s4 : Shared} {h4 : Heap} {pc : List (Addr × Obj)} {σc : St} {fp : List Addr} {pn : List (Addr × Obj)} {cenv : Env}
    (I : Inv X pins σ H2 s2) (hfp : ∀ b ∈ fp, FpOk X pins H2 b) (hC : s2.heap.objs.size ≤ C) (hcn : cenv.locals = C) (hcf : cenv.frame = X.env.frame) (hstk : X.stack = X.env :: X.outer) (hfr : X.env.frame = some L) (hH : TakesH X (fun _ => E0))
    (IC : Inv (X.comp scope T js C s2 H2 fp pn) pc σc Hs ss) (F : Flies X.prog X.w X.stack Hs ss a CC a0 B H' s4) (q : E0 (.ref CC) none H')
    (held : Heap.HeldW B X.stack a (.ref CC) a0 L h4) (sm : s4.heap.UpToSlots h4) (Q : Value → Shared → Prop) (acc : Value) : compPostX (model X.prog X.w) X.A X.xe Q acc cenv (.error (.ref a)) { s4 with heap := h4 } := by
  have stkLt : ∀ b ∈ frs X.stack, b < s2.heap.objs.size := fun b hb => by
    obtain ⟨_, o, e, _⟩ := I.stack.mem (b := b) hb
    exact Heap.lt_size e
  have hCs : C ∉ frs X.stack := fun z => absurd (Nat.lt_of_lt_of_le (stkLt C z) hC) (Nat.lt_irrefl _)
  obtain ⟨mC, ⟨oC, es, ep, hoC, hdC, hkC, hfC⟩, _⟩ := IC.loc
  have hoC : ss.heap.get? C = some oC := hoC
  have nC : Hs C = none := IC.free
  obtain ⟨oC1, hBC, eqC⟩ := F.cov C oC hoC hCs
  rw [eqC nC] at hBC
  have h4C : h4.get? C = some oC := held.1 _ _ hBC
  have aC : a ≠ C := fun z => by have := held.2.1; rw [z, hBC] at this; cases this
  refine ⟨mC, by rw [hcn]; exact ⟨oC, es, ep, h4C, hdC, hkC, hfC⟩, fun h' m' hm' hs' => ?_⟩
  rw [hcn] at hm' hs'
  obtain ⟨oC', es', ep', hoC', hdC', _, _⟩ := hm'
  obtain ⟨oe, vs, TT, oT, ts, he, hcl, hed, hv1, hBT, hTe, hT, hTd, ht3⟩ := held.2.2.2
  have TC : TT ≠ C := fun z => by rw [z, hBC] at hBT; cases hBT
  have oth : ∀ b, b ≠ C → h'.get? b = h4.get? b := fun b hb => hs'.2 b hb
  have he' : h'.get? a = some oe := (oth a aC).trans he
  have hT' : h'.get? TT = some oT := (oth TT TC).trans hT
  unfold PySem.passOn
  refine wpAny_bind (wpAny_field (s := { s4 with heap := h' }) he' hed hv1 ?_)
  rw [if_neg (show ¬ ((Value.ref TT == Value.none) = true) from Bool.false_ne_true)]
  refine wpAny_bind ?_
  unfold setFlight
  refine wpAny_bind (wpAny_field (s := { s4 with heap := h' }) he' hed hv1 ?_)
  rw [if_pos (show (Value.ref TT != Value.none) = true from rfl), hcf, hfr]
  have h3 : 3 < ts.size := by
    have := ht3
    rw [Array.getElem?_eq_some_iff] at this
    exact this.1
  refine wpAny_setField (s := { s4 with heap := h' }) hT' hTd h3 (wpAny_throw ?_)
  dsimp only
  generalize hh5 : h'.update TT (Obj.mapFields fun x => x.setIfInBounds 3 ((some L).elim Value.none fun f => rawInt (f : Nat))) = h5
  have oth5 : ∀ b, b ≠ TT → h5.get? b = h'.get? b := fun b hb => by rw [← hh5]; exact Heap.get?_update_other _ _ (Ne.symm hb)
  have h5T : h5.get? TT = some (Obj.mapFields (fun x => x.setIfInBounds 3 (rawInt (L : Nat))) oT) := by
    rw [← hh5]
    exact Heap.get?_update_self _ hT' (Obj.isFreed_of_fields (Obj.data_mapFields hTd _))
  have h5C : h5.get? C = some oC' := (oth5 C (Ne.symm TC)).trans hoC'
  have frT : ∀ b ∈ frs X.stack, b ≠ TT := fun b hb z => by
    obtain ⟨_, o1, e1, hn⟩ := held.2.2.1.mem (b := b) hb
    rw [z, hT] at e1
    cases e1
    exact hn _ hTd
  have frC : ∀ b ∈ frs X.stack, b ≠ C := fun b hb z => hCs (z ▸ hb)
  -- the state of reference: the block's names gone already
  have live := dict_live hoC'
  have hI0 : Inv X pins σ Hs ss := I.call' (ch := fp) IC.os IC.base IC.hok IC.bare fun b hb => by
    obtain ⟨_, q1, q2, q3, q4, q5⟩ := hfp b hb
    exact ⟨q3, q1, q4, q5⟩
  have hI1 : Inv X pins σ Hs { ss with heap := ss.heap.update C fun _ => oC' } := I.dropC hC hI0 nC (Heap.SameBut.update ..)
  have sC : (ss.heap.update C fun _ => oC').get? C = some oC' := Heap.get?_update_self (fun _ => oC') hoC live
  have sO : ∀ b, b ≠ C → (ss.heap.update C fun _ => oC').get? b = ss.heap.get? b := fun b hb => Heap.get?_update_other _ _ (Ne.symm hb)
  have bC : (B.update C fun _ => oC').get? C = some oC' := Heap.get?_update_self (fun _ => oC') hBC live
  have bO : ∀ b, b ≠ C → (B.update C fun _ => oC').get? b = B.get? b := fun b hb => Heap.get?_update_other _ _ (Ne.symm hb)
  have stays : (B.update C fun _ => oC').StaysIn h5 := fun b o e => by
    by_cases hb : b = C
    · subst hb
      rw [bC] at e
      cases e
      exact h5C
    · rw [bO b hb] at e
      have hbT : b ≠ TT := fun z => by rw [z, hBT] at e; cases e
      exact (oth5 b hbT).trans ((oth b hb).trans (held.1 _ _ e))
  have cov : ∀ b o, (ss.heap.update C fun _ => oC').get? b = some o → b ∉ frs X.stack → ∃ o', (B.update C fun _ => oC').get? b = some o' ∧ (Hs b = none → o' = o) := fun b o e hb => by
    by_cases hbC : b = C
    · subst hbC
      rw [sC] at e
      cases e
      exact ⟨_, bC, fun _ => rfl⟩
    · rw [sO b hbC] at e
      obtain ⟨o', q1, q2⟩ := F.cov b o e hb
      exact ⟨o', (bO b hbC).trans q1, q2⟩
  have nC' : H' C = none := F.un.free C oC hoC nC (by simp)
  have cov2 : ∀ b, H' b ≠ none → ∃ o, (B.update C fun _ => oC').get? b = some o := fun b hb => by
    obtain ⟨o, ho⟩ := F.cov2 b hb
    have hbC : b ≠ C := fun z => hb (z ▸ nC')
    exact ⟨o, (bO b hbC).trans ho⟩
  have stays0 : (B.update C fun _ => oC').StaysIn h5 := stays
  have hokX : HOk X.prog X.w H' h5 := by
    refine HOk.stays (B := PySem.W.hideAll B [C]) F.hok (fun b hb => ?_) (fun b o e => F.fl.1 _ _ (PySem.W.of_hideAll _ e)) fun b o e => ?_
    · obtain ⟨o, ho⟩ := F.cov2 b hb
      have hbC : b ≠ C := fun z => hb (z ▸ nC')
      exact ⟨o, PySem.W.hideAll_get _ ho (by simpa using hbC)⟩
    · have hbC : b ≠ C := fun z => by
        have := PySem.W.hideAll_none [C] (h := B) (b := b) (by simp [z])
        rw [this] at e
        cases e
      exact stays b o ((bO b hbC).trans (PySem.W.of_hideAll _ e))
  have ff : h5.FunFrames (B.update C fun _ => oC') X.stack := by
    refine funFrames_rebase (base := B) (funFrames_move (h := h4) held.2.2.1 fun b hb o e => ?_) fun b hb => ?_
    · exact (oth5 b (frT b hb)).trans ((oth b (frC b hb)).trans e)
    · rw [bO b (frC b hb)]
      exact (held.2.2.1.mem (b := b) hb).1
  refine hH pins σ Hs { ss with heap := ss.heap.update C fun _ => oC' } a CC a0 L (B.update C fun _ => oC') H' { s4 with heap := h5 } hfr hI1 ⟨F.os, F.bare, ?_, hokX, ?_, cov, cov2, ?_⟩ q
  · refine ⟨fun b o e n hb hx => ?_, fun b o e n hb hx => ?_, fun b o e n hx => ?_, fun b o e hx => ?_, F.un.tups, F.un.frzs, F.un.tbls⟩
    · obtain ⟨o', ho', heq⟩ := cov b o e hb
      rw [heq n] at ho'
      exact stays _ _ ho'
    · have hbC := frC b hb
      have e1 : ss.heap.get? b = some o := (sO b hbC).symm.trans e
      obtain ⟨sl, e2⟩ := F.un.slot b o e1 n hb hx
      obtain ⟨_, o1, e3, hn⟩ := F.fl.2.2.1.mem (b := b) hb
      rw [e2] at e3
      cases e3
      obtain ⟨sl2, e4⟩ := sm b _ e2 hn
      exact ⟨sl2, (oth5 b (frT b hb)).trans ((oth b hbC).trans e4)⟩
    · by_cases hbC : b = C
      · rw [hbC]; exact nC'
      · exact F.un.free b o ((sO b hbC).symm.trans e) n hx
    · by_cases hb : b ∈ frs X.stack
      · have hbC := frC b hb
        have e1 : ss.heap.get? b = some o := (sO b hbC).symm.trans e
        obtain ⟨o2, e2⟩ := F.un.there b o e1 hx
        obtain ⟨_, o1, e3, hn⟩ := F.fl.2.2.1.mem (b := b) hb
        rw [e2] at e3
        cases e3
        obtain ⟨sl2, e4⟩ := sm b _ e2 hn
        exact ⟨_, (oth5 b (frT b hb)).trans ((oth b hbC).trans e4)⟩
      · obtain ⟨o', ho', _⟩ := cov b o e hb
        exact ⟨o', stays _ _ ho'⟩
  · refine ⟨stays, (bO a aC).trans held.2.1, ff, oe, vs, TT, _, _, (oth5 a (Ne.symm hTe)).trans he', hcl, hed, hv1, (bO TT TC).trans hBT, hTe, h5T, Obj.data_mapFields hTd _, ?_⟩
    rw [Array.getElem?_setIfInBounds_self_of_lt h3]
  · rw [show (({ ss with heap := ss.heap.update C fun _ => oC' } : Shared).heap).get? a = ss.heap.get? a from sO a aC]
    exact F.new
theorem comp_blockX {tg iter elt : Expr} {ifs : List Expr} {pos : Pos} {g : TG} {tb : TB} {it L : Addr} {fp : List Addr} {tn : Nat → Heap → Prop} {J : It} {E : Value → Shared → Prop} {E0 : XK}
    (S : CompSc X scope T js) (hc : X.calm = true) (I : Inv X pins σ H2 s2) (TT : Turn X.prog X.w X.K tg J fp it tn) (st : tn 0 s2.heap) (hfp : ∀ b ∈ fp, FpOk X pins H2 b)
    (hg : ∀ C s₀ H₀ ex pn, PG (X.comp scope T js C s₀ H₀ ex pn) tg g) (hb : ∀ C s₀ H₀ ex pn, PCB ((X.comp scope T js C s₀ H₀ ex pn).wish (Wx (X.comp scope T js C s₀ H₀ ex pn) fun _ => E0)) ifs elt tb) {Q : VK}
    (hstk : X.stack = X.env :: X.outer) (hfr : X.env.frame = some L) (hH : TakesH X (fun _ => E0))
    (W : Nat → Nat → List V → Hp → Prop) (w0 : ∃ m, W 0 m [] H2)
    (turn : ∀ i m ys H2, W i m ys H2 →
      (J.stop i H2 ∧ ys.length ≤ sizeLine ∧ ∀ l, H2 l = none → Q (.ref l) (upd H2 l (.lst ys))) ∨
      (J.go i H2 ∧ ys.length < sizeLine ∧ ∃ N : List V → Hp → Prop, (∀ ys' H', N ys' H' → ∃ m', m' < m ∧ W (i + 1) m' ys' H') ∧ ∀ x H3, J.yld i H2 x H3 → g x (cells0 T.length js σ) H3 fun σ4 H4 => σ4.drop T.length = seenV js σ ∧
        tb (fun v H5 => N (ys ++ [v]) H5) (fun H5 => N ys H5) σ4 H4)) :
    wpAny (model X.prog X.w) X.A (newList []) (fun acc s₃ => wpAny (model X.prog X.w) X.A (newFunctionEnv scope X.env.globals (clOf X.env scope.names []) [] X.env.qual none .none (some X.env)) (fun cenv s₄ =>
      codeAny (model X.prog X.w) X.A (.compStart (.ListComp elt [⟨tg, iter, ifs, 0⟩] scope pos) 0 (.ref it) acc { cenv with scope := relabel scope X.env }) (compPostX (model X.prog X.w) X.A X.xe (EP X pins σ Q) acc { cenv with scope := relabel scope X.env }) s₄) E s₃) E s2 := by
  have ob : ∀ b ∈ fp, ∃ o, s2.heap.get? b = some o := fun b hb => by obtain ⟨o, e, _⟩ := TT.obj 0 _ st b hb; exact ⟨o, e⟩
  have ltf : ∀ b ∈ fp, b < s2.heap.objs.size := fun b hb => by obtain ⟨o, e⟩ := ob b hb; exact Heap.lt_size e
  have hcell : ∀ y ∈ scope.names, y.2 ≠ .cell := fun y hy => of_decide_eq_true (List.all_eq_true.mp S.cell y hy)
  refine wpAny_newObj_type (wpAny_newFunctionEnv hcell (by intro y hy; simp at hy) (fun h₁ hns₁ hsb₁ => ?_) S.kind)
  dsimp only at hns₁ hsb₁ ⊢
  generalize hHH : s2.heap.push { cls := .type "list", dict := none, data := .seq ([] : List Value).toArray } = HH at hns₁ hsb₁ ⊢
  have hC : HH.objs.size = s2.heap.objs.size + 1 := by rw [← hHH, Heap.size_push]
  have hDC : s2.heap.objs.size ≠ HH.objs.size := by rw [hC]; exact Nat.ne_of_lt (Nat.lt_succ_self _)
  have hCle : s2.heap.objs.size ≤ HH.objs.size := by rw [hC]; exact Nat.le_succ _
  have below : ∀ b, b < s2.heap.objs.size → b ≠ HH.objs.size := fun b hb => by rw [hC]; exact Nat.ne_of_lt (Nat.lt_succ_of_lt hb)
  have old : ∀ b o, s2.heap.get? b = some o → h₁.get? b = some o := fun b o e => hsb₁.extBut b o (below b (Heap.lt_size e)) (Heap.get?_push_of_some _ (hHH ▸ Heap.get?_push_of_some _ e))
  have hacc : h₁.get? s2.heap.objs.size = some (lobj [] 0) := hsb₁.extBut _ _ hDC (Heap.get?_push_of_some _ (hHH ▸ Heap.get?_push_size _ rfl))
  generalize hCC : HH.objs.size = C at *
  generalize hDD : s2.heap.objs.size = D at *
  have I4 : ∀ t4, Inv (X.comp scope T js C s2 H2 fp (X.pn ++ pins)) [(D, lobj [] 0)] (cells0 T.length js σ) H2 { s2 with heap := h₁, toks := t4 } := fun t4 =>
    comp_start S I hc hfp ob (Nat.le_of_eq hDD) hacc (fun v z => by cases z) (by rw [hDD]; exact hCle) hDC old hns₁
  have look : ∀ x c, (clOf X.env scope.names []).lookup x = some c → X.env.cells.lookup x = some c := fun x c e => clOf_lookup scope.names [] (S.has I) (fun _ _ z => by simp at z) e
  have ltc : ∀ x c, X.env.cells.lookup x = some c → c < D := fun x c e => by obtain ⟨v, q⟩ := I.cell x c e; rw [← hDD]; exact q.lt
  have ltp : ∀ p ∈ X.pn ++ pins, p.1 < D := fun p hp => by rw [← hDD]; exact Heap.lt_size (I.pin p hp).1
  have stat : ∀ {H' : Hp} {o : Obj}, (∀ b ∈ fp, H' b = none) → ∀ b ∈ fp, FpOk (X.comp scope T js C s2 H2 fp (X.pn ++ pins)) [(D, o)] H' b := fun hn b hb => by
    obtain ⟨_, q1, q2, q3, q4, q5⟩ := hfp b hb
    have lb : b < D := ltf b hb
    refine ⟨hn b hb, Nat.ne_of_lt (Nat.lt_of_lt_of_le lb hCle), fun z => ?_, .inl hb, fun x c e => q4 x c (look x c e), fun p hp => ?_⟩
    · exact (List.mem_cons.mp (I.stkSub b z)).elim q1 q2
    · rcases List.mem_append.mp hp with hp | hp
      · exact q5 p hp
      · obtain rfl : p = (D, _) := by simpa using hp
        exact Nat.ne_of_gt lb
  have loop : ∀ t4, codeAny (model X.prog X.w) X.A (.compLoop (.ListComp elt [⟨tg, iter, ifs, 0⟩] scope pos) 0 (.ref it) (.ref D) (compEnvC scope (clOf X.env scope.names []) C X.env)) (compPostX (model X.prog X.w) X.A X.xe (EP X pins σ Q) (.ref D) (compEnvC scope (clOf X.env scope.names []) C X.env)) { s2 with heap := h₁, toks := t4 } := by
    intro t4
    obtain ⟨m0, w0⟩ := w0
    refine compLoop_genX (fun n s' => ∃ i ys H' its nn, Inv (X.comp scope T js C s2 H2 fp (X.pn ++ pins)) [(D, lobj its nn)] (cells0 T.length js σ) H' s' ∧ Vals ys its ∧ tn i s'.heap ∧ (∀ b ∈ fp, H' b = none) ∧ W i n ys H') ?_ m0
      ⟨0, [], H2, [], 0, I4 t4, .nil, TT.keep _ _ _ st fun b hb o e => old b o e, fun b hb => (hfp b hb).1, w0⟩
    rintro n s3 ⟨i, ys, H3, its, nn, I3, v3, st3, fr3, w3⟩
    rcases turn i n ys H3 w3 with ⟨stop, hz, q⟩ | ⟨go, hz, N, hN, step⟩
    · refine thn (TT.done (X.comp scope T js C s2 H2 fp (X.pn ++ pins)) rfl rfl rfl hc i _ s3 _ H3 _ I3 (stat fr3) st3 stop) fun r s4 ⟨hr, I5⟩ => ?_
      subst hr
      obtain ⟨e, hn, hL, hf, hd⟩ := I5.pin (D, lobj its nn) (List.mem_append_right _ (List.mem_singleton.mpr rfl))
      have hH : HOk X.prog X.w (upd H3 D (.lst ys)) s4.heap := I5.hok.track hn ⟨hz, its, nn, v3, e⟩
      have hU : Un (frs X.stack) fp H2 (upd H3 D (.lst ys)) s2.heap s4.heap := Un.track I5.base (Nat.le_of_eq hDD) hn
      have IX : Inv X pins σ (upd H3 D (.lst ys)) s4 := I.call' (ch := fp) I5.os hU hH I5.bare fun b hb => by
        obtain ⟨_, q1, q2, q3, q4, q5⟩ := hfp b hb
        exact ⟨q3, q1, q4, q5⟩
      obtain ⟨m, hm, _⟩ := I5.loc
      exact ⟨m, hm, fun h' hs' => ⟨.ref D, _, I.dropC (by rw [hDD]; exact hCle) IX (by show upd H3 D (.lst ys) C = none; rw [upd_ne (Ne.symm hDC)]; exact I5.free) hs', rfl, q D hn⟩⟩
    · refine thn (TT.item (X.comp scope T js C s2 H2 fp (X.pn ++ pins)) rfl rfl rfl hc i _ s3 _ H3 _ I3 (stat fr3) st3 go) fun r s4 ⟨u, hr, h4⟩ => ?_
      subst hr
      refine thn h4 fun _ s5 ⟨x, H5, I5, r5, y5, st5, fr5⟩ => ?_
      have I5' := I5.pinned (stat fr5) (TT.obj _ _ st5)
      refine thn (hg C s2 H2 fp (X.pn ++ pins) _ s5 _ H5 x u _ I5' r5 (step x H5 y5)) fun _ s6 ⟨σ6, H6, I6, dr, q6⟩ => ?_
      have I6' : Inv (X.comp scope T js C s2 H2 fp (X.pn ++ pins)) ([(D, lobj its nn)] ++ pinsAt fp s5.heap) σ6 H6 s6 := I6
      have err : ∀ e s', Wx (X.comp scope T js C s2 H2 fp (X.pn ++ pins)) (fun _ => E0) e s' → notedBy (model X.prog X.w) X.A (compEnvC scope (clOf X.env scope.names []) C X.env) (fun e s' => compPostX (model X.prog X.w) X.A X.xe (EP X pins σ Q) (.ref D) (compEnvC scope (clOf X.env scope.names []) C X.env) (.error e) s') e s' := fun e s' hw => by
        obtain ⟨pc, σc, Hs, ss, IC, a, CC, a0, B, H', rfl, F, qE⟩ := hw
        show wpAny _ _ (noteFrame (.ref a) X.env) _ _ s'
        have hF : Heap.FlyingW B (X.env :: X.outer) a (.ref CC) a0 s'.heap := by rw [← hstk]; exact F.fl
        refine wpAny_looks_onW (by rw [← hstk]; exact I.ok.frames) hfr hF fun h4 held sm => ?_
        rw [← hstk] at held
        exact comp_err (C := C) (cenv := compEnvC scope (clOf X.env scope.names []) C X.env) I hfp (by rw [hDD]; exact hCle) rfl rfl hstk hfr hH IC F qE held sm (EP X pins σ Q) (.ref D)
      refine wpAny_mono (hb C s2 H2 fp (X.pn ++ pins) _ s6 σ6 H6 _ _ (I6'.wish _) q6) (fun ok s7 q7 => ?_) err
      have back : ∀ {o : Obj} {s8 : Shared} {H8 : Hp}, Inv (X.comp scope T js C s2 H2 fp (X.pn ++ pins)) ([(D, o)] ++ pinsAt fp s5.heap) σ6 H8 s8 → Inv (X.comp scope T js C s2 H2 fp (X.pn ++ pins)) [(D, o)] (cells0 T.length js σ) H8 s8 ∧ tn (i + 1) s8.heap ∧ ∀ b ∈ fp, H8 b = none := fun {o s8 H8} I8 => by
        refine ⟨I8.unpinned.weak ?_ fun j v e => ?_, TT.keep _ _ _ st5 fun b hb o' e => (I8.pin (b, o') (List.mem_append_right _ (List.mem_append_right _ (mem_pinsAt hb e)))).1, fun b hb => ?_⟩
        · rw [I8.len]
          show (cells0 T.length js σ).length = (T ++ X.seen js).length
          unfold cells0 seenV
          simp
        · unfold cells0 at e
          by_cases hj : j < T.length
          · rw [List.getElem?_append_left (by simpa using hj), List.getElem?_replicate] at e
            split at e <;> cases e
          · rw [List.getElem?_append_right (by simpa using hj), List.length_replicate, ← dr, List.getElem?_drop] at e
            rw [show T.length + (j - T.length) = j by omega] at e
            exact e
        · obtain ⟨o', e, d⟩ := TT.obj _ _ st5 b hb
          exact (I8.pin (b, o') (List.mem_append_right _ (List.mem_append_right _ (mem_pinsAt hb e)))).2.1
      cases ok with
      | false =>
        rw [if_neg Bool.false_ne_true] at q7 ⊢
        obtain ⟨H7, I7w, n7⟩ := q7
        have I7 := I7w.unwish
        obtain ⟨m', hm', w7⟩ := hN _ _ n7
        obtain ⟨J1, J2, J3⟩ := back I7
        exact ⟨m', hm', i + 1, ys, H7, its, nn, J1, v3, J2, J3, w7⟩
      | true =>
        rw [if_pos rfl] at q7 ⊢
        refine wpAny_mono q7 (fun u7 s8 ⟨v, H8, I8w, r8, n8⟩ => ?_) err
        have I8 := I8w.unwish
        obtain ⟨m', hm', w8⟩ := hN _ _ n8
        obtain ⟨J1, J2, J3⟩ := back I8
        have lz : its.length < sizeLine := by rw [← v3.length]; exact hz
        refine thn (acc_append (XC := X.comp scope T js C s2 H2 fp (X.pn ++ pins)) (u := u7) J1 (Nat.le_of_eq hDD) (fun x c e => Nat.ne_of_lt (ltc x c (look x c e))) (fun p hp => Nat.ne_of_lt (ltp p hp)) lz) fun _ s9 ⟨n', I9, k9⟩ => ?_
        refine ⟨m', hm', i + 1, ys ++ [v], H8, its ++ [u7], n', I9, v3.append (.cons r8 .nil), TT.keep _ _ _ J2 fun b hb o e => k9 b o (Nat.ne_of_lt (ltf b hb)) e, J3, w8⟩
  exact codeAny_compStart_list (loop _) (TT.self _ 0 _ _ _ (TT.keep _ _ _ st fun b hb o e => old b o e) (loop _))

theorem pe_compX {tg iter elt : Expr} {ifs : List Expr} {pos : Pos} {wi : TI} {g : TG} {tb : TB} {L : Addr} {E0 : XK} (T : List Str) (js : List Nat) (S : CompSc X scope T js) (hc : X.calm = true) (hstk : X.stack = X.env :: X.outer) (hfr : X.env.frame = some L) (hH : TakesH X (fun _ => E0)) (hi : PI X tg iter wi)
    (hg : ∀ C s₀ H₀ ex pn, PG (X.comp scope T js C s₀ H₀ ex pn) tg g) (hb : ∀ C s₀ H₀ ex pn, PCB ((X.comp scope T js C s₀ H₀ ex pn).wish (Wx (X.comp scope T js C s₀ H₀ ex pn) fun _ => E0)) ifs elt tb)
    (hs : ∀ x, foldedSetIterable iter X.env x = pure x := by intro _; rfl) : PE X (.ListComp elt [⟨tg, iter, ifs, 0⟩] scope pos) (tComp T.length js wi g tb) := by
  intro pins s σ H Q I h
  rw [eval_ListComp]
  refine wpAny_comprehension_x rfl hs (closureFor_clOf (S.has I)) S.kind S.names (thn (hi pins s σ H _ I h) fun v s1 h1 => thn h1 fun itv s2 h2 => ?_)
  obtain ⟨it, fp, tn, J, H2, e, I2, TT, st2, f2, W, w0, turn⟩ := h2
  subst e
  exact comp_blockX S hc I2 TT st2 f2 hg hb hstk hfr hH W w0 turn
end
end L2

namespace L2
open PySem PySem.Spec PyProof.Rows Builtin.Str
theorem picked_len (lo hi : Option Int) (n : Nat) : (strSliceIndices lo hi 1 n).length ≤ n ∧ (∀ j, hi = some j → 0 ≤ j → ((strSliceIndices lo hi 1 n).length : Int) ≤ j) ∧ ∀ i, lo = some i → 0 ≤ i → ((strSliceIndices lo hi 1 n).length : Int) = 0 ∨ ((strSliceIndices lo hi 1 n).length : Int) + i ≤ n := by
  unfold strSliceIndices
  dsimp only
  have key : ∀ a b : Int, (sliceRange a b 1).length = (b - a).toNat := by
    intro a b
    unfold sliceRange
    dsimp only
    rw [List.length_map, List.length_range, if_pos (by decide : (1 : Int) > 0)]
    by_cases h : a < b
    · rw [if_pos h, Int.ediv_one]; omega
    · rw [if_neg h]; omega
  rw [key]
  cases lo with
  | none =>
    cases hi with
    | none =>
      simp only [show (1 : Int) > 0 by decide, if_true]
      refine ⟨by omega, (fun j h => by cases h), (fun i h => by cases h)⟩
    | some j =>
      simp only [show (1 : Int) > 0 by decide, if_true]
      refine ⟨by omega, (fun j' h h0 => by cases h; omega), (fun i h => by cases h)⟩
  | some i =>
    cases hi with
    | none =>
      simp only [show (1 : Int) > 0 by decide, if_true]
      refine ⟨by omega, (fun j h => by cases h), (fun i' h h0 => by cases h; omega)⟩
    | some j =>
      simp only [show (1 : Int) > 0 by decide, if_true]
      refine ⟨by omega, (fun j' h h0 => by cases h; omega), (fun i' h h0 => by cases h; omega)⟩
section
variable {X : Cx}
def rSlS : V → Option Int → Option Int → Hp → VK → Prop := fun x lo hi H Q => ∃ z, x = .str z ∧ z.length ≤ 2000 ∧ ∀ y : Str, y.length ≤ z.length → (∀ j, hi = some j → 0 ≤ j → (y.length : Int) ≤ j) → (∀ i, lo = some i → 0 ≤ i → (y.length : Int) = 0 ∨ (y.length : Int) + i ≤ z.length) → Q (.str y) H
theorem part_of {v : Value} {o : Option Int} (p : IsPart v o) : ∃ l : Option (Int × Tok), v = partValue l ∧ l.map (·.1) = o := by
  cases p with
  | none => exact ⟨none, rfl, rfl⟩
  | int i t => exact ⟨some (i, t), rfl, rfl⟩
theorem sl_str : SlR X rSlS := by
  intro pins s σ H x v vl vu lo hi sl Q I rx hs pl pu h
  obtain ⟨z, rfl, hz, q⟩ := h
  obtain ⟨t, rfl⟩ := rx
  obtain ⟨l, rfl, el⟩ := part_of pl
  obtain ⟨u, rfl, eu⟩ := part_of pu
  refine ⟨"str", _, F.slot_str_getitem.lookup, typeIs_str _ _ _, ?_⟩
  refine wpAny_getItem_str_slice (l := l) (u := u) (st := none) hs rfl ?_
  have hp := picked_len lo hi z.length
  have e : slicePicked z l u none = strSliceIndices lo hi 1 z.length := by
    unfold slicePicked
    rw [el, eu]
    rfl
  unfold sliceMade
  rw [e]
  split
  · rename_i hw
    have hw' : (strSliceIndices lo hi 1 z.length).length = z.length := by simpa using hw
    rw [hw'] at hp
    exact ⟨.str z, H, I, ⟨t, rfl⟩, q z (Nat.le_refl _) hp.2.1 hp.2.2⟩
  · have hl : (⟨(List.filterMap (fun i => z.cps[i]?) (strSliceIndices lo hi 1 z.length)).toArray⟩ : Str).length ≤ (strSliceIndices lo hi 1 z.length).length := by
      show (List.filterMap (fun i => z.cps[i]?) (strSliceIndices lo hi 1 z.length)).toArray.size ≤ _
      rw [List.size_toArray]
      exact List.length_filterMap_le _ _
    generalize (⟨(List.filterMap (fun i => z.cps[i]?) (strSliceIndices lo hi 1 z.length)).toArray⟩ : Str) = y at hl ⊢
    generalize (strSliceIndices lo hi 1 z.length).length = L at hl hp
    obtain ⟨p1, p2, p3⟩ := hp
    have : 2000 ≤ sizeLine := by decide
    refine ⟨by omega, ⟨.str _, H, I.tok _, ⟨_, rfl⟩, q _ (by omega) (fun j h h0 => ?_) fun i h h0 => ?_⟩⟩
    · have := p2 j h h0
      omega
    · rcases p3 i h h0 with p | p
      · left; omega
      · right; omega
def rInN (K : PySem.W.Frag) : R2 := fun x y H Q => ∃ (p : Addr) (vs : List V) (ds : List Dt), x = .non ∧ y = .ref p ∧ SqL K H p vs ∧ IsDs H ds vs ∧ (∀ d ∈ ds, depthD d ≤ 19) ∧ Q (.bl (ds.any fun d => eqD d .non)) H
noncomputable def evN (u : Value) : Bool := by classical exact decide (u = .none)
theorem evN_of {H : Hp} {d : Dt} {v : V} {u : Value} (h : IsD H d v) (r : RelV v u) : evN u = eqD d .non := by
  unfold evN
  cases d with
  | non => unfold IsD at h; subst h; cases r; simp [eqD]
  | bl b => unfold IsD at h; subst h; cases r; simp [eqD]
  | int i => unfold IsD at h; subst h; obtain ⟨t, rfl⟩ := r; simp [eqD]
  | str i => unfold IsD at h; subst h; obtain ⟨t, rfl⟩ := r; simp [eqD]
  | lst ds => unfold IsD at h; obtain ⟨a, xs, rfl, _⟩ := h; cases r; simp [eqD]
  | tup ds => unfold IsD at h; obtain ⟨a, xs, rfl, _⟩ := h; cases r; simp [eqD]
theorem any_N {H : Hp} : ∀ {ds : List Dt} {vs : List V} {us : List Value}, IsDs H ds vs → Vals vs us → us.any evN = ds.any fun d => eqD d .non
  | [], vs, us, h, r => by unfold IsDs at h; subst h; cases r; rfl
  | d :: ds, vs, us, h, r => by
    unfold IsDs at h
    obtain ⟨x, l, rfl, hx, hl⟩ := h
    cases r with
    | cons r1 r2 => rw [List.any_cons, List.any_cons, evN_of hx r1, any_N hl r2]
theorem op_inN (hu : X.A.units + 20 < cLine) : OpR X (compareOp .In) (rInN X.K) := by
  intro pins s σ H x y v u Q I rx ry h
  obtain ⟨p, vs, ds, rfl, rfl, hq, hs, hdp, q⟩ := h
  cases ry
  cases rx
  obtain ⟨its, r, pl, hz⟩ := I.list hq
  refine SeqAt.in_listAt evN pl.isList (fun w hw => ?_) ⟨.bl _, H, I, rfl, ?_⟩
  · have hw' : w ∈ its := by simpa using hw
    obtain ⟨i, hi, e1⟩ := List.mem_iff_getElem.mp hw'
    have hl := r.length
    obtain ⟨v', hv'⟩ : ∃ v', vs[i]? = some v' := ⟨_, List.getElem?_eq_getElem (by omega)⟩
    obtain ⟨u', hu', ru⟩ := r.get hv'
    rw [List.getElem?_eq_getElem hi, e1] at hu'
    cases hu'
    obtain ⟨d, hd, hD⟩ := hs.get' hv'
    rw [evN_of hD ru]
    exact eqAt_D I 19 d .non v' .non w .none X.A.in1 (hdp d (List.mem_of_getElem? hd)) hD (by unfold IsD; rfl) ru rfl (by show X.A.units + 1 + 19 < cLine; omega)
  · rw [show its.toArray.any evN = its.any evN by simp, any_N hs r]
    exact q
theorem op_inNK (K : PySem.W.Frag) (hu : X.A.units + 20 < cLine) (h : X.K = K := by rfl) : OpR X (compareOp .In) (rInN K) := by subst h; exact op_inN hu
end
end L2

namespace Rp
def stepR (st : List Int × Int) (c : Int) : List Int × Int := if c = 1 then (st.1, st.2 + 1) else if 0 < st.2 then (st.1 ++ [st.2], 0) else st
def foldR (ns : List Int) : List Int × Int := ns.foldl stepR ([], 0)
def runsZ (ns : List Int) : List Int := if 0 < (foldR ns).2 then (foldR ns).1 ++ [(foldR ns).2] else (foldR ns).1
theorem foldR_snoc (ns : List Int) (z : Int) : foldR (ns ++ [z]) = stepR (foldR ns) z := by unfold foldR; rw [List.foldl_append]; rfl
theorem foldR_take {ns : List Int} {i : Nat} {z : Int} (h : ns[i]? = some z) : foldR (ns.take (i + 1)) = stepR (foldR (ns.take i)) z := by
  rw [List.take_add_one, h]; exact foldR_snoc _ _
theorem stepR_len (st : List Int × Int) (z : Int) : (stepR st z).1.length ≤ st.1.length + 1 := by
  unfold stepR; split
  · simp
  · split <;> simp
theorem foldR_len : ∀ (ns : List Int) (st : List Int × Int), (ns.foldl stepR st).1.length ≤ st.1.length + ns.length
  | [], st => by simp
  | z :: r, st => by
    rw [List.foldl_cons]
    have h1 := foldR_len r (stepR st z)
    have h2 := stepR_len st z
    rw [List.length_cons]; omega
theorem foldR_length (ns : List Int) : (foldR ns).1.length ≤ ns.length := by
  have := foldR_len ns ([], 0)
  simpa [foldR] using this
theorem runsZ_length (ns : List Int) : (runsZ ns).length ≤ ns.length + 1 := by
  have := foldR_length ns
  unfold runsZ
  split
  · rw [List.length_append, List.length_singleton]; omega
  · omega
theorem runs_zero (ns : List Int) : (foldR (ns ++ [0])).1 = runsZ ns := by
  rw [foldR_snoc]
  unfold stepR runsZ
  rw [if_neg (by decide)]
  split <;> rfl
def mixZ (c k : Int) : Int :=
  ((((c * 69621 + 7001 * k + 3) % 2147483629) * ((c * 69621 + 7001 * k + 3) % 2147483629) + 39373 * ((c * 69621 + 7001 * k + 3) % 2147483629) + k) % 2147483647)
theorem mixed_lt (c k : Int) : 0 ≤ (c * 69621 + 7001 * k + 3) % 2147483629 ∧ (c * 69621 + 7001 * k + 3) % 2147483629 < 2147483629 := by omega
def cellZ (ns : List Int) (i : Nat) : Int := ns.getD i 0
end Rp

namespace Rp
open PySem L2
def dRow (xs : List Int) : Dt := .lst (xs.map Dt.int)
def dRows (xss : List (List Int)) : Dt := .lst (xss.map dRow)
def dTup (xs : List Int) : Dt := .tup (xs.map Dt.int)
def dTups (xss : List (List Int)) : Dt := .tup (xss.map dTup)
def dBoard (b : List (List Int) × List (List Int)) : Dt := .tup [dTups b.1, dTups b.2]
def colZ (xss : List (List Int)) (j : Nat) : List Int := xss.map fun xs => xs.getD j 0
def boardZ (xss : List (List Int)) (w : Nat) : List (List Int) × List (List Int) := (xss.map runsZ, (List.range w).map fun j => runsZ (colZ xss j))

theorem isDs_ints_inv {H : Hp} : ∀ {xs : List Int} {ys : List V}, IsDs H (xs.map Dt.int) ys → ys = xs.map V.int
  | [], ys, h => by
    have h' : IsDs H [] ys := h
    unfold IsDs at h'
    exact h'
  | x :: r, ys, h => by
    have h' : IsDs H (Dt.int x :: r.map Dt.int) ys := h
    unfold IsDs at h'
    obtain ⟨y, r', rfl, hy, hr⟩ := h'
    unfold IsD at hy
    subst hy
    rw [isDs_ints_inv hr]
    rfl
theorem isD_row {H : Hp} {a : Addr} {xs : List Int} (h : H a = some (.lst (xs.map V.int))) : IsD H (dRow xs) (.ref a) := isD_lstI h
theorem isD_tup {H : Hp} {a : Addr} {xs : List Int} (h : H a = some (.tup (xs.map V.int))) : IsD H (dTup xs) (.ref a) := isD_tupI h
theorem row_inv {H : Hp} {xs : List Int} {v : V} (h : IsD H (dRow xs) v) : ∃ a, v = .ref a ∧ H a = some (.lst (xs.map V.int)) := by
  unfold dRow IsD at h
  obtain ⟨a, ys, rfl, ha, hs⟩ := h
  rw [isDs_ints_inv hs] at ha
  exact ⟨a, rfl, ha⟩
theorem tup_inv {H : Hp} {xs : List Int} {v : V} (h : IsD H (dTup xs) v) : ∃ a, v = .ref a ∧ H a = some (.tup (xs.map V.int)) := by
  unfold dTup IsD at h
  obtain ⟨a, ys, rfl, ha, hs⟩ := h
  rw [isDs_ints_inv hs] at ha
  exact ⟨a, rfl, ha⟩
theorem rows_inv {H : Hp} {xss : List (List Int)} {a : Addr} (h : IsD H (dRows xss) (.ref a)) : ∃ vs, H a = some (.lst vs) ∧ IsDs H (xss.map dRow) vs := by
  unfold dRows IsD at h
  obtain ⟨b, vs, e, hb, hs⟩ := h
  cases e
  exact ⟨vs, hb, hs⟩
theorem tups_inv {H : Hp} {xss : List (List Int)} {a : Addr} (h : IsD H (dTups xss) (.ref a)) : ∃ vs, H a = some (.tup vs) ∧ IsDs H (xss.map dTup) vs := by
  unfold dTups IsD at h
  obtain ⟨b, vs, e, hb, hs⟩ := h
  cases e
  exact ⟨vs, hb, hs⟩
theorem mk_rows {H : Hp} {xss : List (List Int)} {a : Addr} {vs : List V} (h : H a = some (.lst vs)) (hs : IsDs H (xss.map dRow) vs) : IsD H (dRows xss) (.ref a) := by
  unfold dRows IsD
  exact ⟨a, vs, rfl, h, hs⟩
theorem mk_tups {H : Hp} {xss : List (List Int)} {a : Addr} {vs : List V} (h : H a = some (.tup vs)) (hs : IsDs H (xss.map dTup) vs) : IsD H (dTups xss) (.ref a) := by
  unfold dTups IsD
  exact ⟨a, vs, rfl, h, hs⟩
theorem board_inv {H : Hp} {b : List (List Int) × List (List Int)} {a : Addr} (h : IsD H (dBoard b) (.ref a)) : ∃ r c, H a = some (.tup [.ref r, .ref c]) ∧ IsD H (dTups b.1) (.ref r) ∧ IsD H (dTups b.2) (.ref c) := by
  unfold dBoard IsD at h
  obtain ⟨x, vs, e, hx, hs⟩ := h
  cases e
  unfold IsDs at hs
  obtain ⟨v1, r1, rfl, h1, hs⟩ := hs
  unfold IsDs at hs
  obtain ⟨v2, r2, rfl, h2, hs⟩ := hs
  unfold IsDs at hs
  subst hs
  have h1' := h1
  have h2' := h2
  unfold dTups IsD at h1 h2
  obtain ⟨r, _, rfl, _⟩ := h1
  obtain ⟨c, _, rfl, _⟩ := h2
  exact ⟨r, c, hx, h1', h2'⟩
theorem mk_board {H : Hp} {b : List (List Int) × List (List Int)} {a r c : Addr} (h : H a = some (.tup [.ref r, .ref c])) (h1 : IsD H (dTups b.1) (.ref r)) (h2 : IsD H (dTups b.2) (.ref c)) : IsD H (dBoard b) (.ref a) := by
  unfold dBoard IsD
  refine ⟨a, _, rfl, h, ?_⟩
  unfold IsDs
  refine ⟨_, _, rfl, h1, ?_⟩
  unfold IsDs
  exact ⟨_, _, rfl, h2, by unfold IsDs; rfl⟩
theorem depth_tup (xs : List Int) : depthD (dTup xs) ≤ 1 := by unfold dTup; rw [depth_t, depth_ints]; omega
theorem rows_get {H : Hp} {f : List Int → Dt} {xss : List (List Int)} {vs : List V} {i : Nat} {v : V} (hs : IsDs H (xss.map f) vs) (e : vs[i]? = some v) : ∃ xs, xss[i]? = some xs ∧ IsD H (f xs) v := by
  obtain ⟨d, e1, e2⟩ := hs.get' e
  rw [List.getElem?_map] at e1
  cases q : xss[i]? with
  | none => rw [q] at e1; cases e1
  | some xs => rw [q] at e1; cases e1; exact ⟨xs, rfl, e2⟩
theorem rows_len {H : Hp} {f : List Int → Dt} {xss : List (List Int)} {vs : List V} (hs : IsDs H (xss.map f) vs) : vs.length = xss.length := by rw [← hs.length, List.length_map]
theorem map_range {α β : Type} (f : α → β) (d : α) (xs : List α) : (List.range xs.length).map (fun i => f (xs.getD i d)) = xs.map f := by
  apply List.ext_getElem?
  intro i
  rw [List.getElem?_map, List.getElem?_map]
  by_cases h : i < xs.length
  · rw [List.getElem?_range h, List.getElem?_eq_getElem h]
    simp [h]
  · rw [List.getElem?_eq_none (by simpa using h), List.getElem?_eq_none (by simpa using h)]
    rfl
theorem getD_of {α : Type} {xs : List α} {i : Nat} {x d : α} (h : xs[i]? = some x) : xs.getD i d = x := by rw [List.getD_eq_getElem?_getD, h]; rfl
theorem upd_swap {H : Hp} {a b : Addr} {o o' o2 : HO} (h : a ≠ b) : upd (upd (upd H a o) b o') a o2 = upd (upd H b o') a o2 := by
  funext c
  unfold upd
  by_cases h1 : c = a
  · simp [h1]
  · by_cases h2 : c = b
    · simp [h1, h2]
    · simp [h1, h2]
def pixZ (c : Int) (i j : Nat) : Int := if mixZ c 3 % 3 < mixZ c (1000 + 20 * (i : Int) + j) / 7 % 4 then 1 else 0
def picRow (c : Int) (w i : Nat) : List Int := (List.range w).map fun j => pixZ c i j
def picZ (c : Int) (r w : Nat) : List (List Int) := (List.range r).map fun i => picRow c w i
theorem picRow_len (c : Int) (w i : Nat) : (picRow c w i).length = w := by unfold picRow; simp
theorem picZ_len (c : Int) (r w : Nat) : (picZ c r w).length = r := by unfold picZ; simp
theorem picZ_row {c : Int} {r w : Nat} {xs : List Int} (h : xs ∈ picZ c r w) : xs.length = w := by
  unfold picZ at h
  obtain ⟨i, _, rfl⟩ := List.mem_map.mp h
  exact picRow_len c w i

structure Own (H0 H : Hp) (l : Addr) (as : List Addr) (xss : List (List Int)) : Prop where
  same : Same H0 H
  at' : H l = some (.lst (as.map V.ref))
  len : as.length = xss.length
  row : ∀ (i : Nat) a xs, as[i]? = some a → xss[i]? = some xs → H a = some (.lst (xs.map V.int))
  nd : as.Nodup
  nl : l ∉ as
  new : ∀ a ∈ as, H0 a = none
  newl : H0 l = none
theorem nodup_get {as : List Addr} (h : as.Nodup) {i j : Nat} {a : Addr} (e1 : as[i]? = some a) (e2 : as[j]? = some a) : i = j := by
  obtain ⟨h1, q1⟩ := List.getElem?_eq_some_iff.mp e1
  obtain ⟨h2, q2⟩ := List.getElem?_eq_some_iff.mp e2
  exact (List.getElem_inj h).mp (q1.trans q2.symm)
structure Grow (H0 : Hp) (f : Nat → List Int) (i : Nat) (as : List Addr) (H' : Hp) : Prop where
  same : Same H0 H'
  len : as.length = i
  row : ∀ (j : Nat) a, as[j]? = some a → H' a = some (.lst ((f j).map V.int))
  nd : as.Nodup
  new : ∀ a ∈ as, H0 a = none
theorem Grow.zero {H0 : Hp} {f : Nat → List Int} : Grow H0 f 0 [] H0 := ⟨Same.refl _, rfl, fun j a e => by simp at e, List.nodup_nil, fun a h => by simp at h⟩
theorem Grow.there {H0 : Hp} {f : Nat → List Int} {i : Nat} {as : List Addr} {H' : Hp} (g : Grow H0 f i as H') {b : Addr} (hb : H' b = none) : b ∉ as := fun z => by
  obtain ⟨j, hj, e⟩ := List.getElem_of_mem z
  have q := g.row j b (by rw [List.getElem?_eq_getElem hj, e])
  rw [hb] at q; cases q
theorem Grow.next {H0 : Hp} {f : Nat → List Int} {i : Nat} {as : List Addr} {H1 H2 : Hp} (g : Grow H0 f i as H1) (s : Same H1 H2) {b : Addr} (hb : H1 b = none) (h : H2 b = some (.lst ((f i).map V.int))) : Grow H0 f (i + 1) (as ++ [b]) H2 := by
  refine ⟨g.same.trans s, by rw [List.length_append, List.length_singleton, g.len], fun j a e => ?_, List.nodup_append.mpr ⟨g.nd, by simp, fun x hx y hy => by rw [List.mem_singleton.mp hy]; intro z; exact g.there hb (z ▸ hx)⟩, fun a ha => ?_⟩
  · by_cases hj : j < as.length
    · rw [List.getElem?_append_left hj] at e
      exact s _ _ (g.row j a e)
    · rw [List.getElem?_append_right (by omega)] at e
      have hj0 : j - as.length = 0 := by
        have := (List.getElem?_eq_some_iff.mp e).1
        simp at this
        omega
      rw [hj0] at e
      have e' : b = a := Option.some.inj e
      have e2 : j = i := by have := g.len; omega
      rw [← e', e2]
      exact h
  · rcases List.mem_append.mp ha with z | z
    · exact g.new a z
    · rw [List.mem_singleton.mp z]; exact g.same.free hb
def RowsAt (H : Hp) (as : List Addr) (tbl : List (List Int)) : Prop := as.length = tbl.length ∧ ∀ (i : Nat) a xs, as[i]? = some a → tbl[i]? = some xs → H a = some (.lst (xs.map V.int))
theorem RowsAt.set {H : Hp} {as : List Addr} {tbl : List (List Int)} (r : RowsAt H as tbl) (nd : as.Nodup) {i : Nat} {a : Addr} (e : as[i]? = some a) (ys : List Int) : RowsAt (upd H a (.lst (ys.map V.int))) as (tbl.set i ys) := by
  refine ⟨by rw [List.length_set]; exact r.1, fun j b xs e1 e2 => ?_⟩
  by_cases hj : j = i
  · subst hj
    rw [e] at e1
    cases e1
    rw [List.getElem?_set_self (by rw [← r.1]; exact (List.getElem?_eq_some_iff.mp e).1)] at e2
    cases e2
    exact upd_same
  · rw [List.getElem?_set_ne (Ne.symm hj)] at e2
    have nn : b ≠ a := fun z => hj (nodup_get nd (by rw [← z]; exact e1) e)
    rw [upd_ne nn]
    exact r.2 j b xs e1 e2
theorem RowsAt.mono {H H' : Hp} {as : List Addr} {tbl : List (List Int)} (r : RowsAt H as tbl) (s : Same H H') : RowsAt H' as tbl := ⟨r.1, fun i a xs e1 e2 => s _ _ (r.2 i a xs e1 e2)⟩
theorem Grow.rows {H0 : Hp} {f : Nat → List Int} {n : Nat} {as : List Addr} {H' : Hp} (g : Grow H0 f n as H') : RowsAt H' as ((List.range n).map f) := by
  refine ⟨by rw [List.length_map, List.length_range]; exact g.len, fun i a xs e1 e2 => ?_⟩
  have hi : i < n := by have := (List.getElem?_eq_some_iff.mp e2).1; rw [List.length_map, List.length_range] at this; exact this
  rw [List.getElem?_map, List.getElem?_range hi] at e2
  cases e2
  exact g.row i a e1
def KeptBut (H H' : Hp) (as : List Addr) : Prop := ∀ b o, H b = some o → b ∉ as → H' b = some o
theorem KeptBut.refl (H : Hp) (as : List Addr) : KeptBut H H as := fun _ _ h _ => h
theorem KeptBut.same {H H1 H2 : Hp} {as : List Addr} (k : KeptBut H H1 as) (s : Same H1 H2) : KeptBut H H2 as := fun b o h n => s _ _ (k b o h n)
theorem KeptBut.upd {H H1 : Hp} {as : List Addr} {a : Addr} {o : HO} (k : KeptBut H H1 as) (ha : a ∈ as) : KeptBut H (upd H1 a o) as := fun b o' h n => by
  have nn : b ≠ a := fun z => n (by rw [z]; exact ha)
  rw [upd_ne nn]
  exact k b o' h n
end Rp

namespace Rp
abbrev Sight := List (Option Int)
def fitsB (k : Nat) (s : Sight) : Bool := decide (k ≤ s.length) && (s.take k).all (fun x => decide (x ≠ some 0)) && (decide (k = s.length) || decide (s[k]? ≠ some (some 1)))
def runCells (k n : Nat) : List Int := List.replicate k 1 ++ (if k < n then [0] else [])
def layL (rs : List Nat) (s : Sight) : List (List Int) :=
  match s with
  | [] => if rs = [] then [[]] else []
  | x :: t =>
    (if x = some 1 then [] else (layL rs t).map (fun c => 0 :: c)) ++
    (match rs with
     | [] => []
     | k :: rs' => if fitsB k (x :: t) = true then (layL rs' (t.drop k)).map (fun c => runCells k (t.length + 1) ++ c) else [])
termination_by s.length
decreasing_by
  · simp
  · simp; omega
theorem layL_nil (rs : List Nat) : layL rs [] = if rs = [] then [[]] else [] := by rw [layL.eq_def]
theorem layL_cons (rs : List Nat) (x : Option Int) (t : Sight) : layL rs (x :: t) = (if x = some 1 then [] else (layL rs t).map (fun c => 0 :: c)) ++
    (match rs with
     | [] => []
     | k :: rs' => if fitsB k (x :: t) = true then (layL rs' (t.drop k)).map (fun c => runCells k (t.length + 1) ++ c) else []) := by rw [layL.eq_def]
open PySem L2
def vO : Option Int → V
  | none => .non
  | some i => .int i
def sightV (s : Sight) : List V := s.map vO
def runsV (rs : List Nat) : List V := rs.map fun k => V.int (k : Nat)
def cflds (tr ls lw : Addr) : List (Str × V) := putF "ways" (.ref lw) (putF "sight" (.ref ls) (putF "runs" (.ref tr) []))
structure CP (C : Addr) (H : Hp) (c : Addr) (rs : List Nat) (s : Sight) (tbl : List (List Int)) : Prop where
  ex : ∃ dx tr ls lw, H c = some (.ins C dx (cflds tr ls lw)) ∧ H tr = some (.tup (runsV rs)) ∧ H ls = some (.lst (sightV s)) ∧ IsD H (dRows tbl) (.ref lw)
  len : tbl.length = s.length + 1
  wid : ∀ row ∈ tbl, row.length = rs.length + 1
theorem CP.mono {C : Addr} {H H' : Hp} {c : Addr} {rs : List Nat} {s : Sight} {tbl : List (List Int)} (p : CP C H c rs s tbl) (e : Same H H') : CP C H' c rs s tbl := by
  obtain ⟨dx, tr, ls, lw, h1, h2, h3, h4⟩ := p.ex
  exact ⟨⟨dx, tr, ls, lw, e _ _ h1, e _ _ h2, e _ _ h3, IsD.mono e h4⟩, p.len, p.wid⟩
theorem CP.row {C : Addr} {H : Hp} {c : Addr} {rs : List Nat} {s : Sight} {tbl : List (List Int)} (p : CP C H c rs s tbl) {i : Nat} (h : i ≤ s.length) : (tbl.getD i []).length = rs.length + 1 := by
  have hi : i < tbl.length := by have := p.len; omega
  rw [List.getD_eq_getElem?_getD, List.getElem?_eq_getElem hi]
  exact p.wid _ (List.getElem_mem hi)
end Rp

namespace Rp
def runsR (acc : Int) : List Int → List Int
  | [] => if 0 < acc then [acc] else []
  | z :: r => if z = 1 then runsR (acc + 1) r else if 0 < acc then acc :: runsR 0 r else runsR 0 r
theorem runsR_fold : ∀ (ns : List Int) (l : List Int) (acc : Int), 0 ≤ acc →
    (if 0 < (ns.foldl stepR (l, acc)).2 then (ns.foldl stepR (l, acc)).1 ++ [(ns.foldl stepR (l, acc)).2] else (ns.foldl stepR (l, acc)).1) = l ++ runsR acc ns
  | [], l, acc, h => by
    rw [List.foldl_nil]
    unfold runsR
    split <;> simp
  | z :: r, l, acc, h => by
    rw [List.foldl_cons]
    have e : stepR (l, acc) z = if z = 1 then (l, acc + 1) else if 0 < acc then (l ++ [acc], 0) else (l, acc) := rfl
    rw [e]
    unfold runsR
    by_cases h1 : z = 1
    · rw [if_pos h1, if_pos h1]
      exact runsR_fold r l (acc + 1) (by omega)
    · rw [if_neg h1, if_neg h1]
      by_cases h2 : 0 < acc
      · rw [if_pos h2, if_pos h2, runsR_fold r (l ++ [acc]) 0 (by omega)]
        simp
      · rw [if_neg h2, if_neg h2]
        have h3 : acc = 0 := by omega
        subst h3
        exact runsR_fold r l 0 (by omega)
theorem runsZ_R (ns : List Int) : runsZ ns = runsR 0 ns := by
  have := runsR_fold ns [] 0 (by omega)
  unfold runsZ foldR
  rw [this]
  rfl
def layF (rs : List Nat) (s : Sight) : List (List Int) := match rs with
  | [] => []
  | k :: rs' => if fitsB k s = true then (layL rs' (s.drop (k + 1))).map (fun c => runCells k s.length ++ c) else []
def layE (rs : List Nat) (s : Sight) : List (List Int) := match s with
  | [] => []
  | x :: t => if x = some 1 then [] else (layL rs t).map (fun c => 0 :: c)
theorem layL_parts (rs : List Nat) (x : Option Int) (t : Sight) : layL rs (x :: t) = layE rs (x :: t) ++ layF rs (x :: t) := by
  rw [layL_cons]
  congr 1
theorem layE_bits {rs : List Nat} {x : Option Int} {t : Sight} {c : List Int} (h : c ∈ layE rs (x :: t)) : ∃ c', c = 0 :: c' ∧ x ≠ some 1 ∧ c' ∈ layL rs t := by
  unfold layE at h
  have h' : c ∈ (if x = some 1 then [] else (layL rs t).map (fun c => (0 : Int) :: c)) := h
  split at h'
  · simp at h'
  · rename_i h1
    obtain ⟨c', h2, rfl⟩ := List.mem_map.mp h'
    exact ⟨c', rfl, h1, h2⟩
theorem layF_bits {rs : List Nat} {s : Sight} {c : List Int} (h : c ∈ layF rs s) : ∃ k rs' c', rs = k :: rs' ∧ fitsB k s = true ∧ c = runCells k s.length ++ c' ∧ c' ∈ layL rs' (s.drop (k + 1)) := by
  unfold layF at h
  cases rs with
  | nil => simp at h
  | cons k rs' =>
    have h' : c ∈ (if fitsB k s = true then (layL rs' (s.drop (k + 1))).map (fun c => runCells k s.length ++ c) else []) := h
    split at h'
    · rename_i h1
      obtain ⟨c', h2, rfl⟩ := List.mem_map.mp h'
      exact ⟨k, rs', c', rfl, h1, rfl, h2⟩
    · simp at h'
open L2 in
theorem lexLt_pre : ∀ (p a b : List Int), HT.lexLt (p ++ a) (p ++ b) = HT.lexLt a b
  | [], a, b => rfl
  | x :: p, a, b => by
    rw [List.cons_append, List.cons_append, HT.lexLt_cons, if_pos rfl]
    exact lexLt_pre p a b
open L2 in
theorem lay_sorted : ∀ (n : Nat) (rs : List Nat) (s : Sight), s.length = n → (∀ k ∈ rs, 1 ≤ k) → (layL rs s).Pairwise (fun a b => HT.lexLt a b = true) := by
  intro n
  induction n using Nat.strongRecOn with
  | _ n ih =>
    intro rs s hn hr
    cases s with
    | nil =>
      rw [layL_nil]
      split
      · exact List.pairwise_singleton _ _
      · exact List.Pairwise.nil
    | cons x t =>
      rw [layL_parts, List.pairwise_append]
      refine ⟨?_, ?_, ?_⟩
      · show (if x = some 1 then [] else (layL rs t).map (fun c => (0 : Int) :: c)).Pairwise _
        split
        · exact List.Pairwise.nil
        · rw [List.pairwise_map]
          refine (ih t.length (by rw [← hn]; simp) rs t rfl hr).imp fun {a b} h => ?_
          rw [HT.lexLt_cons, if_pos rfl]
          exact h
      · unfold layF
        cases rs with
        | nil => exact List.Pairwise.nil
        | cons k rs' =>
          show (if fitsB k (x :: t) = true then (layL rs' ((x :: t).drop (k + 1))).map (fun c => runCells k (x :: t).length ++ c) else []).Pairwise _
          split
          · rw [List.pairwise_map]
            refine (ih _ (by rw [← hn, List.length_drop]; simp; omega) rs' _ rfl (fun k hk => hr k (List.mem_cons_of_mem _ hk))).imp fun {a b} h => ?_
            rw [lexLt_pre]
            exact h
          · exact List.Pairwise.nil
      · intro a ha b hb
        obtain ⟨a', rfl, _⟩ := layE_bits ha
        obtain ⟨k, rs', b', e, _, rfl, _⟩ := layF_bits hb
        have hk := hr k (by rw [e]; simp)
        obtain ⟨j, rfl⟩ : ∃ j, k = j + 1 := ⟨k - 1, by omega⟩
        unfold runCells
        rw [List.replicate_succ, List.cons_append, List.cons_append, HT.lexLt_cons, if_neg (by decide)]
        rfl
end Rp

namespace Rp
open PySem L2
def sg (c : Nat) : Str := ⟨#[c]⟩
def jl (c : Nat) : List (List Nat) → List Nat
  | [] => []
  | [x] => x
  | x :: y :: r => x ++ c :: jl c (y :: r)
theorem join_list (c : Nat) : ∀ ps : List Str, (Str.join (sg c) ps).cps.toList = jl c (ps.map fun p => p.cps.toList)
  | [] => rfl
  | [x] => rfl
  | x :: y :: r => by
    show (x ++ sg c ++ Str.join (sg c) (y :: r)).cps.toList = _
    rw [Str.cps_append, Str.cps_append, Array.toList_append, Array.toList_append, join_list c (y :: r)]
    show x.cps.toList ++ [c] ++ _ = x.cps.toList ++ c :: _
    rw [List.append_assoc]
    rfl
theorem cut_first {c : Nat} : ∀ {x y r r' : List Nat}, c ∉ x → c ∉ y → x ++ c :: r = y ++ c :: r' → x = y ∧ r = r'
  | [], [], r, r', _, _, h => ⟨rfl, by injection h⟩
  | [], b :: y, r, r', _, hy, h => by injection h with h1 _; exact absurd (by rw [h1]; exact List.mem_cons_self ..) hy
  | a :: x, [], r, r', hx, _, h => by injection h with h1 _; exact absurd (by rw [← h1]; exact List.mem_cons_self ..) hx
  | a :: x, b :: y, r, r', hx, hy, h => by
    injection h with h1 h2
    obtain ⟨e1, e2⟩ := cut_first (fun z => hx (List.mem_cons_of_mem _ z)) (fun z => hy (List.mem_cons_of_mem _ z)) h2
    exact ⟨by rw [h1, e1], e2⟩
theorem jl_inj {c : Nat} : ∀ {ps qs : List (List Nat)}, ps ≠ [] → qs ≠ [] → (∀ p ∈ ps, c ∉ p) → (∀ q ∈ qs, c ∉ q) → jl c ps = jl c qs → ps = qs
  | [], _, h, _, _, _, _ => absurd rfl h
  | _ :: _, [], _, h, _, _, _ => absurd rfl h
  | [x], [y], _, _, _, _, h => by rw [show x = y from h]
  | [x], y :: z :: r, _, _, hp, _, h => by
    have h' : x = y ++ c :: jl c (z :: r) := h
    exact absurd (by rw [h']; exact List.mem_append_right _ (List.mem_cons_self ..)) (hp x (List.mem_cons_self ..))
  | x :: y :: r, [z], _, _, _, hq, h => by
    have h' : x ++ c :: jl c (y :: r) = z := h
    exact absurd (by rw [← h']; exact List.mem_append_right _ (List.mem_cons_self ..)) (hq z (List.mem_cons_self ..))
  | x :: y :: r, x' :: y' :: r', _, _, hp, hq, h => by
    have h' : x ++ c :: jl c (y :: r) = x' ++ c :: jl c (y' :: r') := h
    obtain ⟨e1, e2⟩ := cut_first (hp x (List.mem_cons_self ..)) (hq x' (List.mem_cons_self ..)) h'
    have := jl_inj (ps := y :: r) (qs := y' :: r') (by intro z; cases z) (by intro z; cases z) (fun p hp' => hp p (List.mem_cons_of_mem _ hp')) (fun q hq' => hq q (List.mem_cons_of_mem _ hq')) e2
    rw [e1, this]
theorem cps_inj : ∀ {ps qs : List Str}, (ps.map fun p => p.cps.toList) = (qs.map fun p => p.cps.toList) → ps = qs
  | [], [], _ => rfl
  | [], _ :: _, h => by cases h
  | _ :: _, [], h => by cases h
  | p :: ps, q :: qs, h => by
    rw [List.map_cons, List.map_cons] at h
    injection h with h1 h2
    rw [cps_inj h2, Str.ext' (Array.toList_inj.mp h1)]
theorem split_join {c : Nat} {ps : List Str} (hne : ps ≠ []) (hf : ∀ p ∈ ps, c ∉ p.cps.toList) : Txt.split (Str.join (sg c) ps) (sg c) = ps := by
  have h1 := StrLaws.join_split (Str.join (sg c) ps) (sg c)
  have h2 := StrLaws.split_free (Str.join (sg c) ps) c
  have h3 := PyProof.Rows.split_pos (Str.join (sg c) ps) (sg c)
  have h4 : jl c ((Txt.split (Str.join (sg c) ps) (sg c)).map fun p => p.cps.toList) = jl c (ps.map fun p => p.cps.toList) := by rw [← join_list, ← join_list, h1]
  refine cps_inj (jl_inj ?_ ?_ ?_ ?_ h4)
  · intro z
    rw [List.map_eq_nil_iff.mp z] at h3
    cases h3
  · intro z
    exact hne (List.map_eq_nil_iff.mp z)
  · intro p hp
    obtain ⟨q, hq, rfl⟩ := List.mem_map.mp hp
    exact h2 q hq
  · intro p hp
    obtain ⟨q, hq, rfl⟩ := List.mem_map.mp hp
    exact hf q hq
def runT (i : Int) : Str := Str.ofString (toString i)
def lineT (xs : List Int) : Str := if xs = [] then "0" else Str.join (sg 32) (xs.map runT)
def linesT (xss : List (List Int)) : Str := Str.join (sg 44) (xss.map lineT)
def boardT (b : List (List Int) × List (List Int)) : Str := linesT b.1 ++ "|" ++ linesT b.2
def figB (c : Nat) : Bool := decide (48 ≤ c) && decide (c ≤ 57)
def wordOk (w : Str) : Bool := decide (1 ≤ w.length) && decide (w.length ≤ 3) && decide (w.cps[0]? ≠ some 48) && w.cps.toList.all figB
def word? (w : Str) : Option Int := if wordOk w = true then intText? w else none
theorem good99 : ∀ k : Fin 100, 1 ≤ k.val → (wordOk (runT (k.val : Int)) && decide (intText? (runT (k.val : Int)) = some (k.val : Int))) = true := by decide +kernel
def smallR (xs : List Int) : Prop := ∀ x ∈ xs, 1 ≤ x ∧ x ≤ 99
theorem run_good {i : Int} (h : 1 ≤ i ∧ i ≤ 99) : wordOk (runT i) = true ∧ intText? (runT i) = some i := by
  have e : ((i.toNat : Nat) : Int) = i := by omega
  have := good99 ⟨i.toNat, by omega⟩ (by show 1 ≤ i.toNat; omega)
  rw [Bool.and_eq_true, decide_eq_true_eq] at this
  rw [show (((⟨i.toNat, by omega⟩ : Fin 100).val : Nat) : Int) = i from e] at this
  exact this
theorem wordOk_iff {w : Str} : wordOk w = true ↔ 1 ≤ w.length ∧ w.length ≤ 3 ∧ w.cps[0]? ≠ some 48 ∧ ∀ c ∈ w.cps.toList, 48 ≤ c ∧ c ≤ 57 := by
  unfold wordOk
  rw [Bool.and_eq_true, Bool.and_eq_true, Bool.and_eq_true, decide_eq_true_eq, decide_eq_true_eq, decide_eq_true_eq, List.all_eq_true]
  constructor
  · rintro ⟨⟨⟨h1, h2⟩, h3⟩, h4⟩
    refine ⟨h1, h2, h3, fun c hc => ?_⟩
    have := h4 c hc
    unfold figB at this
    rw [Bool.and_eq_true, decide_eq_true_eq, decide_eq_true_eq] at this
    exact this
  · rintro ⟨h1, h2, h3, h4⟩
    refine ⟨⟨⟨h1, h2⟩, h3⟩, fun c hc => ?_⟩
    unfold figB
    rw [Bool.and_eq_true, decide_eq_true_eq, decide_eq_true_eq]
    exact h4 c hc
theorem mem_jl {s c : Nat} : ∀ {ps : List (List Nat)}, c ∈ jl s ps → c = s ∨ ∃ p ∈ ps, c ∈ p
  | [], h => by cases h
  | [x], h => .inr ⟨x, List.mem_cons_self .., h⟩
  | x :: y :: r, h => by
    have h' : c ∈ x ++ s :: jl s (y :: r) := h
    rcases List.mem_append.mp h' with q | q
    · exact .inr ⟨x, List.mem_cons_self .., q⟩
    · rcases List.mem_cons.mp q with q | q
      · exact .inl q
      · rcases mem_jl q with q | ⟨p, hp, q⟩
        · exact .inl q
        · exact .inr ⟨p, List.mem_cons_of_mem _ hp, q⟩
theorem lineT_chars {xs : List Int} (h : smallR xs) : ∀ c ∈ (lineT xs).cps.toList, c = 32 ∨ (48 ≤ c ∧ c ≤ 57) := fun c hc => by
  unfold lineT at hc
  split at hc
  · have : c = 48 := by simpa using (show c ∈ [48] from hc)
    omega
  · rw [join_list] at hc
    rcases mem_jl hc with q | ⟨p, hp, q⟩
    · exact .inl q
    · rw [List.map_map] at hp
      obtain ⟨x, hx, rfl⟩ := List.mem_map.mp hp
      exact .inr ((wordOk_iff.mp (run_good (h x hx)).1).2.2.2 c q)
theorem linesT_split {xss : List (List Int)} (h : ∀ xs ∈ xss, smallR xs) (hne : xss ≠ []) : Txt.split (linesT xss) (sg 44) = xss.map lineT := by
  refine split_join (fun z => hne (List.map_eq_nil_iff.mp z)) fun p hp z => ?_
  obtain ⟨x, hx, rfl⟩ := List.mem_map.mp hp
  have := lineT_chars (h x hx) _ z
  omega
theorem linesT_chars {xss : List (List Int)} (h : ∀ xs ∈ xss, smallR xs) : ∀ c ∈ (linesT xss).cps.toList, c = 44 ∨ c = 32 ∨ (48 ≤ c ∧ c ≤ 57) := fun c hc => by
  unfold linesT at hc
  rw [join_list] at hc
  rcases mem_jl hc with q | ⟨p, hp, q⟩
  · exact .inl q
  · rw [List.map_map] at hp
    obtain ⟨x, hx, rfl⟩ := List.mem_map.mp hp
    exact .inr (lineT_chars (h x hx) c q)
theorem boardT_split {b : List (List Int) × List (List Int)} (h1 : ∀ xs ∈ b.1, smallR xs) (h2 : ∀ xs ∈ b.2, smallR xs) : Txt.split (boardT b) (sg 124) = [linesT b.1, linesT b.2] := by
  have e : boardT b = Str.join (sg 124) [linesT b.1, linesT b.2] := rfl
  rw [e]
  refine split_join (by intro z; cases z) fun p hp z => ?_
  rcases List.mem_cons.mp hp with rfl | hp
  · have := linesT_chars h1 _ z; omega
  · rw [List.mem_singleton.mp hp] at z
    have := linesT_chars h2 _ z; omega
theorem runT_len {i : Int} (h : 1 ≤ i ∧ i ≤ 99) : (runT i).length ≤ 3 := (wordOk_iff.mp (run_good h).1).2.1
theorem sum_le {l : List Str} {B : Nat} (h : ∀ y ∈ l, y.length ≤ B) : (l.map (·.length)).sum ≤ l.length * B := by
  induction l with
  | nil => simp
  | cons a l ih =>
    rw [List.map_cons, List.sum_cons, List.length_cons, Nat.add_mul]
    have h1 := h a (List.mem_cons_self ..)
    have h2 := ih fun y hy => h y (List.mem_cons_of_mem _ hy)
    omega
theorem join_len {c B n : Nat} {l : List Str} (h : ∀ y ∈ l, y.length ≤ B) (hn : l.length ≤ n) : (Str.join (sg c) l).length ≤ n * B + n := by
  have h1 := StrLaws.join_length_le (sg c) l
  have h2 := sum_le h
  have h3 : (sg c).length = 1 := rfl
  rw [h3, Nat.mul_one] at h1
  have h4 : l.length * B ≤ n * B := Nat.mul_le_mul_right _ hn
  omega
theorem lineT_len {xs : List Int} (h : smallR xs) (hn : xs.length ≤ 14) : (lineT xs).length ≤ 56 := by
  unfold lineT
  split
  · show 1 ≤ 56; decide
  · refine join_len (n := 14) (B := 3) (fun y hy => ?_) (by rw [List.length_map]; exact hn)
    obtain ⟨x, hx, rfl⟩ := List.mem_map.mp hy
    exact runT_len (h x hx)
theorem linesT_len {xss : List (List Int)} (h : ∀ xs ∈ xss, smallR xs ∧ xs.length ≤ 14) (hn : xss.length ≤ 13) : (linesT xss).length ≤ 741 := by
  refine join_len (n := 13) (B := 56) (fun y hy => ?_) (by rw [List.length_map]; exact hn)
  obtain ⟨x, hx, rfl⟩ := List.mem_map.mp hy
  exact lineT_len (h x hx).1 (h x hx).2
theorem joinOk_of {c B : Nat} {l : List Str} (h : ∀ y ∈ l, y.length ≤ B) (hB : B ≤ 1000) (hn : l.length ≤ 100) : JoinOk (sg c) l = true := by
  unfold JoinOk
  rw [StrLaws.joinFits (B := B) h (by
    have h3 : (sg c).length = 1 := rfl
    rw [h3]
    have : l.length * B ≤ 100 * 1000 := Nat.mul_le_mul hn hB
    omega)]
  rfl
end Rp

namespace Rp
open PySem L2
def allO {α β : Type} (f : α → Option β) : List α → Option (List β)
  | [] => some []
  | a :: r => match f a, allO f r with
    | some b, some bs => some (b :: bs)
    | _, _ => none
theorem allO_eq {α β : Type} (f : α → Option β) (a : α) (r : List α) : allO f (a :: r) = (match f a, allO f r with | some b, some bs => some (b :: bs) | _, _ => none) := rfl
theorem allO_cons {α β : Type} {f : α → Option β} {a : α} {r : List α} {bs : List β} : allO f (a :: r) = some bs ↔ ∃ b cs, f a = some b ∧ allO f r = some cs ∧ bs = b :: cs := by
  rw [allO_eq]
  generalize f a = u
  generalize allO f r = v
  cases u with
  | none => simp
  | some b =>
    cases v with
    | none => simp
    | some cs =>
      constructor
      · intro h
        exact ⟨b, cs, rfl, rfl, (Option.some.inj h).symm⟩
      · rintro ⟨b', cs', h1, h2, rfl⟩
        cases h1
        cases h2
        rfl
theorem allO_snoc {α β : Type} {f : α → Option β} {x : α} {z : β} (hx : f x = some z) : ∀ {l : List α} {zs : List β}, allO f l = some zs → allO f (l ++ [x]) = some (zs ++ [z])
  | [], zs, h => by
    cases (Option.some.inj h)
    exact allO_cons.mpr ⟨z, [], hx, rfl, rfl⟩
  | a :: r, zs, h => by
    obtain ⟨b, cs, h1, h2, rfl⟩ := allO_cons.mp h
    exact allO_cons.mpr ⟨b, cs ++ [z], h1, allO_snoc hx h2, rfl⟩
theorem allO_take {α β : Type} {f : α → Option β} {l : List α} {x : α} {z : β} {zs : List β} {j : Nat} (hj : l[j]? = some x) (hx : f x = some z) (h : allO f (l.take j) = some zs) : allO f (l.take (j + 1)) = some (zs ++ [z]) := by
  rw [List.take_add_one, hj]
  exact allO_snoc hx h
theorem allO_none {α β : Type} {f : α → Option β} {x : α} (hx : f x = none) : ∀ {l : List α}, x ∈ l → allO f l = none
  | a :: r, h => by
    cases q : allO f (a :: r) with
    | none => rfl
    | some bs =>
      obtain ⟨b, cs, h1, h2, _⟩ := allO_cons.mp q
      rcases List.mem_cons.mp h with e | e
      · rw [← e, hx] at h1; cases h1
      · rw [allO_none hx e] at h2; cases h2
theorem allO_len {α β : Type} {f : α → Option β} : ∀ {l : List α} {zs : List β}, allO f l = some zs → zs.length = l.length
  | [], zs, h => by cases (Option.some.inj h); rfl
  | a :: r, zs, h => by
    obtain ⟨b, cs, h1, h2, rfl⟩ := allO_cons.mp h
    rw [List.length_cons, List.length_cons, allO_len h2]
theorem allO_mem {α β : Type} {f : α → Option β} : ∀ {l : List α} {zs : List β} {z : β}, allO f l = some zs → z ∈ zs → ∃ x ∈ l, f x = some z
  | [], zs, z, h, hz => by cases (Option.some.inj h); cases hz
  | a :: r, zs, z, h, hz => by
    obtain ⟨b, cs, h1, h2, rfl⟩ := allO_cons.mp h
    rcases List.mem_cons.mp hz with e | e
    · exact ⟨a, List.mem_cons_self .., by rw [e]; exact h1⟩
    · obtain ⟨x, hx, q⟩ := allO_mem h2 e
      exact ⟨x, List.mem_cons_of_mem _ hx, q⟩
def lineO (t : Str) : Option (List Int) := if t = "0" then some [] else allO word? (Txt.split t (sg 32))
def linesO (t : Str) : Option (List (List Int)) := allO lineO (Txt.split t (sg 44))
def boardO (t : Str) : Option (List (List Int) × List (List Int)) :=
  match Txt.split t (sg 124) with
  | [p, q] => (match linesO p, linesO q with
    | some a, some b => some (a, b)
    | _, _ => none)
  | _ => none
theorem figv3 : ∀ a b c : Fin 10, intText? ⟨#[48 + a.val, 48 + b.val, 48 + c.val]⟩ = some ((100 * a.val + 10 * b.val + c.val : Nat) : Int) := by decide +kernel
theorem figv2 : ∀ a b : Fin 10, intText? ⟨#[48 + a.val, 48 + b.val]⟩ = some ((10 * a.val + b.val : Nat) : Int) := by decide +kernel
theorem figv1 : ∀ a : Fin 10, intText? ⟨#[48 + a.val]⟩ = some ((a.val : Nat) : Int) := by decide +kernel
theorem fig_of {c : Nat} (h : 48 ≤ c ∧ c ≤ 57) : ∃ a : Fin 10, c = 48 + a.val := ⟨⟨c - 48, by omega⟩, by show c = 48 + (c - 48); omega⟩
theorem word_some {w : Str} (h : wordOk w = true) : ∃ i : Int, intText? w = some i ∧ 1 ≤ i := by
  obtain ⟨h1, h2, h3, h4⟩ := wordOk_iff.mp h
  obtain ⟨⟨l⟩⟩ := w
  have h1' : 1 ≤ l.length := h1
  have h2' : l.length ≤ 3 := h2
  have h4' : ∀ c ∈ l, 48 ≤ c ∧ c ≤ 57 := h4
  match l, h1', h2', h4', h3 with
  | [x], _, _, h4', h3 =>
    obtain ⟨a, rfl⟩ := fig_of (h4' x (by simp))
    refine ⟨_, figv1 a, ?_⟩
    have : 48 + a.val ≠ 48 := fun z => h3 (by rw [z]; rfl)
    omega
  | [x, y], _, _, h4', h3 =>
    obtain ⟨a, rfl⟩ := fig_of (h4' x (by simp))
    obtain ⟨b, rfl⟩ := fig_of (h4' y (by simp))
    refine ⟨_, figv2 a b, ?_⟩
    have : 48 + a.val ≠ 48 := fun z => h3 (by rw [z]; rfl)
    omega
  | [x, y, z], _, _, h4', h3 =>
    obtain ⟨a, rfl⟩ := fig_of (h4' x (by simp))
    obtain ⟨b, rfl⟩ := fig_of (h4' y (by simp))
    obtain ⟨c, rfl⟩ := fig_of (h4' z (by simp))
    refine ⟨_, figv3 a b c, ?_⟩
    have : 48 + a.val ≠ 48 := fun z => h3 (by rw [z]; rfl)
    omega
theorem word_ok {w : Str} {i : Int} (h : word? w = some i) : wordOk w = true ∧ intText? w = some i ∧ 1 ≤ i := by
  unfold word? at h
  by_cases q : wordOk w = true
  · rw [if_pos q] at h
    obtain ⟨j, h1, h2⟩ := word_some q
    rw [h] at h1
    cases h1
    exact ⟨q, h, h2⟩
  · rw [if_neg q] at h; cases h
theorem line_pos {t : Str} {xs : List Int} (h : lineO t = some xs) : ∀ x ∈ xs, 1 ≤ x := fun x hx => by
  unfold lineO at h
  split at h
  · cases (Option.some.inj h); cases hx
  · obtain ⟨w, _, hw⟩ := allO_mem h hx
    exact (word_ok hw).2.2
theorem lines_pos {t : Str} {xss : List (List Int)} (h : linesO t = some xss) : ∀ xs ∈ xss, ∀ x ∈ xs, 1 ≤ x := fun xs hx => by
  obtain ⟨w, _, hw⟩ := allO_mem h hx
  exact line_pos hw
theorem jl_len {c : Nat} : ∀ {ps : List (List Nat)} {p : List Nat}, p ∈ ps → p.length ≤ (jl c ps).length
  | [x], p, h => by rw [List.mem_singleton.mp h]; exact Nat.le_refl _
  | x :: y :: r, p, h => by
    show p.length ≤ (x ++ c :: jl c (y :: r)).length
    rw [List.length_append, List.length_cons]
    rcases List.mem_cons.mp h with e | e
    · rw [e]; omega
    · have := jl_len (c := c) e; omega
theorem split_part {t : Str} {c : Nat} {p : Str} (h : p ∈ Txt.split t (sg c)) : p.length ≤ t.length := by
  have h1 := StrLaws.join_split t (sg c)
  have h2 := jl_len (c := c) (List.mem_map.mpr ⟨p, h, rfl⟩ : p.cps.toList ∈ (Txt.split t (sg c)).map fun p => p.cps.toList)
  rw [← join_list, h1] at h2
  show p.cps.size ≤ t.cps.size
  simpa using h2
theorem split_num (t : Str) (c : Nat) : (Txt.split t (sg c)).length ≤ t.length + 2 := PyProof.Rows.split_le t (sg c)
theorem split_one (t : Str) (c : Nat) : 1 ≤ (Txt.split t (sg c)).length := PyProof.Rows.split_pos t (sg c)
theorem line_len {t : Str} {xs : List Int} (h : lineO t = some xs) : xs.length ≤ t.length + 2 := by
  unfold lineO at h
  split at h
  · cases (Option.some.inj h); exact Nat.zero_le _
  · rw [allO_len h]; exact split_num t 32
theorem lines_len {t : Str} {xss : List (List Int)} (h : linesO t = some xss) : 1 ≤ xss.length ∧ xss.length ≤ t.length + 2 ∧ ∀ xs ∈ xss, xs.length ≤ t.length + 2 := by
  refine ⟨by rw [allO_len h]; exact split_one t 44, by rw [allO_len h]; exact split_num t 44, fun xs hx => ?_⟩
  obtain ⟨w, hw, hl⟩ := allO_mem h hx
  have := split_part hw
  have := line_len hl
  omega
theorem board_some {t : Str} {b : List (List Int) × List (List Int)} (h : boardO t = some b) : ∃ p q, Txt.split t (sg 124) = [p, q] ∧ linesO p = some b.1 ∧ linesO q = some b.2 := by
  unfold boardO at h
  split at h
  · rename_i p q hs
    refine ⟨p, q, hs, ?_⟩
    split at h
    · rename_i a b' ha hb
      cases (Option.some.inj h)
      exact ⟨ha, hb⟩
    · cases h
  · cases h
theorem board_eq {t p q : Str} {a b : List (List Int)} (hs : Txt.split t (sg 124) = [p, q]) (ha : linesO p = some a) (hb : linesO q = some b) : boardO t = some (a, b) := by
  unfold boardO
  rw [hs]
  dsimp only
  rw [ha, hb]
theorem board_none {t : Str} (h : ∀ p q, Txt.split t (sg 124) = [p, q] → linesO p = none ∨ linesO q = none) : boardO t = none := by
  cases e : boardO t with
  | none => rfl
  | some b =>
    obtain ⟨p, q, hs, h1, h2⟩ := board_some e
    rcases h p q hs with z | z
    · rw [z] at h1; cases h1
    · rw [z] at h2; cases h2
end Rp

namespace K14
open PySem L2 Rp
def top (i : Nat) : Stmt := PySem.Challenge.pw_runpaint_k14_read.main.body.getD i (.Pass ⟨0, 0, 0, 0⟩)
abbrev s_looked : Stmt := top 10
abbrev s_refuse_too_many : Stmt := top 11
abbrev s_refuse_bad_runs : Stmt := top 12
abbrev s_refuse_wide : Stmt := top 13
abbrev s_read : Stmt := top 17
abbrev s_lines_read : Stmt := top 18
abbrev s_runs_read : Stmt := top 19
abbrev s_run_read : Stmt := top 20
abbrev s__law_cell_at : Stmt := top 22
abbrev s__law_whole : Stmt := top 23
abbrev s__law_mix : Stmt := top 24
abbrev s__law_runs : Stmt := top 25
abbrev s__law_picture : Stmt := top 26
abbrev s__law_column : Stmt := top 27
abbrev s__law_board : Stmt := top 28
abbrev s__law_lines : Stmt := top 29
abbrev s__law_text : Stmt := top 30
abbrev s__law_refused : Stmt := top 31
abbrev s__law_told : Stmt := top 32
abbrev s__law_line_of : Stmt := top 33
abbrev s__law_due : Stmt := top 34
abbrev s__law_odd : Stmt := top 35
abbrev s__law_lined : Stmt := top 36
abbrev s_law : Stmt := top 37
section
variable {P : Program} {w : World} {K : PySem.W.Frag} {mg : Str → Option Value} {base : Heap}
def sp__law_cell_at (K : PySem.W.Frag) : Sp := fun vs H Q _ => ∃ (a : Addr) (ns : List Int) (i : Nat), vs = [.ref a, .int i] ∧ SqL K H a (ns.map V.int) ∧ Q (.int (cellZ ns i)) H
theorem sc__law_cell_at : FnScope ["script", "k"] ["script", "k"] (defScope s__law_cell_at) := ⟨rfl, rfl, rfl, by decide +kernel, rfl, by decide +kernel, by decide +kernel⟩
theorem ok__law_cell_at {f : Addr} {fd : FuncData} (F : Fun K "_law_cell_at" "_law_cell_at" s__law_cell_at f fd) (B : Bt mg) : FnOk P w K mg base CX0 1 f fd ["script", "k"] (sp__law_cell_at K) := by
  refine F.ok sc__law_cell_at (fun vs H Q E h => ?_) (fun cdv A outer s H vs Q E hr h => ?_)
  · obtain ⟨a, ns, i, rfl, _⟩ := h
    rfl
  · obtain ⟨a, ns, i, rfl, hS, k⟩ := h
    refine ⟨_, (pss_cons (ps_if (pt_cmpR op_lt (pv 1) (pe_callB call_len_seq rfl B.len bt_len (pa_cons (pv 0) pa_nil)) (nomark _))
      (pss_one (ps_ret (pe_ix ix_list (pv 0) (pv 1) (fun _ _ => rfl))))
      pss_nil)
      (pss_one (ps_ret pe_int))), ?_⟩
    refine ⟨_, rfl, _, rfl, a, _, rfl, .inl hS, _, _, rfl, rfl, _, rfl, ?_⟩
    rw [List.length_map]
    refine ite2 (fun hc => ?_) (fun hc => ?_)
    · have hi : i < ns.length := by have := of_decide_eq_true hc; omega
      refine ⟨_, rfl, _, rfl, a, _, _, .int (cellZ ns i), rfl, rfl, hS, atI_nat ?_, k⟩
      unfold cellZ
      rw [List.getElem?_map, List.getElem?_eq_getElem hi, List.getD_eq_getElem?_getD, List.getElem?_eq_getElem hi]
      rfl
    · have hi : ns.length ≤ i := by have : ¬ (i : Int) < ns.length := fun z => hc (decide_eq_true z); omega
      have e : cellZ ns i = 0 := by
        unfold cellZ
        rw [List.getD_eq_getElem?_getD, List.getElem?_eq_none hi]
        rfl
      rw [e] at k
      exact k

def sp__law_whole : Sp := fun vs H Q _ => ∃ (x : V), vs = [x] ∧ ((∃ i, x = .int i ∧ Q (.bl true) H) ∨ (x = .non ∧ Q (.bl false) H) ∨ (∃ b, x = .bl b ∧ Q (.bl false) H))
theorem sc__law_whole : FnScope ["x"] ["x"] (defScope s__law_whole) := ⟨rfl, rfl, rfl, by decide +kernel, rfl, by decide +kernel, by decide +kernel⟩
theorem ok__law_whole {f : Addr} {fd : FuncData} (F : Fun K "_law_whole" "_law_whole" s__law_whole f fd) (B : Bt mg) : FnOk P w K mg base CX0 1 f fd ["x"] sp__law_whole := by
  refine F.ok sc__law_whole (fun vs H Q E h => ?_) (fun cdv A outer s H vs Q E hr h => ?_)
  · obtain ⟨x, rfl, _⟩ := h
    rfl
  · obtain ⟨x, rfl, h⟩ := h
    refine ⟨_, (pss_one (ps_ret (pe_and (pe_callB call_isinst rfl B.isinstance bt_isinstance (pa_cons (pv 0) (pa_cons (pe_bltn (v := .ty "int") rfl B.int bt_int rfl) pa_nil))) (pe_one (pe_not (pe_callB call_isinst rfl B.isinstance bt_isinstance (pa_cons (pv 0) (pa_cons (pe_bltn (v := .ty "bool") rfl B.bool bt_bool rfl) pa_nil)))))))), ?_⟩
    rcases h with ⟨i, rfl, k⟩ | ⟨rfl, k⟩ | ⟨b, rfl, k⟩
    · refine ⟨_, rfl, _, _, _, true, rfl, fun _ z => z, .int i, rfl, _, rfl, iteT ?_⟩
      exact ⟨_, rfl, _, _, _, false, rfl, fun _ z => z, .int i, rfl, _, rfl, k⟩
    · refine ⟨_, rfl, _, _, _, false, rfl, fun _ z => z, .non, rfl, _, rfl, iteF k⟩
    · refine ⟨_, rfl, _, _, _, true, rfl, fun _ z => z, .bl b, rfl, _, rfl, iteT ?_⟩
      exact ⟨_, rfl, _, _, _, true, rfl, fun _ z => z, .bl b, rfl, _, rfl, k⟩

def sp__law_mix : Sp := fun vs H Q _ => ∃ (c k : Int), vs = [.int c, .int k] ∧ Q (.int (mixZ c k)) H
theorem sc__law_mix : FnScope ["cell", "k", "mixed"] ["cell", "k"] (defScope s__law_mix) := ⟨rfl, rfl, rfl, by decide +kernel, rfl, by decide +kernel, by decide +kernel⟩
theorem ok__law_mix {f : Addr} {fd : FuncData} (F : Fun K "_law_mix" "_law_mix" s__law_mix f fd) : FnOk P w K mg base CX0 1 f fd ["cell", "k"] sp__law_mix := by
  refine F.ok sc__law_mix (fun vs H Q E h => ?_) (fun cdv A outer s H vs Q E hr h => ?_)
  · obtain ⟨c, k, rfl, _⟩ := h
    rfl
  · obtain ⟨c, kk, rfl, k⟩ := h
    refine ⟨_, (pss_cons (ps_set (i := 2) sc__law_mix.nd rfl (Or.inl rfl) (pe_op op_mod (pe_op op_add (pe_op op_add (pe_op op_mul (pv 0) pe_int) (pe_op op_mul pe_int (pv 1))) pe_int) pe_int))
      (pss_one (ps_ret (pe_op op_mod (pe_op op_add (pe_op op_add (pe_op op_mul (pv 2) (pv 2)) (pe_op op_mul pe_int (pv 2))) (pv 1)) pe_int)))), ?_⟩
    have hm := mixed_lt c kk
    refine ⟨_, rfl, _, _, rfl, rfl, .inr ⟨by decide, by decide⟩, _, rfl, _, _, rfl, rfl, .inl ⟨by decide, by decide⟩, _, _, rfl, rfl, _, _, rfl, rfl, _, _, rfl, rfl, (pz rfl), ?_⟩
    refine ⟨_, rfl, _, rfl, _, _, rfl, rfl, .inl ⟨by omega, by omega⟩, _, rfl, _, _, rfl, rfl, .inl ⟨by decide, by decide⟩, _, _, rfl, rfl, _, rfl, _, _, rfl, rfl, _, _, rfl, rfl, (pz rfl), k⟩

theorem sc__law_runs : FnScope ["cells", "found", "count", "cell"] ["cells"] (defScope s__law_runs) := ⟨rfl, rfl, rfl, by decide +kernel, rfl, by decide +kernel, by decide +kernel⟩
def sp__law_runs : Sp := fun vs H Q _ => ∃ (a : Addr) (ns : List Int), vs = [.ref a] ∧ H a = some (.lst (ns.map V.int)) ∧ ns.length ≤ 999 ∧
  ∀ (t : Addr) (H' : Hp), Same H H' → H t = none → H' t = some (.tup ((runsZ ns).map V.int)) → Q (.ref t) H'
theorem ok__law_runs {f : Addr} {fd : FuncData} (F : Fun K "_law_runs" "_law_runs" s__law_runs f fd) (B : Bt mg) : FnOk P w K mg base CX0 1 f fd ["cells"] sp__law_runs := by
  refine F.ok sc__law_runs (fun vs H Q E h => ?_) (fun cdv A outer s H vs Q E hr h => ?_)
  · obtain ⟨a, ns, rfl, _⟩ := h
    rfl
  · obtain ⟨a, ns, rfl, hS, hn, k⟩ := h
    refine ⟨_, (pss_cons (ps_set (i := 1) sc__law_runs.nd rfl (Or.inl rfl) (pe_lst pa_nil))
      (pss_cons (ps_set (i := 2) sc__law_runs.nd rfl (Or.inl rfl) pe_int)
      (pss_cons (ps_for PassesOwn.never rfl (pi_list (pe_op op_cat (pv 0) (pe_lst (pa_cons pe_int pa_nil)))) (pg_name (i := 3) sc__law_runs.nd rfl (Or.inl rfl))
      (pss_one (ps_if (pt_cmpR op_eq (pv 3) pe_int (nomark _))
      (pss_one (ps_set (i := 2) sc__law_runs.nd rfl (Or.inl rfl) (pe_op op_add (pv 2) pe_int)))
      (pss_one (ps_if (pt_cmpR op_gt (pv 2) pe_int (nomark _))
      (pss_cons (ps_expr (pe_bm PySem.F.plainAttrs_list PySem.F.slot_list_append PySem.F.type_list_append mt_append (pv 1) (pa_cons (pv 2) pa_nil)))
      (pss_one (ps_set (i := 2) sc__law_runs.nd rfl (Or.inl rfl) pe_int)))
      pss_nil)))))
      (pss_one (ps_ret (pe_callTy call_tuple_of rfl B.tuple bt_tuple (pa_cons (pv 1) pa_nil))))))), ?_⟩
    refine ⟨Nat.zero_le _, fun l hl => ?_⟩
    have s1 : ∀ o, Same H (upd H l o) := fun o => same_upd hl
    -- cells + [0]
    refine ⟨_, rfl, (by show 1 ≤ sizeLine; decide), fun z hz => ?_⟩
    have nla : a ≠ l := ne_of_none hS hl
    have nza : a ≠ z := ne_of_none (s1 _ _ _ hS) hz
    have nzl : z ≠ l := fun e => by subst e; rw [upd_same] at hz; cases hz
    refine ⟨a, z, _, _, rfl, rfl, (by rw [upd_ne nza]; exact s1 _ _ _ hS), upd_same, (by rw [List.length_map]; exact Nat.le_of_lt (small1000 (by show ns.length + 1 ≤ 1000; omega))), fun c hc => ?_⟩
    have nHz : H z = none := (s1 _).free hz
    have nHc : H c = none := (s1 (.lst [])).free ((same_upd hz).free hc)
    have ncl : c ≠ l := fun e => by subst e; rw [upd_ne (Ne.symm nzl), upd_same] at hc; cases hc
    have ncz : c ≠ z := fun e => by subst e; rw [upd_same] at hc; cases hc
    have eN : ns.map V.int ++ [V.int 0] = (ns ++ [0]).map V.int := by rw [List.map_append]; rfl
    rw [eN]
    refine ⟨c, rfl, ⟨_, SqL.of upd_same⟩, for_list (K := K) (a := c) (xs := (ns ++ [0]).map V.int) (fun i σ H2 => ∃ v : Option V, σ = [some (.ref a), some (.ref l), some (.int (foldR ((ns ++ [0]).take i)).2), v] ∧ Same H H2 ∧ H2 c = some (.lst ((ns ++ [0]).map V.int)) ∧ H2 l = some (.lst ((foldR ((ns ++ [0]).take i)).1.map V.int)))
      ⟨none, rfl, same_upd' (same_upd' (s1 _) nHz) nHc, upd_same, by rw [upd_ne (Ne.symm ncl), upd_ne (Ne.symm nzl), upd_same]; rfl⟩ ?_ ?_ ?_⟩
    · rintro i σ H2 _ ⟨v, rfl, _, hc2, _⟩
      exact SqL.of hc2
    · rintro i x σ H2 hi ⟨v, rfl, s2, hc2, hl2⟩
      obtain ⟨z, hz, rfl⟩ := map_get hi
      have hlen : (foldR ((ns ++ [0]).take i)).1.length ≤ 1000 := Nat.le_trans (foldR_length _) (by rw [List.length_take, List.length_append, List.length_singleton]; omega)
      have hst := foldR_take hz
      refine ⟨_, rfl, rfl, _, rfl, ?_⟩
      refine ite2 (fun hc => ?_) (fun hc => ?_)
      · have hz1 : z = 1 := dec_int1.mp hc
        refine ⟨_, rfl, _, _, rfl, rfl, ?_⟩
        show ∃ v, _
        rw [hst]
        unfold stepR
        rw [if_pos hz1]
        exact ⟨_, rfl, s2, hc2, hl2⟩
      · have hz1 : z ≠ 1 := fun e => hc (dec_int1.mpr e)
        refine ⟨_, rfl, _, _, rfl, rfl, _, rfl, ?_⟩
        refine ite2 (fun hp => ?_) (fun hp => ?_)
        · have hp' := of_decide_eq_true hp
          refine ⟨_, rfl, .inl ⟨rfl, _, SqL.of hl2⟩, _, rfl, l, _, _, rfl, rfl, hl2, small1000 (by rw [List.length_map]; exact hlen), ?_⟩
          show ∃ v, _
          rw [hst]
          unfold stepR
          rw [if_neg hz1, if_pos hp']
          refine ⟨_, rfl, same_upd' s2 hl, by rw [upd_ne ncl]; exact hc2, ?_⟩
          rw [upd_same, List.map_append]
          rfl
        · have hp' : ¬ 0 < (foldR ((ns ++ [0]).take i)).2 := fun e => hp (decide_eq_true e)
          show ∃ v, _
          rw [hst]
          unfold stepR
          rw [if_neg hz1, if_neg hp']
          exact ⟨_, rfl, s2, hc2, hl2⟩
    · rintro σ H2 ⟨v, rfl, s2, hc2, hl2⟩
      rw [List.length_map, List.take_length, runs_zero] at hl2
      refine ⟨_, rfl, l, _, rfl, .inl ⟨SqL.of hl2, fun t ht => ?_⟩⟩
      exact k t _ (same_upd' s2 (s2.free ht)) (s2.free ht) upd_same
end

section
variable {P : Program} {w : World} {K : PySem.W.Frag} {mg : Str → Option Value} {base : Heap} {TM BR W : Addr}
def lineBad (xs : List Int) : Bool := xs.any fun x => decide (x < 1)
def lineWide (n : Int) (xs : List Int) : Bool := decide (n < xs.sum + (xs.length : Nat) - 1)
def sp_tm (TM : Addr) : Sp := fun vs H Q E => ∃ (t : Addr) (xs : List V), vs = [.ref t] ∧ H t = some (.tup xs) ∧ ((1 ≤ xs.length ∧ xs.length ≤ 12) → Q .non H) ∧ (¬ (1 ≤ xs.length ∧ xs.length ≤ 12) → E (.ref TM) none H)
theorem sc_refuse_too_many : FnScope ["lines"] ["lines"] (defScope s_refuse_too_many) := ⟨rfl, rfl, rfl, by decide +kernel, rfl, by decide +kernel, by decide +kernel⟩
theorem ok_refuse_too_many {f : Addr} {fd : FuncData} {tk : Tok} (F : Fun K "refuse_too_many" "refuse_too_many" s_refuse_too_many f fd) (B : Bt mg) (hM : mg "MOST_LINES" = some (.int 12 tk)) (hm : mg "TooMany" = some (.ref TM)) (hX : ExcC K TM) : FnOk P w K mg base (CXe P w) 1 f fd ["lines"] (sp_tm TM) := by
  refine F.okX sc_refuse_too_many (fun vs H Q E h => ?_) (fun cdv A outer s H vs Q E hr h => ?_)
  · obtain ⟨t, xs, rfl, _⟩ := h
    rfl
  · obtain ⟨t, xs, rfl, ht, k1, k2⟩ := h
    refine ⟨_, (pss_one (ps_if (PW.pt (pw_or (pt_cmpR op_lt (pe_callB (call_lenK K) rfl B.len bt_len (pa_cons (pv 0) pa_nil)) pe_int (nomark _)) (pw_or1 (pt_cmpR op_gt (pe_callB (call_lenK K) rfl B.len bt_len (pa_cons (pv 0) pa_nil)) (pe_glob (v := .int 12) rfl hM ⟨_, rfl⟩) (nomark _)))))
      (pss_one (ps_raise hm hX.ex hX.be (pa_cons pe_str pa_nil)))
      pss_nil)), ?_⟩
    refine ⟨_, rfl, t, _, rfl, .inr (SqT.of ht), _, _, rfl, rfl, _, rfl, ?_⟩
    by_cases h1 : xs.length < 1
    · rw [decide_eq_true (show ((xs.length : Nat) : Int) < 1 by omega)]
      exact iteT (iteT ⟨by show 1 ≤ 10; decide, k2 (by omega)⟩)
    · rw [decide_eq_false (show ¬ ((xs.length : Nat) : Int) < 1 by omega)]
      refine iteF ⟨_, rfl, t, _, rfl, .inr (SqT.of ht), _, _, rfl, rfl, _, rfl, ?_⟩
      by_cases h2 : 12 < xs.length
      · rw [decide_eq_true (show (12 : Int) < ((xs.length : Nat) : Int) by omega)]
        exact iteT ⟨by show 1 ≤ 10; decide, k2 (by omega)⟩
      · rw [decide_eq_false (show ¬ (12 : Int) < ((xs.length : Nat) : Int) by omega)]
        exact iteF (k1 (by omega))
def sp_br (BR : Addr) : Sp := fun vs H Q E => ∃ (t : Addr) (xss : List (List Int)), vs = [.ref t] ∧ IsD H (dTups xss) (.ref t) ∧ xss.length ≤ 1900 ∧ (∀ xs ∈ xss, xs.length ≤ 1900) ∧ (xss.any lineBad = false → ∀ H', Same H H' → Q .non H') ∧ (xss.any lineBad = true → ∀ H', Same H H' → E (.ref BR) none H')
theorem sc_refuse_bad_runs : FnScope ["lines", "runs"] ["lines"] (defScope s_refuse_bad_runs) := ⟨rfl, rfl, rfl, by decide +kernel, rfl, by decide +kernel, by decide +kernel⟩
theorem ok_refuse_bad_runs {f : Addr} {fd : FuncData} (F : Fun K "refuse_bad_runs" "refuse_bad_runs" s_refuse_bad_runs f fd) (B : Bt mg) (hm : mg "BadRun" = some (.ref BR)) (hX : ExcC K BR) : FnOk P w K mg base (CXe P w) 1 f fd ["lines"] (sp_br BR) := by
  refine F.okX sc_refuse_bad_runs (fun vs H Q E h => ?_) (fun cdv A outer s H vs Q E hr h => ?_)
  · obtain ⟨t, xss, rfl, _⟩ := h
    rfl
  · obtain ⟨t, xss, rfl, hd, hn, hw, k1, k2⟩ := h
    refine ⟨_, (pss_one (ps_for PassesOwn.leaving rfl (pi_tupK K (pv 0)) (pg_name (i := 1) sc_refuse_bad_runs.nd rfl (Or.inl rfl))
      (pss_one (ps_if (pt_val (pe_callB (call_anyK K rfl) rfl B.any bt_any (pa_cons (pe_comp ["run"] [] ⟨rfl, rfl, rfl, rfl, rfl⟩ rfl (pi_tupK K (pv 1)) (fun _ _ _ _ _ => (pg_name (i := 0) (show (["run"] : List Str).Nodup by decide +kernel) rfl (Or.inl rfl))) (fun _ _ _ _ _ => pcb_elt (pe_cmpR op_lt (pv 0) pe_int (nomark _)))) pa_nil)))
      (pss_one (ps_raise hm hX.ex hX.be (pa_cons pe_str pa_nil)))
      pss_nil)))), ?_⟩
    obtain ⟨vs, hv, hs⟩ := tups_inv hd
    have hvl := rows_len hs
    refine ⟨_, rfl, t, rfl, ⟨_, SqT.of hv⟩, for_tup (K := K) (a := t) (xs := vs) (fun i σ H2 => Same H H2 ∧ (∃ o, σ = [some (.ref t), o]) ∧ (xss.take i).any lineBad = false) ⟨Same.refl _, ⟨none, rfl⟩, rfl⟩ ?_ ?_ ?_⟩
    · rintro i σ H2 _ ⟨s2, _, _⟩
      exact SqT.of (s2 _ _ hv)
    · rintro i x σ H2 hi ⟨s2, ⟨o, rfl⟩, hg⟩
      obtain ⟨xs, hx, hxd⟩ := rows_get hs hi
      obtain ⟨b, rfl, hb⟩ := tup_inv hxd
      have hb2 := s2 _ _ hb
      have hxl := hw xs (List.mem_of_getElem? hx)
      have hxm : (xs.map V.int).length = xs.length := List.length_map _
      refine ⟨_, rfl, b, rfl, ⟨_, SqT.of hb2⟩, comp_tup (K := K) (a := b) (xs := xs.map V.int) (fun j ys H3 => H3 = H2 ∧ ys = ((xs.take j).map fun z => decide (z < 1)).map V.bl) ⟨rfl, rfl⟩ ?_ ?_ ?_ ?_ ?_⟩
      · rw [hxm]
        have : 2000 ≤ sizeLine := by decide
        omega
      · rintro j ys H3 ⟨_, rfl⟩
        rw [List.length_map, List.length_map, List.length_take]
        omega
      · rintro j ys H3 _ ⟨rfl, _⟩
        exact SqT.of hb2
      · rintro j y ys H3 hj ⟨rfl, rfl⟩
        obtain ⟨z, hz, rfl⟩ := map_get hj
        refine ⟨rfl, ?_⟩
        refine ⟨_, rfl, _, _, rfl, rfl, rfl, ?_⟩
        rw [List.take_add_one, hz]
        simp
      · rintro ys H3 ⟨rfl, rfl⟩ l hl
        rw [hxm, List.take_length]
        refine ⟨l, _, rfl, SqL.of upd_same, _, rfl, ?_⟩
        have e : ((xs.map fun z => decide (z < 1)).any id) = lineBad xs := by unfold lineBad; rw [List.any_map]; rfl
        rw [e]
        have s3 := s2.trans (same_upd (o := HO.lst ((xs.map fun z => decide (z < 1)).map V.bl)) hl)
        cases hbad : lineBad xs with
        | true =>
          refine iteT ⟨by show 1 ≤ 10; decide, k2 ?_ _ s3⟩
          exact List.any_eq_true.mpr ⟨xs, List.mem_of_getElem? hx, hbad⟩
        | false =>
          refine iteF ⟨s3, ⟨_, rfl⟩, ?_⟩
          rw [List.take_add_one, hx, List.any_append, hg]
          simp [hbad]
    · rintro σ H2 ⟨s2, _, hg⟩
      rw [hvl, List.take_length] at hg
      exact k1 hg H2 s2
def sp_wd (W : Addr) : Sp := fun vs H Q E => ∃ (t : Addr) (xss : List (List Int)) (n : Int), vs = [.ref t, .int n] ∧ IsD H (dTups xss) (.ref t) ∧ (xss.any (lineWide n) = false → Q .non H) ∧ (xss.any (lineWide n) = true → E (.ref W) none H)
theorem sc_refuse_wide : FnScope ["lines", "cells", "runs"] ["lines", "cells"] (defScope s_refuse_wide) := ⟨rfl, rfl, rfl, by decide +kernel, rfl, by decide +kernel, by decide +kernel⟩
theorem ok_refuse_wide {f : Addr} {fd : FuncData} (F : Fun K "refuse_wide" "refuse_wide" s_refuse_wide f fd) (B : Bt mg) (hm : mg "Wide" = some (.ref W)) (hX : ExcC K W) : FnOk P w K mg base (CXe P w) 1 f fd ["lines", "cells"] (sp_wd W) := by
  refine F.okX sc_refuse_wide (fun vs H Q E h => ?_) (fun cdv A outer s H vs Q E hr h => ?_)
  · obtain ⟨t, xss, n, rfl, _⟩ := h
    rfl
  · obtain ⟨t, xss, n, rfl, hd, k1, k2⟩ := h
    refine ⟨_, (pss_one (ps_for PassesOwn.leaving rfl (pi_tupK K (pv 0)) (pg_name (i := 2) sc_refuse_wide.nd rfl (Or.inl rfl))
      (pss_one (ps_if (pt_cmpR op_gt (pe_op op_sub (pe_op op_add (pe_callB (call_sumTK K rfl) rfl B.sum bt_sum (pa_cons (pv 2) pa_nil)) (pe_callB (call_lenK K) rfl B.len bt_len (pa_cons (pv 2) pa_nil))) pe_int) (pv 1) (nomark _))
      (pss_one (ps_raise hm hX.ex hX.be (pa_cons pe_str pa_nil)))
      pss_nil)))), ?_⟩
    obtain ⟨vs, hv, hs⟩ := tups_inv hd
    have hvl := rows_len hs
    refine ⟨_, rfl, t, rfl, ⟨_, SqT.of hv⟩, for_tup (K := K) (a := t) (xs := vs) (fun i σ H2 => H2 = H ∧ (∃ o, σ = [some (.ref t), some (.int n), o]) ∧ (xss.take i).any (lineWide n) = false) ⟨rfl, ⟨none, rfl⟩, rfl⟩ ?_ ?_ ?_⟩
    · rintro i σ H2 _ ⟨rfl, _, _⟩
      exact SqT.of hv
    · rintro i x σ H2 hi ⟨rfl, ⟨o, rfl⟩, hg⟩
      obtain ⟨xs, hx, hxd⟩ := rows_get hs hi
      obtain ⟨b, rfl, hb⟩ := tup_inv hxd
      have hxm : (xs.map V.int).length = xs.length := List.length_map _
      refine ⟨_, rfl, b, xs, rfl, SqT.of hb, _, rfl, b, _, rfl, .inr (SqT.of hb), _, _, rfl, rfl, _, _, rfl, rfl, _, rfl, _, _, rfl, rfl, _, rfl, ?_⟩
      rw [hxm]
      show if lineWide n xs = true then _ else _
      cases hbad : lineWide n xs with
      | true =>
        refine iteT ⟨by show 1 ≤ 10; decide, k2 ?_⟩
        exact List.any_eq_true.mpr ⟨xs, List.mem_of_getElem? hx, hbad⟩
      | false =>
        refine iteF ⟨rfl, ⟨_, rfl⟩, ?_⟩
        rw [List.take_add_one, hx, List.any_append, hg]
        simp [hbad]
    · rintro σ H2 ⟨rfl, _, hg⟩
      rw [hvl, List.take_length] at hg
      exact k1 hg
end
section
variable {P : Program} {w : World} {K : PySem.W.Frag} {mg : Str → Option Value} {base : Heap} {TM BR W : Addr}
abbrev Bd := List (List Int) × List (List Int)
def inB (b : Bd) : Bool := decide (1 ≤ b.1.length) && decide (b.1.length ≤ 12) && (decide (1 ≤ b.2.length) && decide (b.2.length ≤ 12))
def badB (b : Bd) : Bool := b.1.any lineBad || b.2.any lineBad
def wideB (b : Bd) : Bool := b.1.any (lineWide (b.2.length : Nat)) || b.2.any (lineWide (b.1.length : Nat))
def lookB (b : Bd) : Nat := if inB b = false then 2 else if badB b = true then 3 else if wideB b = true then 4 else 0
def sp_looked (TM BR W : Addr) : Sp := fun vs H Q E => ∃ (a : Addr) (b : Bd), vs = [.ref a] ∧ IsD H (dBoard b) (.ref a) ∧ (b.1.length ≤ 1900 ∧ ∀ xs ∈ b.1, xs.length ≤ 1900) ∧ (b.2.length ≤ 1900 ∧ ∀ xs ∈ b.2, xs.length ≤ 1900) ∧
  (lookB b = 2 → ∀ H', Same H H' → E (.ref TM) none H') ∧ (lookB b = 3 → ∀ H', Same H H' → E (.ref BR) none H') ∧ (lookB b = 4 → ∀ H', Same H H' → E (.ref W) none H') ∧
  (lookB b = 0 → ∀ t H', Same H H' → H' t = some (.tup [.int (b.1.length : Nat), .int (b.2.length : Nat)]) → Q (.ref t) H')
theorem sc_looked : FnScope ["board", "rows", "columns"] ["board"] (defScope s_looked) := ⟨rfl, rfl, rfl, by decide +kernel, rfl, by decide +kernel, by decide +kernel⟩
theorem ok_looked {f : Addr} {fd : FuncData} (F : Fun K "looked" "looked" s_looked f fd) (B : Bt mg) (c_tm : Callee P w K mg base (CXe P w) "refuse_too_many" 1 ["lines"] (sp_tm TM)) (c_br : Callee P w K mg base (CXe P w) "refuse_bad_runs" 1 ["lines"] (sp_br BR)) (c_wd : Callee P w K mg base (CXe P w) "refuse_wide" 1 ["lines", "cells"] (sp_wd W)) :
    FnOk P w K mg base (CXe P w) 2 f fd ["board"] (sp_looked TM BR W) := by
  refine F.okX sc_looked (fun vs H Q E h => ?_) (fun cdv A outer s H vs Q E hr h => ?_)
  · obtain ⟨a, b, rfl, _⟩ := h
    rfl
  · obtain ⟨a, b, rfl, hd, ⟨h1n, h1w⟩, ⟨h2n, h2w⟩, k2, k3, k4, k0⟩ := h
    refine ⟨_, (pss_cons (ps_set (i := 1) sc_looked.nd rfl (Or.inl rfl) (pe_ix (ix_tupK K) (pv 0) pe_int (fun _ _ => rfl)))
      (pss_cons (ps_set (i := 2) sc_looked.nd rfl (Or.inl rfl) (pe_ix (ix_tupK K) (pv 0) pe_int (fun _ _ => rfl)))
      (pss_cons (ps_expr (pe_calX c_tm hr takes_fn (pa_cons (pv 1) pa_nil)))
      (pss_cons (ps_expr (pe_calX c_tm hr takes_fn (pa_cons (pv 2) pa_nil)))
      (pss_cons (ps_expr (pe_calX c_br hr takes_fn (pa_cons (pv 1) pa_nil)))
      (pss_cons (ps_expr (pe_calX c_br hr takes_fn (pa_cons (pv 2) pa_nil)))
      (pss_cons (ps_expr (pe_calX c_wd hr takes_fn (pa_cons (pv 1) (pa_cons (pe_callB (call_lenK K) rfl B.len bt_len (pa_cons (pv 2) pa_nil)) pa_nil))))
      (pss_cons (ps_expr (pe_calX c_wd hr takes_fn (pa_cons (pv 2) (pa_cons (pe_callB (call_lenK K) rfl B.len bt_len (pa_cons (pv 1) pa_nil)) pa_nil))))
      (pss_one (ps_ret (pe_tup (pa_cons (pe_callB (call_lenK K) rfl B.len bt_len (pa_cons (pv 1) pa_nil)) (pa_cons (pe_callB (call_lenK K) rfl B.len bt_len (pa_cons (pv 2) pa_nil)) pa_nil))))))))))))), ?_⟩
    obtain ⟨r, c, ha, hr1, hc1⟩ := board_inv hd
    obtain ⟨vr, hvr, hsr⟩ := tups_inv hr1
    obtain ⟨vc, hvc, hsc⟩ := tups_inv hc1
    have hlr := rows_len hsr
    have hlc := rows_len hsc
    refine ⟨_, rfl, a, _, _, .ref r, rfl, rfl, SqT.of ha, rfl, ?_⟩
    refine ⟨_, rfl, a, _, _, .ref c, rfl, rfl, SqT.of ha, rfl, ?_⟩
    refine ⟨_, rfl, r, vr, rfl, hvr, fun g1 => ?_, fun g1 => k2 ?_ H (Same.refl H)⟩
    rotate_left
    · unfold lookB
      rw [if_pos]
      unfold inB
      rw [← hlr]
      by_cases q1 : 1 ≤ vr.length
      · have q2 : ¬ vr.length ≤ 12 := fun q => g1 ⟨q1, q⟩
        rw [decide_eq_false q2, Bool.and_false, Bool.false_and]
      · rw [decide_eq_false q1, Bool.false_and, Bool.false_and]
    refine ⟨_, rfl, c, vc, rfl, hvc, fun g2 => ?_, fun g2 => k2 ?_ H (Same.refl H)⟩
    rotate_left
    · unfold lookB
      rw [if_pos]
      unfold inB
      rw [← hlc]
      by_cases q1 : 1 ≤ vc.length
      · have q2 : ¬ vc.length ≤ 12 := fun q => g2 ⟨q1, q⟩
        rw [decide_eq_false q2, Bool.and_false, Bool.and_false]
      · rw [decide_eq_false q1, Bool.false_and, Bool.and_false]
    have hin : inB b = true := by
      unfold inB
      rw [← hlr, ← hlc, decide_eq_true g1.1, decide_eq_true g1.2, decide_eq_true g2.1, decide_eq_true g2.2]
      rfl
    unfold lookB at k2 k3 k4 k0
    rw [if_neg (by rw [hin]; decide)] at k3 k4 k0
    refine ⟨_, rfl, r, b.1, rfl, hr1, h1n, h1w, fun g3 H1 s1 => ?_, fun g3 H1 s1 => k3 (by unfold badB; rw [g3, Bool.true_or, if_pos rfl]) H1 s1⟩
    refine ⟨_, rfl, c, b.2, rfl, IsD.mono s1 hc1, h2n, h2w, fun g4 H2 s2 => ?_, fun g4 H2 s2 => k3 (by unfold badB; rw [g4, Bool.or_true, if_pos rfl]) H2 (s1.trans s2)⟩
    have hbad : badB b = false := by unfold badB; rw [g3, g4]; rfl
    rw [if_neg (by rw [hbad]; decide)] at k4 k0
    have s12 := s1.trans s2
    refine ⟨_, rfl, _, rfl, c, _, rfl, .inr (SqT.of (s12 _ _ hvc)), r, b.1, _, rfl, IsD.mono s12 hr1, fun g5 => ?_, fun g5 => k4 ?_ H2 s12⟩
    rotate_left
    · unfold wideB
      rw [← hlc, g5, Bool.true_or, if_pos rfl]
    refine ⟨_, rfl, _, rfl, r, _, rfl, .inr (SqT.of (s12 _ _ hvr)), c, b.2, _, rfl, IsD.mono s12 hc1, fun g6 => ?_, fun g6 => k4 ?_ H2 s12⟩
    rotate_left
    · unfold wideB
      rw [← hlr, g6, Bool.or_true, if_pos rfl]
    refine ⟨_, rfl, r, _, rfl, .inr (SqT.of (s12 _ _ hvr)), _, rfl, c, _, rfl, .inr (SqT.of (s12 _ _ hvc)), by show 2 ≤ sizeLine; decide, fun t ht => ?_⟩
    refine k0 ?_ t _ (s12.trans (same_upd ht)) ?_
    · rw [if_neg]
      unfold wideB
      rw [← hlr, ← hlc, g5, g6]
      decide
    · rw [upd_same, hlr, hlc]
end

section
variable {P : Program} {w : World} {K : PySem.W.Frag} {mg : Str → Option Value} {base : Heap}
def sp_column : Sp := fun vs H Q _ => ∃ (a : Addr) (xss : List (List Int)) (j : Nat), vs = [.ref a, .int j] ∧ IsD H (dRows xss) (.ref a) ∧ (∀ xs ∈ xss, j < xs.length) ∧ xss.length ≤ 100 ∧
  ∀ l, H l = none → Q (.ref l) (upd H l (.lst ((colZ xss j).map V.int)))
theorem col_turn {xss : List (List Int)} {i j : Nat} {xs : List Int} (h : xss[i]? = some xs) : colZ (xss.take (i + 1)) j = colZ (xss.take i) j ++ [xs.getD j 0] := by
  unfold colZ
  rw [List.take_add_one, h, List.map_append]
  rfl
theorem sc__law_column : FnScope ["rows", "at"] ["rows", "at"] (defScope s__law_column) := ⟨rfl, rfl, rfl, by decide +kernel, rfl, by decide +kernel, by decide +kernel⟩
theorem ok__law_column {f : Addr} {fd : FuncData} (F : Fun K "_law_column" "_law_column" s__law_column f fd) (B : Bt mg) : FnOk P w K mg base CX0 1 f fd ["rows", "at"] sp_column := by
  refine F.ok sc__law_column (fun vs H Q E h => ?_) (fun cdv A outer s H vs Q E hr h => ?_)
  · obtain ⟨a, xss, j, rfl, _⟩ := h
    rfl
  · obtain ⟨a, xss, j, rfl, hd, hj, hn, k⟩ := h
    refine ⟨_, (pss_one (ps_ret (pe_comp ["row"] [1] ⟨rfl, rfl, rfl, rfl, rfl⟩ rfl (pi_list (pv 0)) (fun _ _ _ _ _ => (pg_name (i := 0) (show (["row", "at"] : List Str).Nodup by decide +kernel) rfl (Or.inl rfl))) (fun _ _ _ _ _ => pcb_elt (pe_ix (ix_listK K) (pv 0) (pv 1) (fun _ _ => rfl)))))), ?_⟩
    obtain ⟨vs, ha, hs⟩ := rows_inv hd
    have hvl := rows_len hs
    refine ⟨_, rfl, a, rfl, ⟨_, SqL.of ha⟩, comp_list (K := K) (a := a) (xs := vs) (fun i ys H' => H' = H ∧ ys = (colZ (xss.take i) j).map V.int) ⟨rfl, rfl⟩ ?_ ?_ ?_ ?_ ?_⟩
    · exact Nat.le_of_lt (small1000 (by omega))
    · rintro i ys H' ⟨_, rfl⟩
      simp [colZ, List.length_take]
      omega
    · rintro i ys H' _ ⟨rfl, _⟩
      exact SqL.of ha
    · rintro i x ys H' hi ⟨rfl, rfl⟩
      obtain ⟨xs, hx, hxd⟩ := rows_get hs hi
      obtain ⟨b, rfl, hb⟩ := row_inv hxd
      have hjx := hj xs (List.mem_of_getElem? hx)
      refine ⟨rfl, ?_⟩
      refine ⟨_, rfl, _, rfl, b, _, _, .int (xs.getD j 0), rfl, rfl, SqL.of hb, atI_nat ?_, rfl, ?_⟩
      · rw [List.getElem?_map, List.getElem?_eq_getElem hjx, getD_of (List.getElem?_eq_getElem hjx)]
        rfl
      · rw [col_turn hx, List.map_append]
        rfl
    · rintro ys H' ⟨rfl, rfl⟩ l hl
      rw [hvl, List.take_length]
      exact k l hl

def sp_board : Sp := fun vs H Q _ => ∃ (a : Addr) (xss : List (List Int)) (wd : Nat), vs = [.ref a] ∧ IsD H (dRows xss) (.ref a) ∧ 1 ≤ xss.length ∧ xss.length ≤ 100 ∧ wd ≤ 100 ∧ (∀ xs ∈ xss, xs.length = wd) ∧
  ∀ (t : Addr) (H' : Hp), Same H H' → IsD H' (dBoard (boardZ xss wd)) (.ref t) → Q (.ref t) H'
theorem sc__law_board : FnScope ["picture", "columns"] ["picture"] (defScope s__law_board) := ⟨rfl, rfl, rfl, by decide +kernel, rfl, by decide +kernel, by decide +kernel⟩
theorem ok__law_board {f : Addr} {fd : FuncData} (F : Fun K "_law_board" "_law_board" s__law_board f fd) (B : Bt mg) (c__law_column : Callee P w K mg base CX0 "_law_column" 1 ["rows", "at"] sp_column) (c__law_runs : Callee P w K mg base CX0 "_law_runs" 1 ["cells"] sp__law_runs) : FnOk P w K mg base CX0 3 f fd ["picture"] sp_board := by
  refine F.ok sc__law_board (fun vs H Q E h => ?_) (fun cdv A outer s H vs Q E hr h => ?_)
  · obtain ⟨a, xss, wd, rfl, _⟩ := h
    rfl
  · obtain ⟨a, xss, wd, rfl, hd, h1, hn, hw, hl, k⟩ := h
    refine ⟨_, (pss_cons (ps_setComp (i := 1) ["at"] [0] sc__law_board.nd rfl rfl ⟨rfl, rfl, rfl, rfl, rfl⟩ rfl (pi_range1 rfl B.range (pa_cons (pe_callB call_len_seq rfl B.len bt_len (pa_cons (pe_ix ix_list (pv 0) pe_int (fun _ _ => rfl)) pa_nil)) pa_nil)) (fun _ _ _ _ _ => (pg_name (i := 0) (show (["at", "picture"] : List Str).Nodup by decide +kernel) rfl (Or.inl rfl))) (fun _ _ _ _ _ => pcb_elt (pe_cal c__law_runs hr (pa_cons (pe_cal c__law_column hr (pa_cons (pv 1) (pa_cons (pv 0) pa_nil))) pa_nil))))
      (pss_one (ps_ret (pe_tup (pa_cons (pe_callTy call_tuple_of rfl B.tuple bt_tuple (pa_cons (pe_comp ["row"] [] ⟨rfl, rfl, rfl, rfl, rfl⟩ rfl (pi_list (pv 0)) (fun _ _ _ _ _ => (pg_name (i := 0) (show (["row"] : List Str).Nodup by decide +kernel) rfl (Or.inl rfl))) (fun _ _ _ _ _ => pcb_elt (pe_cal c__law_runs hr (pa_cons (pv 0) pa_nil)))) pa_nil)) (pa_cons (pe_callTy call_tuple_of rfl B.tuple bt_tuple (pa_cons (pv 1) pa_nil)) pa_nil)))))), ?_⟩
    obtain ⟨vs, ha, hs⟩ := rows_inv hd
    have hvl := rows_len hs
    obtain ⟨v0, hv0⟩ : ∃ v0, vs[0]? = some v0 := ⟨_, List.getElem?_eq_getElem (by omega)⟩
    obtain ⟨xs0, hx0, hd0⟩ := rows_get hs hv0
    obtain ⟨b0, rfl, hb0⟩ := row_inv hd0
    have hw0 : xs0.length = wd := hl xs0 (List.mem_of_getElem? hx0)
    have hw1 : ((xs0.map V.int).length : Int) = (wd : Int) := by rw [List.length_map, hw0]
    refine ⟨_, rfl, a, _, 0, .ref b0, rfl, rfl, SqL.of ha, atI_nat hv0, b0, _, rfl, .inl (SqL.of hb0), (wd : Int), (by rw [hw1]), by omega, by omega, comp_range (PvD H fun j => dTup (runsZ (colZ xss j))) (PvD.zero (Same.refl H)) ?_ ?_ ?_ ?_⟩
    · exact Nat.le_of_lt (small1000 (by omega))
    · exact fun i ys H' p => p.len
    · intro i ys H' hi p
      refine ⟨rfl, ?_⟩
      refine ⟨_, rfl, _, rfl, a, xss, i, (by rw [Int.zero_add]; rfl), IsD.mono p.1 hd, fun xs hx => by rw [hl xs hx]; omega, hn, fun l hl' => ?_⟩
      refine ⟨l, _, rfl, upd_same, (by unfold colZ; rw [List.length_map]; omega), fun t H2 s2 nt ht => p.next ((same_upd hl').trans s2) (isD_tup ht)⟩
    · intro ys H' p l hl'
      have s1 : Same H' (upd H' l (.lst ys)) := same_upd hl'
      have q := p.2
      rw [show ((wd : Int)).toNat = wd by omega] at q
      have q1 := IsDs.mono s1 q
      have ha1 := (p.1.trans s1) _ _ ha
      have hs1 := IsDs.mono (p.1.trans s1) hs
      -- the rows
      refine ⟨_, rfl, a, rfl, ⟨_, SqL.of ha1⟩, comp_list (K := K) (a := a) (xs := vs) (PvD (upd H' l (.lst ys)) fun i => dTup (runsZ (xss.getD i []))) (PvD.zero (Same.refl _)) ?_ ?_ ?_ ?_ ?_⟩
      · exact Nat.le_of_lt (small1000 (by omega))
      · exact fun i ys H' p => p.len
      · exact fun i ys H' _ p => SqL.of (p.1 _ _ ha1)
      · intro i x zs H3 hi p3
        obtain ⟨xs, hx, hxd⟩ := rows_get hs1 hi
        obtain ⟨b, rfl, hb⟩ := row_inv hxd
        refine ⟨rfl, ?_⟩
        refine ⟨_, rfl, b, xs, rfl, p3.1 _ _ hb, (by rw [hl xs (List.mem_of_getElem? hx)]; omega), fun t H4 s4 nt ht => p3.next s4 ?_⟩
        rw [getD_of hx]
        exact isD_tup ht
      · intro zs H3 p3 m hm
        refine ⟨m, _, rfl, .inl ⟨SqL.of upd_same, fun t1 ht1 => ?_⟩⟩
        have s4 : Same H3 (upd H3 m (.lst zs)) := same_upd hm
        have s5 : Same (upd H3 m (.lst zs)) (upd (upd H3 m (.lst zs)) t1 (.tup zs)) := same_upd ht1
        have hl3 := s5 _ _ (s4 _ _ (p3.1 _ _ (upd_same (H := H') (a := l) (o := .lst ys))))
        refine ⟨_, rfl, l, _, rfl, .inl ⟨SqL.of hl3, fun t2 ht2 => ?_⟩⟩
        refine ⟨(by show 2 ≤ sizeLine; decide), fun t3 ht3 => ?_⟩
        have s6 := same_upd (o := .tup ys) ht2
        have s7 := same_upd (o := .tup [.ref t1, .ref t2]) ht3
        refine k t3 _ ((p.1.trans s1).trans (p3.1.trans (s4.trans (s5.trans (s6.trans s7))))) (mk_board upd_same ?_ ?_)
        · refine mk_tups (s7 _ _ (s6 _ _ upd_same)) ?_
          have z := p3.2
          rw [hvl, map_range (fun xs => dTup (runsZ xs)) []] at z
          show IsDs _ ((xss.map runsZ).map dTup) zs
          rw [List.map_map]
          exact IsDs.mono (s4.trans (s5.trans (s6.trans s7))) z
        · refine mk_tups (s7 _ _ upd_same) ?_
          show IsDs _ (((List.range wd).map fun j => runsZ (colZ xss j)).map dTup) ys
          rw [List.map_map]
          exact IsDs.mono (p3.1.trans (s4.trans (s5.trans (s6.trans s7)))) q1

end
section
variable {P : Program} {w : World} {K : PySem.W.Frag} {mg : Str → Option Value} {base : Heap}
def sp__law_picture : Sp := fun vs H Q _ => ∃ (c : Int) (r wd : Nat), vs = [.int c, .int r, .int wd] ∧ r ≤ 100 ∧ wd ≤ 100 ∧ ∀ (a : Addr) (H' : Hp), Same H H' → H a = none → IsD H' (dRows (picZ c r wd)) (.ref a) → Q (.ref a) H'
theorem sc__law_picture : FnScope ["cell", "rows", "columns", "dense", "found", "row", "line", "at", "drawn"] ["cell", "rows", "columns"] (defScope s__law_picture) := ⟨rfl, rfl, rfl, by decide +kernel, rfl, by decide +kernel, by decide +kernel⟩
theorem ok__law_picture {f : Addr} {fd : FuncData} (F : Fun K "_law_picture" "_law_picture" s__law_picture f fd) (B : Bt mg) (c__law_mix : Callee P w K mg base CX0 "_law_mix" 1 ["cell", "k"] sp__law_mix) : FnOk P w K mg base CX0 2 f fd ["cell", "rows", "columns"] sp__law_picture := by
  refine F.ok sc__law_picture (fun vs H Q E h => ?_) (fun cdv A outer s H vs Q E hr h => ?_)
  · obtain ⟨c, r, wd, rfl, _⟩ := h
    rfl
  · obtain ⟨c, r, wd, rfl, hr1, hw1, k⟩ := h
    refine ⟨_, (pss_cons (ps_set (i := 3) sc__law_picture.nd rfl (Or.inl rfl) (pe_op op_mod (pe_cal c__law_mix hr (pa_cons (pv 0) (pa_cons pe_int pa_nil))) pe_int))
      (pss_cons (ps_set (i := 4) sc__law_picture.nd rfl (Or.inl rfl) (pe_lst pa_nil))
      (pss_cons (ps_for PassesOwn.never rfl (pi_range1 rfl B.range (pa_cons (pv 1) pa_nil)) (pg_name (i := 5) sc__law_picture.nd rfl (Or.inl rfl))
      (pss_cons (ps_set (i := 6) sc__law_picture.nd rfl (Or.inl rfl) (pe_lst pa_nil))
      (pss_cons (ps_for PassesOwn.never rfl (pi_range1 rfl B.range (pa_cons (pv 2) pa_nil)) (pg_name (i := 7) sc__law_picture.nd rfl (Or.inl rfl))
      (pss_cons (ps_set (i := 8) sc__law_picture.nd rfl (Or.inl rfl) (pe_op op_fdiv (pe_cal c__law_mix hr (pa_cons (pv 0) (pa_cons (pe_op op_add (pe_op op_add pe_int (pe_op op_mul pe_int (pv 5))) (pv 7)) pa_nil))) pe_int))
      (pss_one (ps_expr (pe_bm PySem.F.plainAttrs_list PySem.F.slot_list_append PySem.F.type_list_append mt_append (pv 6) (pa_cons (pe_callTy call_int1 rfl B.int bt_int (pa_cons (pe_cmpR op_gt (pe_op op_mod (pv 8) pe_int) (pv 3) (nomark _)) pa_nil)) pa_nil))))))
      (pss_one (ps_expr (pe_bm PySem.F.plainAttrs_list PySem.F.slot_list_append PySem.F.type_list_append mt_append (pv 4) (pa_cons (pv 6) pa_nil)))))))
      (pss_one (ps_ret (pv 4)))))), ?_⟩
    refine ⟨_, rfl, _, _, rfl, _, _, rfl, rfl, pz rfl, ?_⟩
    refine ⟨Nat.zero_le _, fun l hl => ?_⟩
    refine ⟨_, rfl, _, rfl, by omega, by omega, for_range (lo := 0) (n := ((r : Int)).toNat) (fun i σ H2 => ∃ (o5 o6 o7 o8 : Option V) (vs : List V) (Hb : Hp), σ = [some (.int c), some (.int r), some (.int wd), some (.int (mixZ c 3 % 3)), some (.ref l), o5, o6, o7, o8] ∧
      Same H Hb ∧ Hb l = none ∧ IsDs Hb ((List.range i).map fun i => dRow (picRow c wd i)) vs ∧ H2 = upd Hb l (.lst vs)) ⟨none, none, none, none, [], H, rfl, Same.refl H, hl, (by show IsDs H [] []; unfold IsDs; rfl), rfl⟩ ?_ ?_⟩
    · rintro i σ H2 hi ⟨o5, o6, o7, o8, vs, Hb, rfl, sb, hbl, hds, rfl⟩
      have hvl : vs.length = i := by have := hds.length; rw [List.length_map, List.length_range] at this; omega
      refine ⟨Nat.zero_le _, fun m hm => ?_⟩
      have nml : m ≠ l := fun z => by rw [z, upd_same] at hm; cases hm
      have hbm : Hb m = none := by rw [upd_ne nml] at hm; exact hm
      refine ⟨_, rfl, _, rfl, by omega, by omega, for_range (lo := 0) (n := ((wd : Int)).toNat) (fun j σ H3 => ∃ (o7 o8 : Option V), σ = [some (.int c), some (.int r), some (.int wd), some (.int (mixZ c 3 % 3)), some (.ref l), some (.int (0 + (i : Int))), some (.ref m), o7, o8] ∧
        H3 = upd (upd Hb l (.lst vs)) m (.lst (((List.range j).map fun j => pixZ c i j).map V.int))) ⟨_, _, rfl, rfl⟩ ?_ ?_⟩
      · rintro j σ H3 hj ⟨o7, o8, rfl, rfl⟩
        refine ⟨_, rfl, _, rfl, _, _, rfl, rfl, .inl ⟨by decide, by decide⟩, _, _, rfl, rfl, _, rfl, _, _, rfl, rfl, _, _, rfl, _, _, rfl, rfl, ⟨by decide, by decide⟩, ?_⟩
        refine ⟨_, rfl, .inl ⟨rfl, _, SqL.of upd_same⟩, _, rfl, _, _, rfl, rfl, pz rfl, _, rfl, _, _, rfl, rfl, .inr ⟨_, rfl, m, _, _, rfl, rfl, upd_same, small1000 (by simp; omega), ?_⟩⟩
        refine ⟨_, _, rfl, ?_⟩
        rw [upd_upd, List.range_succ]
        simp [pixZ]
      · rintro σ H3 ⟨o7, o8, rfl, rfl⟩
        have hl3 : upd (upd Hb l (.lst vs)) m (.lst (((List.range ((wd : Int)).toNat).map fun j => pixZ c i j).map V.int)) l = some (.lst vs) := by rw [upd_ne (Ne.symm nml), upd_same]
        refine ⟨_, rfl, .inl ⟨rfl, _, SqL.of hl3⟩, _, rfl, l, _, _, rfl, rfl, hl3, small1000 (by omega), ?_⟩
        have s1 : Same Hb (upd Hb m (.lst ((picRow c wd i).map V.int))) := same_upd hbm
        refine ⟨_, _, _, _, vs ++ [.ref m], upd Hb m (.lst ((picRow c wd i).map V.int)), rfl, sb.trans s1, by rw [upd_ne (Ne.symm nml)]; exact hbl, ?_, ?_⟩
        · rw [List.range_succ, List.map_append]
          exact (IsDs.mono s1 hds).snoc (isD_row upd_same)
        · rw [upd_swap (Ne.symm nml)]
          rfl
    · rintro σ H2 ⟨o5, o6, o7, o8, vs, Hb, rfl, sb, hbl, hds, rfl⟩
      rw [Int.toNat_natCast] at hds
      refine ⟨_, rfl, k l _ (same_upd' sb hl) hl (mk_rows upd_same ?_)⟩
      unfold picZ
      rw [List.map_map]
      exact IsDs.mono (same_upd hbl) hds

end

section
variable {P : Program} {w : World} {K : PySem.W.Frag} {mg : Str → Option Value} {base : Heap}
def sp__law_lines : Sp := fun vs H Q _ => ∃ (f d : Addr) (yss : List (List Int)), vs = [.ref f, .ref d] ∧ IsD H (dTups yss) (.ref f) ∧ IsD H (dTups yss) (.ref d) ∧ yss.length ≤ 100 ∧ (∀ ys ∈ yss, ys.length ≤ 200) ∧ ∀ H' : Hp, Same H H' → Q (.bl true) H'
theorem sc__law_lines : FnScope ["found", "due", "k"] ["found", "due"] (defScope s__law_lines) := ⟨rfl, rfl, rfl, by decide +kernel, rfl, by decide +kernel, by decide +kernel⟩
theorem ok__law_lines {f : Addr} {fd : FuncData} (F : Fun K "_law_lines" "_law_lines" s__law_lines f fd) (B : Bt mg) (c__law_whole : Callee P w K mg base CX0 "_law_whole" 1 ["x"] sp__law_whole) : FnOk P w K mg base CX0 2 f fd ["found", "due"] sp__law_lines := by
  refine F.ok sc__law_lines (fun vs H Q E h => ?_) (fun cdv A outer s H vs Q E hr h => ?_)
  · obtain ⟨f, d, yss, rfl, _⟩ := h
    rfl
  · obtain ⟨f, d, yss, rfl, hf, hd, hn, hw, k⟩ := h
    have hu := units20 hr
    refine ⟨_, (pss_cons (ps_if (PW.pt (pw_or (pt_not (pt_val (pe_callB call_isinst rfl B.isinstance bt_isinstance (pa_cons (pv 0) (pa_cons (pe_bltn (v := .ty "tuple") rfl B.tuple bt_tuple rfl) pa_nil))))) (pw_or1 (pt_cmpR op_ne (pe_callB call_len_seq rfl B.len bt_len (pa_cons (pv 0) pa_nil)) (pe_callB call_len_seq rfl B.len bt_len (pa_cons (pv 1) pa_nil)) (nomark _)))))
      (pss_one (ps_ret pe_bl))
      pss_nil)
      (pss_cons (ps_for PassesOwn.never rfl (pi_range1 rfl B.range (pa_cons (pe_callB call_len_seq rfl B.len bt_len (pa_cons (pv 1) pa_nil)) pa_nil)) (pg_name (i := 2) sc__law_lines.nd rfl (Or.inl rfl))
      (pss_cons (ps_if (PW.pt (pw_or (pt_not (pt_val (pe_callB call_isinst rfl B.isinstance bt_isinstance (pa_cons (pe_ix ix_tup (pv 0) (pv 2) (fun _ _ => rfl)) (pa_cons (pe_bltn (v := .ty "tuple") rfl B.tuple bt_tuple rfl) pa_nil))))) (pw_or1 (pt_cmpR (op_neD hu) (pe_ix ix_tup (pv 0) (pv 2) (fun _ _ => rfl)) (pe_ix ix_tup (pv 1) (pv 2) (fun _ _ => rfl)) (nomark _)))))
      (pss_one (ps_ret pe_bl))
      pss_nil)
      (pss_one (ps_if (pt_not (pt_val (pe_callB (call_all rfl) rfl B.all bt_all (pa_cons (pe_comp ["run"] [] ⟨rfl, rfl, rfl, rfl, rfl⟩ rfl (pi_tup (pe_ix ix_tup (pv 0) (pv 2) (fun _ _ => rfl))) (fun _ _ _ _ _ => (pg_name (i := 0) (show (["run"] : List Str).Nodup by decide +kernel) rfl (Or.inl rfl))) (fun _ _ _ _ _ => pcb_elt (pe_cal c__law_whole hr (pa_cons (pv 0) pa_nil)))) pa_nil))))
      (pss_one (ps_ret pe_bl))
      pss_nil))))
      (pss_one (ps_ret pe_bl)))), ?_⟩
    obtain ⟨vs, haf, hsf⟩ := tups_inv hf
    obtain ⟨us, had, hsd⟩ := tups_inv hd
    have l1 := rows_len hsf
    have l2 := rows_len hsd
    refine ⟨_, rfl, _, _, _, true, rfl, fun _ z => z, .tup haf, rfl, _, rfl, iteF ?_⟩
    refine ⟨_, rfl, f, _, rfl, .inr (SqT.of haf), _, rfl, d, _, rfl, .inr (SqT.of had), rfl, _, rfl, iteNS (by rw [l1, l2]) ?_⟩
    refine ⟨_, rfl, d, _, rfl, .inr (SqT.of had), _, rfl, by omega, by omega, for_range (lo := 0) (n := ((us.length : Int)).toNat) (fun i σ H2 => ∃ o : Option V, σ = [some (.ref f), some (.ref d), o] ∧ Same H H2) ⟨none, rfl, Same.refl H⟩ ?_ ?_⟩
    · rintro i σ H2 hi ⟨o, rfl, s2⟩
      have hi' : i < yss.length := by omega
      obtain ⟨vi, hvi⟩ : ∃ vi, vs[i]? = some vi := ⟨_, List.getElem?_eq_getElem (by omega)⟩
      obtain ⟨ui, hui⟩ : ∃ ui, us[i]? = some ui := ⟨_, List.getElem?_eq_getElem (by omega)⟩
      obtain ⟨ys, hy, hvd⟩ := rows_get hsf hvi
      obtain ⟨ys', hy', hud⟩ := rows_get hsd hui
      rw [hy] at hy'
      cases hy'
      obtain ⟨fi, rfl, hfi⟩ := tup_inv hvd
      obtain ⟨di, rfl, hdi⟩ := tup_inv hud
      have hlen := hw ys (List.mem_of_getElem? hy)
      have ei : (0 : Int) + (i : Nat) = (i : Nat) := Int.zero_add _
      rw [ei]
      refine ⟨_, rfl, _, rfl, f, _, _, .ref fi, rfl, rfl, SqT.of (s2 _ _ haf), atI_nat hvi, _, _, _, true, rfl, fun _ z => z, .tup (s2 _ _ hfi), rfl, _, rfl, iteF ?_⟩
      refine ⟨_, rfl, _, rfl, f, _, _, .ref fi, rfl, rfl, SqT.of (s2 _ _ haf), atI_nat hvi, _, rfl, _, rfl, d, _, _, .ref di, rfl, rfl, SqT.of (s2 _ _ had), atI_nat hui, _, _, IsD.mono s2 hvd, IsD.mono s2 hud, .inr ⟨_, _, rfl, rfl⟩, Nat.le_trans (depth_tup _) (by decide), _, rfl, ?_⟩
      rw [eqD_refl]
      refine iteF ?_
      refine ⟨_, rfl, _, rfl, f, _, _, .ref fi, rfl, rfl, SqT.of (s2 _ _ haf), atI_nat hvi, fi, rfl, ⟨_, SqT.of (s2 _ _ hfi)⟩, comp_tup (K := K) (a := fi) (xs := ys.map V.int) (fun i zs H' => H' = H2 ∧ zs = (List.replicate i true).map V.bl) ⟨rfl, rfl⟩ ?_ ?_ ?_ ?_ ?_⟩
      · exact Nat.le_of_lt (small1000 (by rw [List.length_map]; omega))
      · rintro i zs H' ⟨_, rfl⟩
        simp
      · rintro i zs H' _ ⟨rfl, _⟩
        exact SqT.of (s2 _ _ hfi)
      · rintro i x zs H' hi ⟨rfl, rfl⟩
        obtain ⟨z, _, rfl⟩ := map_get hi
        refine ⟨rfl, ?_⟩
        refine ⟨_, rfl, _, rfl, .inl ⟨z, rfl, rfl, ?_⟩⟩
        rw [List.replicate_succ', List.map_append]
        rfl
      · rintro zs H' ⟨rfl, rfl⟩ q hq
        refine ⟨q, _, rfl, SqL.of upd_same, _, rfl, ?_⟩
        have e1 : (List.replicate (ys.map V.int).length true).all id = true := by simp
        rw [e1]
        refine iteF ?_
        exact ⟨_, rfl, same_upd' s2 (s2.free hq)⟩
    · rintro σ H2 ⟨o, rfl, s2⟩
      exact k H2 s2
end

section
variable {P : Program} {w : World} {K : PySem.W.Frag} {mg : Str → Option Value} {base : Heap} {NO : Addr}
theorem len_app (a b : Str) : (a ++ b).length = a.length + b.length := Str.length_append a b
theorem map_getS {ws : List Str} {i : Nat} {x : V} (h : (ws.map V.str)[i]? = some x) : ∃ z, ws[i]? = some z ∧ x = .str z := by
  rw [List.getElem?_map] at h
  cases e : ws[i]? with
  | none => rw [e] at h; cases h
  | some z => rw [e] at h; exact ⟨z, rfl, (Option.some.inj h).symm⟩
theorem word_none {z : Str} (h : ¬ wordOk z = true) : word? z = none := by unfold word?; rw [if_neg h]
theorem figs_iff (c : Nat) : c ∈ (Str.ofString "0123456789").cps.toList ↔ 48 ≤ c ∧ c ≤ 57 := by
  have e : (Str.ofString "0123456789").cps.toList = [48, 49, 50, 51, 52, 53, 54, 55, 56, 57] := by decide +kernel
  rw [e]
  simp
  omega
theorem fig_dec (c : Nat) : decide (c ∈ (Str.ofString "0123456789").cps.toList) = figB c := by
  unfold figB
  by_cases h : 48 ≤ c ∧ c ≤ 57
  · rw [decide_eq_true ((figs_iff c).mpr h), decide_eq_true h.1, decide_eq_true h.2]; rfl
  · rw [decide_eq_false (fun z => h ((figs_iff c).mp z))]
    by_cases h1 : 48 ≤ c
    · rw [decide_eq_false (fun z : c ≤ 57 => h ⟨h1, z⟩), Bool.and_false]
    · rw [decide_eq_false h1, Bool.false_and]
theorem take_cps {z : Str} {j c : Nat} (h : z.cps[j]? = some c) : z.cps.toList.take (j + 1) = z.cps.toList.take j ++ [c] := by
  rw [List.take_add_one, Array.getElem?_toList, h]
  rfl
theorem first_eq {c : Nat} : decide (V.str ⟨#[c]⟩ = V.str "0") = decide (c = 48) := by
  by_cases h : c = 48
  · subst h
    exact (decide_eq_true (show V.str ⟨#[48]⟩ = V.str "0" from rfl)).trans rfl
  · rw [decide_eq_false h, decide_eq_false fun z => h ?_]
    have z2 : (#[c] : Array Nat) = (Str.ofString "0").cps := congrArg Str.cps (V.str.inj z)
    have := congrArg (fun a : Array Nat => a[0]?) z2
    have e : (Str.ofString "0").cps[0]? = some 48 := by decide +kernel
    rw [e] at this
    exact Option.some.inj this
def sp_run_read (NO : Addr) : Sp := fun vs H Q E => ∃ (z : Str), vs = [.str z] ∧ z.length ≤ 1900 ∧ (∀ i, word? z = some i → ∀ H', Same H H' → Q (.int i) H') ∧ (word? z = none → ∀ H', Same H H' → E (.ref NO) none H')
theorem sc_run_read : FnScope ["word"] ["word"] (defScope s_run_read) := ⟨rfl, rfl, rfl, by decide +kernel, rfl, by decide +kernel, by decide +kernel⟩
theorem ok_run_read {f : Addr} {fd : FuncData} {tk tk2 : Tok} (F : Fun K "run_read" "run_read" s_run_read f fd) (B : Bt mg) (hM : mg "MOST_FIGURES" = some (.int 3 tk)) (hF : mg "FIGURES" = some (.str "0123456789" tk2)) (hm : mg "NoNote" = some (.ref NO)) (hX : ExcC K NO) : FnOk P w K mg base (CXe P w) 1 f fd ["word"] (sp_run_read NO) := by
  refine F.okX sc_run_read (fun vs H Q E h => ?_) (fun cdv A outer s H vs Q E hr h => ?_)
  · obtain ⟨z, rfl, _⟩ := h
    rfl
  · obtain ⟨z, rfl, hz, kQ, kE⟩ := h
    refine ⟨_, (pss_cons (ps_if (PW.pt (pw_or (pt_cmpR op_lt (pe_callB call_len_str rfl B.len bt_len (pa_cons (pv 0) pa_nil)) pe_int (nomark _)) (pw_or (pt_cmpR op_gt (pe_callB call_len_str rfl B.len bt_len (pa_cons (pv 0) pa_nil)) (pe_glob (v := .int 3) rfl hM ⟨_, rfl⟩) (nomark _)) (pw_or1 (pt_cmpR op_eq (pe_ix ix_str (pv 0) pe_int (fun _ _ => rfl)) pe_str (nomark _))))))
      (pss_one (ps_raise hm hX.ex hX.be (pa_cons pe_str pa_nil)))
      pss_nil)
      (pss_cons (ps_if (pt_not (pt_val (pe_callB (call_allK K rfl) rfl B.all bt_all (pa_cons (pe_comp ["sign"] [] ⟨rfl, rfl, rfl, rfl, rfl⟩ rfl (pi_str (pv 0)) (fun _ _ _ _ _ => (pg_name (i := 0) (show (["sign"] : List Str).Nodup by decide +kernel) rfl (Or.inl rfl))) (fun _ _ _ _ _ => pcb_elt (pe_cmpR op_in_str (pv 0) (pe_glob (v := .str "0123456789") rfl hF ⟨_, rfl⟩) rfl))) pa_nil))))
      (pss_one (ps_raise hm hX.ex hX.be (pa_cons pe_str pa_nil)))
      pss_nil)
      (pss_one (ps_ret (pe_callTy call_intT rfl B.int bt_int (pa_cons (pv 0) pa_nil)))))), ?_⟩
    have hbig : 2000 ≤ sizeLine := by decide
    refine ⟨_, rfl, z, rfl, by omega, _, _, rfl, rfl, _, rfl, ?_⟩
    by_cases c1 : z.length < 1
    · rw [decide_eq_true (show ((z.length : Nat) : Int) < 1 by omega)]
      exact iteT (iteT ⟨by show 1 ≤ 10; decide, kE (word_none fun q => by have := (wordOk_iff.mp q).1; omega) H (Same.refl H)⟩)
    rw [decide_eq_false (show ¬ ((z.length : Nat) : Int) < 1 by omega)]
    refine iteF ⟨_, rfl, z, rfl, by omega, _, _, rfl, rfl, _, rfl, ?_⟩
    by_cases c2 : 3 < z.length
    · rw [decide_eq_true (show (3 : Int) < ((z.length : Nat) : Int) by omega)]
      exact iteT (iteT ⟨by show 1 ≤ 10; decide, kE (word_none fun q => by have := (wordOk_iff.mp q).2.1; omega) H (Same.refl H)⟩)
    rw [decide_eq_false (show ¬ (3 : Int) < ((z.length : Nat) : Int) by omega)]
    obtain ⟨c, hc⟩ : ∃ c, z.cps[0]? = some c := ⟨_, Array.getElem?_eq_getElem (show 0 < z.cps.size by show 0 < z.length; omega)⟩
    have hat : atI z.cps.toList 0 = some c := atI_nat (j := 0) (by rw [Array.getElem?_toList]; exact hc)
    refine iteF ⟨_, rfl, z, 0, c, rfl, rfl, by omega, hat, rfl, _, rfl, ?_⟩
    rw [first_eq]
    by_cases c3 : c = 48
    · rw [decide_eq_true c3]
      exact iteT ⟨by show 1 ≤ 10; decide, kE (word_none fun q => (wordOk_iff.mp q).2.2.1 (by rw [hc, c3])) H (Same.refl H)⟩
    rw [decide_eq_false c3]
    refine iteF ?_
    refine ⟨_, rfl, z, rfl, comp_str (x := z) (fun j ys H3 => H3 = H ∧ ys = ((z.cps.toList.take j).map figB).map V.bl) ⟨rfl, rfl⟩ (by show z.length ≤ sizeLine; omega) ?_ ?_ ?_⟩
    · rintro j ys H3 ⟨_, rfl⟩
      rw [List.length_map, List.length_map, List.length_take]
      omega
    · rintro j c' ys H3 hc' ⟨rfl, rfl⟩
      refine ⟨rfl, ?_⟩
      refine ⟨_, rfl, _, _, rfl, rfl, rfl, ?_⟩
      rw [StrLaws.found_one, fig_dec, take_cps hc', List.map_append, List.map_append]
      rfl
    · rintro ys H3 ⟨rfl, rfl⟩ l hl
      have hl1 := same_upd (o := HO.lst (((z.cps.toList.take z.cps.size).map figB).map V.bl)) hl
      refine ⟨l, _, rfl, SqL.of upd_same, _, rfl, ?_⟩
      have e : (((z.cps.toList.take z.cps.size).map figB).all id) = z.cps.toList.all figB := by
        rw [show z.cps.size = z.cps.toList.length by simp, List.take_length, List.all_map]
        rfl
      rw [e]
      cases ha : z.cps.toList.all figB with
      | false =>
        refine iteT ⟨by show 1 ≤ 10; decide, kE (word_none fun q => ?_) _ hl1⟩
        unfold wordOk at q
        rw [ha, Bool.and_false] at q
        cases q
      | true =>
        have hw : wordOk z = true := by
          unfold wordOk
          rw [ha, decide_eq_true (by omega : 1 ≤ z.length), decide_eq_true (by omega : z.length ≤ 3), decide_eq_true (by rw [hc]; intro q; exact c3 (Option.some.inj q) : z.cps[0]? ≠ some 48)]
          rfl
        obtain ⟨i, hi, _⟩ := word_some hw
        have hwi : word? z = some i := by unfold word?; rw [if_pos hw, hi]
        exact iteF ⟨_, rfl, z, i, rfl, hi, by omega, kQ i hwi _ hl1⟩
def sp_runs_read (NO : Addr) : Sp := fun vs H Q E => ∃ (z : Str), vs = [.str z] ∧ z.length ≤ 1890 ∧ (∀ xs, lineO z = some xs → ∀ t H', Same H H' → H' t = some (.tup (xs.map V.int)) → Q (.ref t) H') ∧ (lineO z = none → ∀ H', Same H H' → E (.ref NO) none H')
theorem sc_runs_read : FnScope ["line"] ["line"] (defScope s_runs_read) := ⟨rfl, rfl, rfl, by decide +kernel, rfl, by decide +kernel, by decide +kernel⟩
theorem ok_runs_read {f : Addr} {fd : FuncData} (F : Fun K "runs_read" "runs_read" s_runs_read f fd) (B : Bt mg) (c_run_read : Callee P w K mg base (CXe P w) "run_read" 1 ["word"] (sp_run_read NO)) : FnOk P w K mg base (CXe P w) 2 f fd ["line"] (sp_runs_read NO) := by
  refine F.okX sc_runs_read (fun vs H Q E h => ?_) (fun cdv A outer s H vs Q E hr h => ?_)
  · obtain ⟨z, rfl, _⟩ := h
    rfl
  · obtain ⟨z, rfl, hz, kQ, kE⟩ := h
    refine ⟨_, (pss_cons (ps_if (pt_cmpR op_eq (pv 0) pe_str (nomark _))
      (pss_one (ps_ret (pe_tup pa_nil)))
      pss_nil)
      (pss_one (ps_ret (pe_callTy (call_tupleK K) rfl B.tuple bt_tuple (pa_cons (pe_compX ["word"] [] ⟨rfl, rfl, rfl, rfl, rfl⟩ rfl rfl rfl takesH_fn (pi_listK K (pe_bm PySem.F.plainAttrs_str PySem.F.slot_str_split PySem.F.type_str_split mt_split (pv 0) (pa_cons pe_str pa_nil))) (fun _ _ _ _ _ => (pg_name (i := 0) (show (["word"] : List Str).Nodup by decide +kernel) rfl (Or.inl rfl))) (fun _ _ _ _ _ => pcb_elt (pe_calX c_run_read hr takes_wx (pa_cons (pv 0) pa_nil)))) pa_nil))))), ?_⟩
    have hbig : 2000 ≤ sizeLine := by decide
    refine ⟨_, rfl, rfl, _, rfl, ?_⟩
    by_cases h0 : z = "0"
    · have e : decide (V.str z = V.str "0") = true := decide_eq_true (by rw [h0])
      rw [e]
      have hx : lineO z = some [] := by unfold lineO; rw [if_pos h0]
      exact iteT ⟨by show 0 ≤ sizeLine; decide, fun t ht => kQ [] hx t _ (same_upd ht) (by rw [upd_same]; rfl)⟩
    · have e : decide (V.str z = V.str "0") = false := decide_eq_false fun q => h0 (V.str.inj q)
      rw [e]
      have hx : lineO z = allO word? (Txt.split z (sg 32)) := by unfold lineO; rw [if_neg h0]
      rw [hx] at kQ kE
      have hn := split_num z 32
      refine iteF ⟨_, rfl, rfl, z, sg 32, rfl, rfl, rfl, by omega, fun l hl => ?_⟩
      generalize hws : Txt.split z (sg 32) = ws at kQ kE hn ⊢
      have hpart : ∀ p ∈ ws, p.length ≤ z.length := fun p hp => split_part (c := 32) (by rw [hws]; exact hp)
      have s1 : Same H (upd H l (.lst (ws.map V.str))) := same_upd hl
      have hl1 : (upd H l (.lst (ws.map V.str))) l = some (.lst (ws.map V.str)) := upd_same
      generalize upd H l (.lst (ws.map V.str)) = H1 at s1 hl1 ⊢
      have hvl : (ws.map V.str).length = ws.length := List.length_map _
      refine ⟨l, rfl, ⟨_, SqL.of hl1⟩, comp_list (K := K) (a := l) (xs := ws.map V.str) (fun j ys H3 => Same H1 H3 ∧ ∃ zs, allO word? (ws.take j) = some zs ∧ ys = zs.map V.int) ⟨Same.refl _, [], rfl, rfl⟩ ?_ ?_ ?_ ?_ ?_⟩
      · rw [hvl]; omega
      · rintro j ys H3 ⟨_, zs, hzs, rfl⟩
        rw [List.length_map, allO_len hzs, List.length_take]
        omega
      · rintro j ys H3 _ ⟨s3, _⟩
        exact SqL.of (s3 _ _ hl1)
      · rintro j y ys H3 hj ⟨s3, zs, hzs, rfl⟩
        obtain ⟨p, hp, rfl⟩ := map_getS hj
        have hmem := List.mem_of_getElem? hp
        have hpl := hpart p hmem
        refine ⟨rfl, ?_⟩
        refine ⟨_, rfl, p, rfl, by omega, fun i hi H4 s4 => ⟨s3.trans s4, zs ++ [i], allO_take hp hi hzs, by rw [List.map_append]; rfl⟩, fun hno H4 s4 => kE (allO_none hno hmem) H4 (s1.trans (s3.trans s4))⟩
      · rintro ys H3 ⟨s3, zs, hzs, rfl⟩ l2 hl2
        rw [hvl, List.take_length] at hzs
        refine ⟨l2, _, rfl, .inl ⟨SqL.of upd_same, fun t ht => ?_⟩⟩
        exact kQ zs hzs t _ ((s1.trans s3).trans ((same_upd hl2).trans (same_upd ht))) upd_same
def sp_lines_read (NO : Addr) : Sp := fun vs H Q E => ∃ (z : Str), vs = [.str z] ∧ z.length ≤ 1890 ∧ (∀ xss, linesO z = some xss → ∀ t H', Same H H' → IsD H' (dTups xss) (.ref t) → Q (.ref t) H') ∧ (linesO z = none → ∀ H', Same H H' → E (.ref NO) none H')
theorem sc_lines_read : FnScope ["part"] ["part"] (defScope s_lines_read) := ⟨rfl, rfl, rfl, by decide +kernel, rfl, by decide +kernel, by decide +kernel⟩
theorem ok_lines_read {f : Addr} {fd : FuncData} (F : Fun K "lines_read" "lines_read" s_lines_read f fd) (B : Bt mg) (c_runs_read : Callee P w K mg base (CXe P w) "runs_read" 2 ["line"] (sp_runs_read NO)) : FnOk P w K mg base (CXe P w) 3 f fd ["part"] (sp_lines_read NO) := by
  refine F.okX sc_lines_read (fun vs H Q E h => ?_) (fun cdv A outer s H vs Q E hr h => ?_)
  · obtain ⟨z, rfl, _⟩ := h
    rfl
  · obtain ⟨z, rfl, hz, kQ, kE⟩ := h
    refine ⟨_, (pss_one (ps_ret (pe_callTy (call_tupleK K) rfl B.tuple bt_tuple (pa_cons (pe_compX ["line"] [] ⟨rfl, rfl, rfl, rfl, rfl⟩ rfl rfl rfl takesH_fn (pi_listK K (pe_bm PySem.F.plainAttrs_str PySem.F.slot_str_split PySem.F.type_str_split mt_split (pv 0) (pa_cons pe_str pa_nil))) (fun _ _ _ _ _ => (pg_name (i := 0) (show (["line"] : List Str).Nodup by decide +kernel) rfl (Or.inl rfl))) (fun _ _ _ _ _ => pcb_elt (pe_calX c_runs_read hr takes_wx (pa_cons (pv 0) pa_nil)))) pa_nil)))), ?_⟩
    have hbig : 2000 ≤ sizeLine := by decide
    have hn := split_num z 44
    unfold linesO at kQ kE
    refine ⟨_, rfl, rfl, z, sg 44, rfl, rfl, rfl, by omega, fun l hl => ?_⟩
    generalize hws : Txt.split z (sg 44) = ws at kQ kE hn ⊢
    have hpart : ∀ p ∈ ws, p.length ≤ z.length := fun p hp => split_part (c := 44) (by rw [hws]; exact hp)
    have s1 : Same H (upd H l (.lst (ws.map V.str))) := same_upd hl
    have hl1 : (upd H l (.lst (ws.map V.str))) l = some (.lst (ws.map V.str)) := upd_same
    generalize upd H l (.lst (ws.map V.str)) = H1 at s1 hl1 ⊢
    have hvl : (ws.map V.str).length = ws.length := List.length_map _
    refine ⟨l, rfl, ⟨_, SqL.of hl1⟩, comp_list (K := K) (a := l) (xs := ws.map V.str) (fun j ys H3 => Same H1 H3 ∧ ∃ zss, allO lineO (ws.take j) = some zss ∧ IsDs H3 (zss.map dTup) ys) ⟨Same.refl _, [], rfl, by show IsDs _ [] []; unfold IsDs; rfl⟩ ?_ ?_ ?_ ?_ ?_⟩
    · rw [hvl]; omega
    · rintro j ys H3 ⟨_, zss, hzs, hd⟩
      rw [← hd.length, List.length_map, allO_len hzs, List.length_take]
      omega
    · rintro j ys H3 _ ⟨s3, _⟩
      exact SqL.of (s3 _ _ hl1)
    · rintro j y ys H3 hj ⟨s3, zss, hzs, hd⟩
      obtain ⟨p, hp, rfl⟩ := map_getS hj
      have hmem := List.mem_of_getElem? hp
      have hpl := hpart p hmem
      refine ⟨rfl, ?_⟩
      refine ⟨_, rfl, p, rfl, by omega, fun xs hi t H4 s4 ht => ⟨s3.trans s4, zss ++ [xs], allO_take hp hi hzs, ?_⟩, fun hno H4 s4 => kE (allO_none hno hmem) H4 (s1.trans (s3.trans s4))⟩
      rw [List.map_append]
      exact (IsDs.mono s4 hd).snoc (isD_tup ht)
    · rintro ys H3 ⟨s3, zss, hzs, hd⟩ l2 hl2
      rw [hvl, List.take_length] at hzs
      refine ⟨l2, _, rfl, .inl ⟨SqL.of upd_same, fun t ht => ?_⟩⟩
      have s4 : Same H3 (upd H3 l2 (.lst ys)) := same_upd hl2
      have s5 : Same (upd H3 l2 (.lst ys)) (upd (upd H3 l2 (.lst ys)) t (.tup ys)) := same_upd ht
      exact kQ zss hzs t _ ((s1.trans s3).trans (s4.trans s5)) (mk_tups upd_same (IsDs.mono (s4.trans s5) hd))
theorem look_of {b : Bd} {z : Str} (h : boardO z = some b) : lookB b ≠ 3 := fun q => by
  obtain ⟨p, q', hs, h1, h2⟩ := board_some h
  have nb : badB b = false := by
    unfold badB
    rw [Bool.or_eq_false_iff]
    constructor
    · rw [List.any_eq_false]
      intro xs hx
      unfold lineBad
      simp only [List.any_eq_true, decide_eq_true_eq]
      rintro ⟨x, hx', hl⟩
      have := lines_pos h1 xs hx x hx'
      omega
    · rw [List.any_eq_false]
      intro xs hx
      unfold lineBad
      simp only [List.any_eq_true, decide_eq_true_eq]
      rintro ⟨x, hx', hl⟩
      have := lines_pos h2 xs hx x hx'
      omega
  unfold lookB at q
  rw [nb] at q
  split at q
  · cases q
  · rw [if_neg (by decide)] at q
    split at q <;> cases q
def sp_read (NO TM W : Addr) : Sp := fun vs H Q E => ∃ (z : Str), vs = [.str z] ∧ z.length ≤ 1890 ∧ (boardO z = none → ∀ H', Same H H' → E (.ref NO) none H') ∧ (∀ b, boardO z = some b → (lookB b = 2 → ∀ H', Same H H' → E (.ref TM) none H') ∧ (lookB b = 4 → ∀ H', Same H H' → E (.ref W) none H') ∧ (lookB b = 0 → ∀ t H', Same H H' → IsD H' (dBoard b) (.ref t) → Q (.ref t) H'))
theorem sc_read : FnScope ["text", "parts", "board"] ["text"] (defScope s_read) := ⟨rfl, rfl, rfl, by decide +kernel, rfl, by decide +kernel, by decide +kernel⟩
theorem ok_read {f TM BR W : Addr} {fd : FuncData} (F : Fun K "read" "read" s_read f fd) (B : Bt mg) (hm : mg "NoNote" = some (.ref NO)) (hX : ExcC K NO) (c_lines_read : Callee P w K mg base (CXe P w) "lines_read" 3 ["part"] (sp_lines_read NO)) (c_looked : Callee P w K mg base (CXe P w) "looked" 2 ["board"] (sp_looked TM BR W)) : FnOk P w K mg base (CXe P w) 4 f fd ["text"] (sp_read NO TM W) := by
  refine F.okX sc_read (fun vs H Q E h => ?_) (fun cdv A outer s H vs Q E hr h => ?_)
  · obtain ⟨z, rfl, _⟩ := h
    rfl
  · obtain ⟨z, rfl, hz, kN, kB⟩ := h
    refine ⟨_, (pss_cons (ps_set (i := 1) sc_read.nd rfl (Or.inl rfl) (pe_bm PySem.F.plainAttrs_str PySem.F.slot_str_split PySem.F.type_str_split mt_split (pv 0) (pa_cons pe_str pa_nil)))
      (pss_cons (ps_if (pt_cmpR op_ne (pe_callB (call_lenK K) rfl B.len bt_len (pa_cons (pv 1) pa_nil)) pe_int (nomark _))
      (pss_one (ps_raise hm hX.ex hX.be (pa_cons pe_str pa_nil)))
      pss_nil)
      (pss_cons (ps_set (i := 2) sc_read.nd rfl (Or.inl rfl) (pe_tup (pa_cons (pe_calX c_lines_read hr takes_fn (pa_cons (pe_ix (ix_listK K) (pv 1) pe_int (fun _ _ => rfl)) pa_nil)) (pa_cons (pe_calX c_lines_read hr takes_fn (pa_cons (pe_ix (ix_listK K) (pv 1) pe_int (fun _ _ => rfl)) pa_nil)) pa_nil))))
      (pss_cons (ps_expr (pe_calX c_looked hr takes_fn (pa_cons (pv 2) pa_nil)))
      (pss_one (ps_ret (pv 2))))))), ?_⟩
    have hbig : 2000 ≤ sizeLine := by decide
    refine ⟨_, rfl, rfl, z, sg 124, rfl, rfl, rfl, by omega, fun l hl => ?_⟩
    generalize hws : Txt.split z (sg 124) = ws
    have hpart : ∀ p ∈ ws, p.length ≤ z.length := fun p hp => split_part (c := 124) (by rw [hws]; exact hp)
    have s1 : Same H (upd H l (.lst (ws.map V.str))) := same_upd hl
    have hl1 : (upd H l (.lst (ws.map V.str))) l = some (.lst (ws.map V.str)) := upd_same
    generalize upd H l (.lst (ws.map V.str)) = H1 at s1 hl1 ⊢
    refine ⟨_, rfl, l, _, rfl, .inl (SqL.of hl1), rfl, _, rfl, ?_⟩
    rw [List.length_map]
    by_cases h2 : ws.length = 2
    rotate_left
    · have hd : decide (V.int ((ws.length : Nat) : Int) = V.int 2) = false := decide_eq_false fun q => h2 (by have := V.int.inj q; omega)
      rw [hd]
      refine iteT ⟨by show 1 ≤ 10; decide, kN (board_none fun p q hs => ?_) H1 s1⟩
      rw [hws] at hs
      rw [hs] at h2
      exact absurd rfl h2
    obtain ⟨p, q, rfl⟩ : ∃ p q, ws = [p, q] := by
      match ws, h2 with
      | [p, q], _ => exact ⟨p, q, rfl⟩
    have hp := hpart p (by simp)
    have hq := hpart q (by simp)
    refine iteNS rfl ?_
    refine ⟨_, rfl, l, _, _, .str p, rfl, rfl, SqL.of hl1, rfl, p, rfl, by omega, fun a ha t1 H2 s2 ht1 => ?_, fun hno H2 s2 => kN (board_none fun p' q' hs => ?_) H2 (s1.trans s2)⟩
    rotate_left
    · rw [hws] at hs
      cases hs
      exact .inl hno
    refine ⟨_, rfl, l, _, _, .str q, rfl, rfl, SqL.of (s2 _ _ hl1), rfl, q, rfl, by omega, fun b hb t2 H3 s3 ht2 => ?_, fun hno H3 s3 => kN (board_none fun p' q' hs => ?_) H3 (s1.trans (s2.trans s3))⟩
    rotate_left
    · rw [hws] at hs
      cases hs
      exact .inr hno
    refine ⟨by show 2 ≤ sizeLine; decide, fun t ht => ?_⟩
    have s4 : Same H3 (upd H3 t (.tup [.ref t1, .ref t2])) := same_upd ht
    have hbd : IsD (upd H3 t (.tup [.ref t1, .ref t2])) (dBoard (a, b)) (.ref t) := mk_board upd_same (IsD.mono (s3.trans s4) ht1) (IsD.mono s4 ht2)
    generalize upd H3 t (.tup [V.ref t1, V.ref t2]) = H4 at s4 hbd ⊢
    have hbo : boardO z = some (a, b) := board_eq hws ha hb
    obtain ⟨k2, k4, k0⟩ := kB (a, b) hbo
    obtain ⟨_, a2, a3⟩ := lines_len ha
    obtain ⟨_, b2, b3⟩ := lines_len hb
    have s14 := s1.trans (s2.trans (s3.trans s4))
    refine ⟨_, rfl, t, (a, b), rfl, hbd, ⟨by show a.length ≤ 1900; omega, fun xs hx => by have := a3 xs hx; omega⟩, ⟨by show b.length ≤ 1900; omega, fun xs hx => by have := b3 xs hx; omega⟩, fun g H5 s5 => k2 g H5 (s14.trans s5), fun g => absurd g (look_of hbo), fun g H5 s5 => k4 g H5 (s14.trans s5), fun g t3 H5 s5 ht3 => ?_⟩
    exact ⟨_, rfl, k0 g t H5 (s14.trans s5) (IsD.mono s5 hbd)⟩
end

section
variable {P : Program} {w : World} {K : PySem.W.Frag} {mg : Str → Option Value} {base : Heap}
theorem isD_nil {H : Hp} {a : Addr} (h : H a = some (.lst [])) : IsD H (.lst []) (.ref a) := by unfold IsD; exact ⟨a, [], rfl, h, by unfold IsDs; rfl⟩
theorem isDs_strs {H : Hp} : ∀ (ss : List Str), IsDs H (ss.map Dt.str) (ss.map V.str)
  | [] => by unfold IsDs; rfl
  | b :: bs => by
    rw [List.map_cons, List.map_cons]
    unfold IsDs
    exact ⟨V.str b, bs.map V.str, rfl, by unfold IsD; rfl, isDs_strs bs⟩
theorem isD_strs {H : Hp} {a : Addr} {ss : List Str} (h : H a = some (.lst (ss.map V.str))) : IsD H (.lst (ss.map Dt.str)) (.ref a) := by unfold IsD; exact ⟨a, _, rfl, h, isDs_strs ss⟩
theorem depth_strs (ss : List Str) : depthD (.lst (ss.map Dt.str)) ≤ 20 := by
  rw [depth_l]
  have : depthDs (ss.map Dt.str) ≤ 0 := by
    induction ss with
    | nil => simp [depthDs]
    | cons b bs ih => rw [List.map_cons]; unfold depthDs; simp [depthD]; omega
  omega
def oddSigns (l : List Nat) : List Str := (l.filter fun c => !figB c).map fun c => ⟨#[c]⟩
theorem odd_eq (l : List Nat) : eqD (.lst ((oddSigns l).map Dt.str)) (.lst []) = l.all figB := by
  rw [eqD_ll]
  unfold oddSigns
  induction l with
  | nil => rfl
  | cons c r ih =>
    rw [List.all_cons, List.filter_cons]
    cases h : figB c with
    | true => rw [if_neg (by decide), Bool.true_and]; exact ih
    | false => rw [if_pos (by decide)]; rfl
theorem odd_snoc {z : Str} {j c : Nat} (h : z.cps[j]? = some c) : oddSigns (z.cps.toList.take (j + 1)) = oddSigns (z.cps.toList.take j) ++ (if figB c = true then [] else [⟨#[c]⟩]) := by
  rw [take_cps h]
  unfold oddSigns
  rw [List.filter_append, List.map_append]
  cases q : figB c <;> simp [q]
def sp__law_line_of : Sp := fun vs H Q _ => ∃ (z : Str), vs = [.str z] ∧ z.length ≤ 1890 ∧ (∀ xs, lineO z = some xs → ∀ t H', Same H H' → H' t = some (.tup (xs.map V.int)) → Q (.ref t) H') ∧ (lineO z = none → ∀ H', Same H H' → Q .non H')
theorem sc__law_line_of : FnScope ["text", "found", "word"] ["text"] (defScope s__law_line_of) := ⟨rfl, rfl, rfl, by decide +kernel, rfl, by decide +kernel, by decide +kernel⟩
theorem ok__law_line_of {f : Addr} {fd : FuncData} (F : Fun K "_law_line_of" "_law_line_of" s__law_line_of f fd) (B : Bt mg) : FnOk P w K mg base CX0 1 f fd ["text"] sp__law_line_of := by
  refine F.ok sc__law_line_of (fun vs H Q E h => ?_) (fun cdv A outer s H vs Q E hr h => ?_)
  · obtain ⟨z, rfl, _⟩ := h
    rfl
  · obtain ⟨z, rfl, hz, kQ, kN⟩ := h
    have hu := units20 hr
    refine ⟨_, (pss_cons (ps_if (pt_cmpR op_eq (pv 0) pe_str (nomark _))
      (pss_one (ps_ret (pe_tup pa_nil)))
      pss_nil)
      (pss_cons (ps_set (i := 1) sc__law_line_of.nd rfl (Or.inl rfl) (pe_lst pa_nil))
      (pss_cons (ps_for PassesOwn.never rfl (pi_listK K (pe_bm PySem.F.plainAttrs_str PySem.F.slot_str_split PySem.F.type_str_split mt_split (pv 0) (pa_cons pe_str pa_nil))) (pg_name (i := 2) sc__law_line_of.nd rfl (Or.inl rfl))
      (pss_cons (ps_if (PW.pt (pw_or (pt_not (pt_chain op_lt op_lt pe_int (pe_callB call_len_str rfl B.len bt_len (pa_cons (pv 2) pa_nil)) pe_int)) (pw_or (pt_cmpR op_eq (pe_ix ix_str (pv 2) pe_int (fun _ _ => rfl)) pe_str (nomark _)) (pw_or1 (pt_cmpR (op_neD hu) (pe_comp ["sign"] [] ⟨rfl, rfl, rfl, rfl, rfl⟩ rfl (pi_str (pv 2)) (fun _ _ _ _ _ => (pg_name (i := 0) (show (["sign"] : List Str).Nodup by decide +kernel) rfl (Or.inl rfl))) (fun _ _ _ _ _ => pcb_if (pt_cmpR op_notin_str (pv 0) pe_str rfl) (pv 0))) (pe_lst pa_nil) (nomark _))))))
      (pss_one (ps_ret pe_non))
      pss_nil)
      (pss_one (ps_expr (pe_bm PySem.F.plainAttrs_list PySem.F.slot_list_append PySem.F.type_list_append mt_append (pv 1) (pa_cons (pe_callTy call_intT rfl B.int bt_int (pa_cons (pv 2) pa_nil)) pa_nil))))))
      (pss_one (ps_ret (pe_callTy (call_tupleK K) rfl B.tuple bt_tuple (pa_cons (pv 1) pa_nil))))))), ?_⟩
    have hbig : 2000 ≤ sizeLine := by decide
    refine ⟨_, rfl, rfl, _, rfl, ?_⟩
    by_cases h0 : z = "0"
    · have e : decide (V.str z = V.str "0") = true := decide_eq_true (by rw [h0])
      rw [e]
      have hx : lineO z = some [] := by unfold lineO; rw [if_pos h0]
      exact iteT ⟨by show 0 ≤ sizeLine; decide, fun t ht => kQ [] hx t _ (same_upd ht) (by rw [upd_same]; rfl)⟩
    have e : decide (V.str z = V.str "0") = false := decide_eq_false fun q => h0 (V.str.inj q)
    rw [e]
    have hx : lineO z = allO word? (Txt.split z (sg 32)) := by unfold lineO; rw [if_neg h0]
    rw [hx] at kQ kN
    have hn := split_num z 32
    refine iteF ⟨Nat.zero_le _, fun lf hlf => ?_⟩
    have s0 : Same H (upd H lf (.lst [])) := same_upd hlf
    have hlf0 : (upd H lf (.lst [])) lf = some (.lst []) := upd_same
    generalize upd H lf (.lst []) = H0 at s0 hlf0 ⊢
    refine ⟨_, rfl, rfl, z, sg 32, rfl, rfl, rfl, by omega, fun l hl => ?_⟩
    generalize hws : Txt.split z (sg 32) = ws at kQ kN hn ⊢
    have hpart : ∀ p ∈ ws, p.length ≤ z.length := fun p hp => split_part (c := 32) (by rw [hws]; exact hp)
    have s1 : Same H0 (upd H0 l (.lst (ws.map V.str))) := same_upd hl
    have hl1 : (upd H0 l (.lst (ws.map V.str))) l = some (.lst (ws.map V.str)) := upd_same
    have nlf : lf ≠ l := ne_of_none hlf0 hl
    have hlf1 := s1 _ _ hlf0
    generalize upd H0 l (.lst (ws.map V.str)) = H1 at s1 hl1 hlf1 ⊢
    have hvl : (ws.map V.str).length = ws.length := List.length_map _
    refine ⟨l, rfl, ⟨_, SqL.of hl1⟩, for_listL (K := K) (a := l) (xs := ws.map V.str) (fun j σ H3 => ∃ (o : Option V) (zs : List Int), σ = [some (.str z), some (.ref lf), o] ∧ Same H H3 ∧ H3 l = some (.lst (ws.map V.str)) ∧ allO word? (ws.take j) = some zs ∧ H3 lf = some (.lst (zs.map V.int))) ⟨none, [], rfl, s0.trans s1, hl1, rfl, hlf1⟩ ?_ ?_ ?_⟩
    · rintro j σ H3 _ ⟨o, zs, rfl, _, h3, _⟩
      exact SqL.of h3
    · intro Pw mk
      rintro j x σ H3 hj ⟨o, zs, rfl, s3, hl3, hzs, hlf3⟩
      obtain ⟨p, hp, rfl⟩ := map_getS hj
      have hmem := List.mem_of_getElem? hp
      have hpl := hpart p hmem
      have hjl : j < ws.length := (List.getElem?_eq_some_iff.mp hp).1
      have hzl : zs.length ≤ j := by rw [allO_len hzs, List.length_take]; omega
      have no : ∀ H', Same H H' → ¬ wordOk p = true → Q .non H' := fun H' s' q => kN (allO_none (word_none q) hmem) H' s'
      refine ⟨_, rfl, p, rfl, by omega, _, _, rfl, rfl, _, rfl, ?_⟩
      by_cases c1 : p.length < 1
      · rw [decide_eq_false (show ¬ (0 : Int) < ((p.length : Nat) : Int) by omega)]
        exact iteF ⟨_, rfl, iteT (iteT (no H3 s3 fun q => by have := (wordOk_iff.mp q).1; omega))⟩
      rw [decide_eq_true (show (0 : Int) < ((p.length : Nat) : Int) by omega)]
      refine iteT ⟨_, _, rfl, rfl, _, rfl, ?_⟩
      by_cases c2 : 3 < p.length
      · rw [decide_eq_false (show ¬ ((p.length : Nat) : Int) < 4 by omega)]
        exact iteT (iteT (no H3 s3 fun q => by have := (wordOk_iff.mp q).2.1; omega))
      rw [decide_eq_true (show ((p.length : Nat) : Int) < 4 by omega)]
      obtain ⟨c, hc⟩ : ∃ c, p.cps[0]? = some c := ⟨_, Array.getElem?_eq_getElem (show 0 < p.cps.size by show 0 < p.length; omega)⟩
      have hat : atI p.cps.toList 0 = some c := atI_nat (j := 0) (by rw [Array.getElem?_toList]; exact hc)
      refine iteF ⟨_, rfl, p, 0, c, rfl, rfl, by omega, hat, rfl, _, rfl, ?_⟩
      rw [first_eq]
      by_cases c3 : c = 48
      · rw [decide_eq_true c3]
        exact iteT (iteT (no H3 s3 fun q => (wordOk_iff.mp q).2.2.1 (by rw [hc, c3])))
      rw [decide_eq_false c3]
      refine iteF ?_
      refine ⟨_, rfl, p, rfl, comp_str (x := p) (fun i ys H4 => H4 = H3 ∧ ys = (oddSigns (p.cps.toList.take i)).map V.str) ⟨rfl, rfl⟩ (by show p.length ≤ sizeLine; omega) ?_ ?_ ?_⟩
      · rintro i ys H4 ⟨_, rfl⟩
        unfold oddSigns
        rw [List.length_map, List.length_map]
        refine Nat.le_trans (List.length_filter_le _ _) ?_
        rw [List.length_take]
        omega
      · rintro i c' ys H4 hc' ⟨rfl, rfl⟩
        refine ⟨rfl, ?_⟩
        refine ⟨_, rfl, _, _, rfl, rfl, _, rfl, ?_⟩
        rw [StrLaws.found_one, fig_dec, odd_snoc hc', List.map_append]
        cases figB c' with
        | true => exact iteF ⟨rfl, by simp⟩
        | false => exact iteT ⟨_, rfl, rfl, rfl⟩
      · rintro ys H4 ⟨rfl, rfl⟩ l2 hl2
        have s5 : Same H4 (upd H4 l2 (.lst ((oddSigns (p.cps.toList.take p.cps.size)).map V.str))) := same_upd hl2
        have hl5 : (upd H4 l2 (.lst ((oddSigns (p.cps.toList.take p.cps.size)).map V.str))) l2 = some (.lst ((oddSigns (p.cps.toList.take p.cps.size)).map V.str)) := upd_same
        generalize upd H4 l2 (.lst ((oddSigns (p.cps.toList.take p.cps.size)).map V.str)) = H5 at s5 hl5 ⊢
        refine ⟨Nat.zero_le _, fun l3 hl3' => ?_⟩
        have s6 : Same H5 (upd H5 l3 (.lst [])) := same_upd hl3'
        have hl6 : (upd H5 l3 (.lst [])) l3 = some (.lst []) := upd_same
        generalize upd H5 l3 (.lst []) = H6 at s6 hl6 ⊢
        refine ⟨_, _, isD_strs (s6 _ _ hl5), isD_nil hl6, .inl ⟨_, _, rfl, rfl⟩, depth_strs _, _, rfl, ?_⟩
        rw [odd_eq, show p.cps.size = p.cps.toList.length by simp, List.take_length]
        have s36 := s5.trans s6
        cases ha : p.cps.toList.all figB with
        | false =>
          refine iteT (no H6 (s3.trans s36) fun q => ?_)
          unfold wordOk at q
          rw [ha, Bool.and_false] at q
          cases q
        | true =>
          have hw : wordOk p = true := by
            unfold wordOk
            rw [ha, decide_eq_true (by omega : 1 ≤ p.length), decide_eq_true (by omega : p.length ≤ 3), decide_eq_true (by rw [hc]; intro q; exact c3 (Option.some.inj q) : p.cps[0]? ≠ some 48)]
            rfl
          obtain ⟨i, hi, _⟩ := word_some hw
          have hwi : word? p = some i := by unfold word?; rw [if_pos hw, hi]
          have hlf6 := s36 _ _ hlf3
          refine iteF ⟨_, rfl, .inl ⟨rfl, _, SqL.of hlf6⟩, _, rfl, p, i, rfl, hi, by omega, lf, _, _, rfl, rfl, hlf6, ?_, ?_⟩
          · rw [List.length_map]; omega
          · refine mk _ _ _ ⟨_, zs ++ [i], rfl, same_upd' (s3.trans s36) hlf, by rw [upd_ne (Ne.symm nlf)]; exact s36 _ _ hl3, allO_take hp hwi hzs, ?_⟩
            rw [upd_same, List.map_append]
            rfl
    · rintro σ H3 ⟨o, zs, rfl, s3, hl3, hzs, hlf3⟩
      rw [hvl, List.take_length] at hzs
      exact ⟨_, rfl, lf, _, rfl, .inl ⟨SqL.of hlf3, fun t ht => kQ zs hzs t _ (s3.trans (same_upd ht)) upd_same⟩⟩
end

section
variable {P : Program} {w : World} {K : PySem.W.Frag} {mg : Str → Option Value} {base : Heap}
def dO (p : Str) : Dt := match lineO p with | none => .non | some xs => dTup xs
theorem dO_depth (p : Str) : depthD (dO p) ≤ 19 := by
  unfold dO
  cases lineO p with
  | none => simp [depthD]
  | some xs => exact Nat.le_trans (depth_tup _) (by decide)
theorem dO_map : ∀ {ws : List Str} {xss : List (List Int)}, allO lineO ws = some xss → ws.map dO = xss.map dTup
  | [], xss, h => by cases (Option.some.inj h); rfl
  | p :: ws, xss, h => by
    obtain ⟨b, cs, h1, h2, rfl⟩ := allO_cons.mp h
    rw [List.map_cons, List.map_cons, dO_map h2]
    unfold dO
    rw [h1]
theorem dO_any {xss : List (List Int)} : (xss.map dTup).any (fun d => eqD d .non) = false := by
  rw [List.any_eq_false]
  intro d hd
  obtain ⟨xs, _, rfl⟩ := List.mem_map.mp hd
  unfold dTup eqD
  decide
theorem dO_none : ∀ {ws : List Str}, allO lineO ws = none → (ws.map dO).any (fun d => eqD d .non) = true
  | [], h => by cases h
  | p :: ws, h => by
    rw [List.map_cons, List.any_cons, Bool.or_eq_true]
    cases h1 : lineO p with
    | none =>
      left
      unfold dO
      rw [h1]
      unfold eqD
      rfl
    | some xs =>
      right
      refine dO_none ?_
      cases h2 : allO lineO ws with
      | none => rfl
      | some cs => rw [allO_cons.mpr ⟨xs, cs, h1, h2, rfl⟩] at h; cases h
theorem part_rows {H1 H3 : Hp} {ws : List Str} {ys : List V} (h : IsDs H3 (ws.map dO) ys) {xss : List (List Int)} (hx : allO lineO ws = some xss) : IsDs H3 (xss.map dTup) ys := by
  rw [← dO_map hx]
  exact h
def codeT (z : Str) : Nat := match boardO z with | none => 5 | some b => lookB b
theorem code_none {z : Str} (h : boardO z = none) : codeT z = 5 := by unfold codeT; rw [h]
theorem code_some {z : Str} {b : Bd} (h : boardO z = some b) : codeT z = lookB b := by unfold codeT; rw [h]
def sp__law_due : Sp := fun vs H Q _ => ∃ (z : Str), vs = [.str z] ∧ z.length ≤ 1880 ∧ (codeT z ≠ 0 → ∀ H', Same H H' → Q (.int (codeT z : Nat)) H') ∧ (∀ b, boardO z = some b → lookB b = 0 → ∀ t H', Same H H' → IsD H' (dBoard b) (.ref t) → Q (.ref t) H')
theorem sc__law_due : FnScope ["text", "parts", "rows", "columns", "runs"] ["text"] (defScope s__law_due) := ⟨rfl, rfl, rfl, by decide +kernel, rfl, by decide +kernel, by decide +kernel⟩
theorem ok__law_due {f : Addr} {fd : FuncData} (F : Fun K "_law_due" "_law_due" s__law_due f fd) (B : Bt mg) (c__law_line_of : Callee P w K mg base CX0 "_law_line_of" 1 ["text"] sp__law_line_of) : FnOk P w K mg base CX0 2 f fd ["text"] sp__law_due := by
  refine F.ok sc__law_due (fun vs H Q E h => ?_) (fun cdv A outer s H vs Q E hr h => ?_)
  · obtain ⟨z, rfl, _⟩ := h
    rfl
  · obtain ⟨z, rfl, hz, kX, kO⟩ := h
    have kN : boardO z = none → ∀ H', Same H H' → Q (.int 5) H' := fun e H' s' => by
      have := kX (by rw [code_none e]; decide) H' s'
      rw [code_none e] at this
      exact this
    have kB : ∀ b, boardO z = some b → (lookB b ≠ 0 → ∀ H', Same H H' → Q (.int (lookB b : Nat)) H') ∧ (lookB b = 0 → ∀ t H', Same H H' → IsD H' (dBoard b) (.ref t) → Q (.ref t) H') := fun b e => by
      refine ⟨fun n H' s' => ?_, kO b e⟩
      have := kX (by rw [code_some e]; exact n) H' s'
      rw [code_some e] at this
      exact this
    have hu := units20 hr
    refine ⟨_, (pss_cons (ps_set (i := 1) sc__law_due.nd rfl (Or.inl rfl) (pe_bm PySem.F.plainAttrs_str PySem.F.slot_str_split PySem.F.type_str_split mt_split (pv 0) (pa_cons pe_str pa_nil)))
      (pss_cons (ps_if (pt_cmpR op_ne (pe_callB (call_lenK K) rfl B.len bt_len (pa_cons (pv 1) pa_nil)) pe_int (nomark _))
      (pss_one (ps_ret pe_int))
      pss_nil)
      (pss_cons (ps_setComp (i := 2) ["line"] [] sc__law_due.nd rfl rfl ⟨rfl, rfl, rfl, rfl, rfl⟩ rfl (pi_listK K (pe_bm PySem.F.plainAttrs_str PySem.F.slot_str_split PySem.F.type_str_split mt_split (pe_ix (ix_listK K) (pv 1) pe_int (fun _ _ => rfl)) (pa_cons pe_str pa_nil))) (fun _ _ _ _ _ => (pg_name (i := 0) (show (["line"] : List Str).Nodup by decide +kernel) rfl (Or.inl rfl))) (fun _ _ _ _ _ => pcb_elt (pe_cal c__law_line_of hr (pa_cons (pv 0) pa_nil))))
      (pss_cons (ps_setComp (i := 3) ["line"] [] sc__law_due.nd rfl rfl ⟨rfl, rfl, rfl, rfl, rfl⟩ rfl (pi_listK K (pe_bm PySem.F.plainAttrs_str PySem.F.slot_str_split PySem.F.type_str_split mt_split (pe_ix (ix_listK K) (pv 1) pe_int (fun _ _ => rfl)) (pa_cons pe_str pa_nil))) (fun _ _ _ _ _ => (pg_name (i := 0) (show (["line"] : List Str).Nodup by decide +kernel) rfl (Or.inl rfl))) (fun _ _ _ _ _ => pcb_elt (pe_cal c__law_line_of hr (pa_cons (pv 0) pa_nil))))
      (pss_cons (ps_if (PW.pt (pw_or (pt_cmpR (op_inNK K hu) pe_non (pv 2) rfl) (pw_or1 (pt_cmpR (op_inNK K hu) pe_non (pv 3) rfl))))
      (pss_one (ps_ret pe_int))
      pss_nil)
      (pss_cons (ps_if (PW.pt (pw_or (pt_cmpR op_gt (pe_callB (call_lenK K) rfl B.len bt_len (pa_cons (pv 2) pa_nil)) pe_int (nomark _)) (pw_or1 (pt_cmpR op_gt (pe_callB (call_lenK K) rfl B.len bt_len (pa_cons (pv 3) pa_nil)) pe_int (nomark _)))))
      (pss_one (ps_ret pe_int))
      pss_nil)
      (pss_cons (ps_for PassesOwn.never rfl (pi_listK K (pv 2)) (pg_name (i := 4) sc__law_due.nd rfl (Or.inl rfl))
      (pss_one (ps_if (PW.pt (pw_and (pt_cmpR (op_neD hu) (pv 4) (pe_tup pa_nil) (nomark _)) (pw_and1 (pt_cmpR op_gt (pe_op op_sub (pe_op op_add (pe_callB (call_sumTK K rfl) rfl B.sum bt_sum (pa_cons (pv 4) pa_nil)) (pe_callB (call_lenK K) rfl B.len bt_len (pa_cons (pv 4) pa_nil))) pe_int) (pe_callB (call_lenK K) rfl B.len bt_len (pa_cons (pv 3) pa_nil)) (nomark _)))))
      (pss_one (ps_ret pe_int))
      pss_nil)))
      (pss_cons (ps_for PassesOwn.never rfl (pi_listK K (pv 3)) (pg_name (i := 4) sc__law_due.nd rfl (Or.inl rfl))
      (pss_one (ps_if (PW.pt (pw_and (pt_cmpR (op_neD hu) (pv 4) (pe_tup pa_nil) (nomark _)) (pw_and1 (pt_cmpR op_gt (pe_op op_sub (pe_op op_add (pe_callB (call_sumTK K rfl) rfl B.sum bt_sum (pa_cons (pv 4) pa_nil)) (pe_callB (call_lenK K) rfl B.len bt_len (pa_cons (pv 4) pa_nil))) pe_int) (pe_callB (call_lenK K) rfl B.len bt_len (pa_cons (pv 2) pa_nil)) (nomark _)))))
      (pss_one (ps_ret pe_int))
      pss_nil)))
      (pss_one (ps_ret (pe_tup (pa_cons (pe_callTy (call_tupleK K) rfl B.tuple bt_tuple (pa_cons (pv 2) pa_nil)) (pa_cons (pe_callTy (call_tupleK K) rfl B.tuple bt_tuple (pa_cons (pv 3) pa_nil)) pa_nil))))))))))))), ?_⟩
    have hbig : 2000 ≤ sizeLine := by decide
    refine ⟨_, rfl, rfl, z, sg 124, rfl, rfl, rfl, by omega, fun l hl => ?_⟩
    generalize hws : Txt.split z (sg 124) = ws
    have hpart : ∀ p ∈ ws, p.length ≤ z.length := fun p hp => split_part (c := 124) (by rw [hws]; exact hp)
    have s1 : Same H (upd H l (.lst (ws.map V.str))) := same_upd hl
    have hl1 : (upd H l (.lst (ws.map V.str))) l = some (.lst (ws.map V.str)) := upd_same
    generalize upd H l (.lst (ws.map V.str)) = H1 at s1 hl1 ⊢
    refine ⟨_, rfl, l, _, rfl, .inl (SqL.of hl1), rfl, _, rfl, ?_⟩
    rw [List.length_map]
    by_cases h2 : ws.length = 2
    rotate_left
    · have hd : decide (V.int ((ws.length : Nat) : Int) = V.int 2) = false := decide_eq_false fun q => h2 (by have := V.int.inj q; omega)
      rw [hd]
      refine iteT (kN (board_none fun p q hs => ?_) H1 s1)
      rw [hws] at hs
      rw [hs] at h2
      exact absurd rfl h2
    obtain ⟨p, q, rfl⟩ : ∃ p q, ws = [p, q] := by
      match ws, h2 with
      | [p, q], _ => exact ⟨p, q, rfl⟩
    have hp := hpart p (by simp)
    have hq := hpart q (by simp)
    refine iteNS rfl ?_
    -- rows
    have hpn := split_num p 44
    have hqn := split_num q 44
    refine ⟨_, rfl, l, _, _, .str p, rfl, rfl, SqL.of hl1, rfl, rfl, p, sg 44, rfl, rfl, rfl, by omega, fun m hm => ?_⟩
    generalize hps : Txt.split p (sg 44) = ps at hpn ⊢
    have hpp : ∀ x ∈ ps, x.length ≤ p.length := fun x hx => split_part (c := 44) (by rw [hps]; exact hx)
    have s2 : Same H1 (upd H1 m (.lst (ps.map V.str))) := same_upd hm
    have hm2 : (upd H1 m (.lst (ps.map V.str))) m = some (.lst (ps.map V.str)) := upd_same
    generalize upd H1 m (.lst (ps.map V.str)) = H2 at s2 hm2 ⊢
    have hvl : (ps.map V.str).length = ps.length := List.length_map _
    refine ⟨m, rfl, ⟨_, SqL.of hm2⟩, comp_list (K := K) (a := m) (xs := ps.map V.str) (fun j ys H3 => Same H2 H3 ∧ IsDs H3 ((ps.take j).map dO) ys) ⟨Same.refl _, by show IsDs _ [] []; unfold IsDs; rfl⟩ ?_ ?_ ?_ ?_ ?_⟩
    · rw [hvl]; omega
    · rintro j ys H3 ⟨_, hd⟩
      rw [← hd.length, List.length_map, List.length_take]
      omega
    · rintro j ys H3 _ ⟨s3, _⟩
      exact SqL.of (s3 _ _ hm2)
    · rintro j y ys H3 hj ⟨s3, hd⟩
      obtain ⟨x, hx, rfl⟩ := map_getS hj
      have hxl := hpp x (List.mem_of_getElem? hx)
      refine ⟨rfl, ?_⟩
      have ed : (ps.take (j + 1)).map dO = (ps.take j).map dO ++ [dO x] := by rw [List.take_add_one, hx, List.map_append]; rfl
      refine ⟨_, rfl, x, rfl, by omega, fun xs hxs t H4 s4 ht => ⟨s3.trans s4, ?_⟩, fun hno H4 s4 => ⟨s3.trans s4, ?_⟩⟩
      · rw [ed]
        refine (IsDs.mono s4 hd).snoc ?_
        unfold dO
        rw [hxs]
        exact isD_tup ht
      · rw [ed]
        refine (IsDs.mono s4 hd).snoc ?_
        unfold dO
        rw [hno]
        unfold IsD
        rfl
    rintro vr H3' ⟨s3', hd3'⟩ lr hlr
    rw [hvl, List.take_length] at hd3'
    have s3 : Same H2 (upd H3' lr (.lst vr)) := s3'.trans (same_upd hlr)
    have hlr3 : (upd H3' lr (.lst vr)) lr = some (.lst vr) := upd_same
    have hd3 := IsDs.mono (same_upd (o := HO.lst vr) hlr) hd3'
    generalize upd H3' lr (.lst vr) = H3 at s3 hlr3 hd3 ⊢
    -- columns
    have s23 := s2.trans s3
    refine ⟨_, rfl, l, _, _, .str q, rfl, rfl, SqL.of (s23 _ _ hl1), rfl, rfl, q, sg 44, rfl, rfl, rfl, by omega, fun m2 hm2' => ?_⟩
    generalize hqs : Txt.split q (sg 44) = qs at hqn ⊢
    have hqq : ∀ x ∈ qs, x.length ≤ q.length := fun x hx => split_part (c := 44) (by rw [hqs]; exact hx)
    have s4 : Same H3 (upd H3 m2 (.lst (qs.map V.str))) := same_upd hm2'
    have hm4 : (upd H3 m2 (.lst (qs.map V.str))) m2 = some (.lst (qs.map V.str)) := upd_same
    generalize upd H3 m2 (.lst (qs.map V.str)) = H4 at s4 hm4 ⊢
    have hvl2 : (qs.map V.str).length = qs.length := List.length_map _
    refine ⟨m2, rfl, ⟨_, SqL.of hm4⟩, comp_list (K := K) (a := m2) (xs := qs.map V.str) (fun j ys H5 => Same H4 H5 ∧ IsDs H5 ((qs.take j).map dO) ys) ⟨Same.refl _, by show IsDs _ [] []; unfold IsDs; rfl⟩ ?_ ?_ ?_ ?_ ?_⟩
    · rw [hvl2]; omega
    · rintro j ys H5 ⟨_, hd⟩
      rw [← hd.length, List.length_map, List.length_take]
      omega
    · rintro j ys H5 _ ⟨s5, _⟩
      exact SqL.of (s5 _ _ hm4)
    · rintro j y ys H5 hj ⟨s5, hd⟩
      obtain ⟨x, hx, rfl⟩ := map_getS hj
      have hxl := hqq x (List.mem_of_getElem? hx)
      refine ⟨rfl, ?_⟩
      have ed : (qs.take (j + 1)).map dO = (qs.take j).map dO ++ [dO x] := by rw [List.take_add_one, hx, List.map_append]; rfl
      refine ⟨_, rfl, x, rfl, by omega, fun xs hxs t H6 s6 ht => ⟨s5.trans s6, ?_⟩, fun hno H6 s6 => ⟨s5.trans s6, ?_⟩⟩
      · rw [ed]
        refine (IsDs.mono s6 hd).snoc ?_
        unfold dO
        rw [hxs]
        exact isD_tup ht
      · rw [ed]
        refine (IsDs.mono s6 hd).snoc ?_
        unfold dO
        rw [hno]
        unfold IsD
        rfl
    rintro vc H5' ⟨s5', hd5'⟩ lc hlc
    rw [hvl2, List.take_length] at hd5'
    have s5 : Same H4 (upd H5' lc (.lst vc)) := s5'.trans (same_upd hlc)
    have hlc5 : (upd H5' lc (.lst vc)) lc = some (.lst vc) := upd_same
    have hd5 := IsDs.mono (same_upd (o := HO.lst vc) hlc) hd5'
    generalize upd H5' lc (.lst vc) = H5 at s5 hlc5 hd5 ⊢
    have s45 := s4.trans s5
    have s15 := (s1.trans s23).trans s45
    have hlr5 := s45 _ _ hlr3
    replace hd3 := IsDs.mono s45 hd3
    have dep : ∀ (ws : List Str), ∀ d ∈ ws.map dO, depthD d ≤ 19 := fun ws d hd => by
      obtain ⟨x, _, rfl⟩ := List.mem_map.mp hd
      exact dO_depth x
    -- None?
    refine ⟨_, rfl, lr, vr, _, rfl, rfl, SqL.of hlr5, hd3, dep ps, _, rfl, ?_⟩
    cases hpO : linesO p with
    | none =>
      have hpO' : allO lineO ps = none := by rw [← hps]; exact hpO
      rw [dO_none hpO']
      refine iteT (iteT (kN (board_none fun p' q' hs => ?_) H5 s15))
      rw [hws] at hs
      cases hs
      exact .inl hpO
    | some a =>
    have hpO' : allO lineO ps = some a := by rw [← hps]; exact hpO
    replace hd3 := part_rows (H1 := H5) hd3 hpO'
    rw [dO_map hpO', dO_any]
    refine iteF ⟨_, rfl, lc, vc, _, rfl, rfl, SqL.of hlc5, hd5, dep qs, _, rfl, ?_⟩
    cases hqO : linesO q with
    | none =>
      have hqO' : allO lineO qs = none := by rw [← hqs]; exact hqO
      rw [dO_none hqO']
      refine iteT (kN (board_none fun p' q' hs => ?_) H5 s15)
      rw [hws] at hs
      cases hs
      exact .inr hqO
    | some b =>
    have hqO' : allO lineO qs = some b := by rw [← hqs]; exact hqO
    replace hd5 := part_rows (H1 := H5) hd5 hqO'
    rw [dO_map hqO', dO_any]
    refine iteF ?_
    have hbo : boardO z = some (a, b) := board_eq hws hpO hqO
    obtain ⟨kR, k0⟩ := kB (a, b) hbo
    have n3 := look_of hbo
    have hla := rows_len hd3
    have hlb := rows_len hd5
    obtain ⟨a1, a2, a3⟩ := lines_len hpO
    obtain ⟨b1, b2, b3⟩ := lines_len hqO
    have hin : inB (a, b) = (decide (a.length ≤ 12) && decide (b.length ≤ 12)) := by
      unfold inB
      rw [decide_eq_true (show 1 ≤ (a, b).1.length from a1), decide_eq_true (show 1 ≤ (a, b).2.length from b1), Bool.true_and, Bool.true_and]
    refine ⟨_, rfl, lr, _, rfl, .inl (SqL.of hlr5), _, _, rfl, rfl, _, rfl, ?_⟩
    have two : ¬ (a.length ≤ 12 ∧ b.length ≤ 12) → Q (.int 2) H5 := fun hno => by
      have e : lookB (a, b) = 2 := by
        unfold lookB
        rw [if_pos]
        rw [hin]
        by_cases h : a.length ≤ 12
        · rw [decide_eq_false (fun z => hno ⟨h, z⟩), Bool.and_false]
        · rw [decide_eq_false h, Bool.false_and]
      have := kR (by rw [e]; decide) H5 s15
      rw [e] at this
      exact this
    by_cases c1 : 12 < a.length
    · rw [decide_eq_true (show (12 : Int) < ((vr.length : Nat) : Int) by omega)]
      exact iteT (iteT (two (by omega)))
    rw [decide_eq_false (show ¬ (12 : Int) < ((vr.length : Nat) : Int) by omega)]
    refine iteF ⟨_, rfl, lc, _, rfl, .inl (SqL.of hlc5), _, _, rfl, rfl, _, rfl, ?_⟩
    by_cases c2 : 12 < b.length
    · rw [decide_eq_true (show (12 : Int) < ((vc.length : Nat) : Int) by omega)]
      exact iteT (two (by omega))
    rw [decide_eq_false (show ¬ (12 : Int) < ((vc.length : Nat) : Int) by omega)]
    refine iteF ?_
    have hin1 : inB (a, b) = true := by rw [hin, decide_eq_true (by omega : a.length ≤ 12), decide_eq_true (by omega : b.length ≤ 12)]; rfl
    have nbad : badB (a, b) = false := by
      cases hb : badB (a, b) with
      | false => rfl
      | true => exact absurd (by unfold lookB; rw [hin1, hb]; rfl) n3
    have four : wideB (a, b) = true → ∀ H', Same H H' → Q (.int 4) H' := fun hw H' s' => by
      have e : lookB (a, b) = 4 := by unfold lookB; rw [hin1, nbad, hw]; rfl
      have := kR (by rw [e]; decide) H' s'
      rw [e] at this
      exact this
    refine ⟨_, rfl, lr, rfl, ⟨_, SqL.of hlr5⟩, for_listL (K := K) (a := lr) (xs := vr) (fun i σ H6 => Same H5 H6 ∧ (∃ o, σ = [some (.str z), some (.ref l), some (.ref lr), some (.ref lc), o]) ∧ (a.take i).any (lineWide (b.length : Nat)) = false) ⟨Same.refl _, ⟨_, rfl⟩, rfl⟩ ?_ ?_ ?_⟩
    · rintro i σ H6 _ ⟨s6, _, _⟩
      exact SqL.of (s6 _ _ hlr5)
    · intro Pw mk
      rintro i x σ H6 hi ⟨s6, ⟨o, rfl⟩, hg⟩
      obtain ⟨xs, hx, hxd⟩ := rows_get hd3 hi
      obtain ⟨bx, rfl, hb⟩ := tup_inv hxd
      have hxm : (xs.map V.int).length = xs.length := List.length_map _
      refine ⟨_, rfl, by show 0 ≤ sizeLine; decide, fun e0 he0 => ?_⟩
      have s7 : Same H6 (upd H6 e0 (.tup [])) := same_upd he0
      have he7 : (upd H6 e0 (.tup [])) e0 = some (.tup ([].map V.int)) := upd_same
      generalize upd H6 e0 (.tup []) = H7 at s7 he7 ⊢
      have hb7 := s7 _ _ (s6 _ _ hb)
      refine ⟨dTup xs, dTup [], isD_tup hb7, isD_tup he7, .inr ⟨_, _, rfl, rfl⟩, Nat.le_trans (depth_tup _) (by decide), _, rfl, ?_⟩
      have go : lineWide (b.length : Nat) xs = false → (a.take (i + 1)).any (lineWide (b.length : Nat)) = false := fun q => by
        rw [List.take_add_one, hx, List.any_append, hg]
        simp [q]
      cases hq : eqD (dTup xs) (dTup []) with
      | true =>
        have hx0 : xs = [] := by
          unfold dTup at hq
          rw [eqD_tt] at hq
          cases xs with
          | nil => rfl
          | cons z zs => simp [eqDs] at hq
        refine iteF (iteF (mk _ _ _ ⟨s6.trans s7, ⟨_, rfl⟩, go ?_⟩))
        rw [hx0]
        unfold lineWide
        exact decide_eq_false (by simp <;> omega)
      | false =>
        refine iteT ⟨_, rfl, bx, xs, rfl, SqT.of hb7, _, rfl, bx, _, rfl, .inr (SqT.of hb7), _, _, rfl, rfl, _, _, rfl, rfl, _, rfl, lc, _, rfl, .inl (SqL.of (s7 _ _ (s6 _ _ hlc5))), _, _, rfl, rfl, _, rfl, ?_⟩
        rw [hxm, hlb]
        show if lineWide (b.length : Nat) xs = true then _ else _
        cases hbad : lineWide (b.length : Nat) xs with
        | true =>
          refine iteT (four ?_ H7 (s15.trans (s6.trans s7)))
          unfold wideB
          rw [show (a, b).1.any (lineWide ((a, b).2.length : Nat)) = true from List.any_eq_true.mpr ⟨xs, List.mem_of_getElem? hx, hbad⟩, Bool.true_or]
        | false => exact iteF (mk _ _ _ ⟨s6.trans s7, ⟨_, rfl⟩, go hbad⟩)
    rintro σ H6 ⟨s6, ⟨o, rfl⟩, hg1⟩
    rw [hla, List.take_length] at hg1
    have hlc6 := s6 _ _ hlc5
    have hlr6 := s6 _ _ hlr5
    refine ⟨_, rfl, lc, rfl, ⟨_, SqL.of hlc6⟩, for_listL (K := K) (a := lc) (xs := vc) (fun i σ H7 => Same H6 H7 ∧ (∃ o, σ = [some (.str z), some (.ref l), some (.ref lr), some (.ref lc), o]) ∧ (b.take i).any (lineWide (a.length : Nat)) = false) ⟨Same.refl _, ⟨_, rfl⟩, rfl⟩ ?_ ?_ ?_⟩
    · rintro i σ H7 _ ⟨s7, _, _⟩
      exact SqL.of (s7 _ _ hlc6)
    · intro Pw mk
      rintro i x σ H7 hi ⟨s7, ⟨o, rfl⟩, hg⟩
      obtain ⟨xs, hx, hxd⟩ := rows_get hd5 hi
      obtain ⟨bx, rfl, hb⟩ := tup_inv hxd
      have hxm : (xs.map V.int).length = xs.length := List.length_map _
      refine ⟨_, rfl, by show 0 ≤ sizeLine; decide, fun e0 he0 => ?_⟩
      have s8 : Same H7 (upd H7 e0 (.tup [])) := same_upd he0
      have he8 : (upd H7 e0 (.tup [])) e0 = some (.tup ([].map V.int)) := upd_same
      generalize upd H7 e0 (.tup []) = H8 at s8 he8 ⊢
      have s78 := s7.trans s8
      have hb8 := s78 _ _ (s6 _ _ hb)
      refine ⟨dTup xs, dTup [], isD_tup hb8, isD_tup he8, .inr ⟨_, _, rfl, rfl⟩, Nat.le_trans (depth_tup _) (by decide), _, rfl, ?_⟩
      have go : lineWide (a.length : Nat) xs = false → (b.take (i + 1)).any (lineWide (a.length : Nat)) = false := fun q => by
        rw [List.take_add_one, hx, List.any_append, hg]
        simp [q]
      cases hq : eqD (dTup xs) (dTup []) with
      | true =>
        have hx0 : xs = [] := by
          unfold dTup at hq
          rw [eqD_tt] at hq
          cases xs with
          | nil => rfl
          | cons z zs => simp [eqDs] at hq
        refine iteF (iteF (mk _ _ _ ⟨s78, ⟨_, rfl⟩, go ?_⟩))
        rw [hx0]
        unfold lineWide
        exact decide_eq_false (by simp <;> omega)
      | false =>
        refine iteT ⟨_, rfl, bx, xs, rfl, SqT.of hb8, _, rfl, bx, _, rfl, .inr (SqT.of hb8), _, _, rfl, rfl, _, _, rfl, rfl, _, rfl, lr, _, rfl, .inl (SqL.of (s78 _ _ hlr6)), _, _, rfl, rfl, _, rfl, ?_⟩
        rw [hxm, hla]
        show if lineWide (a.length : Nat) xs = true then _ else _
        cases hbad : lineWide (a.length : Nat) xs with
        | true =>
          refine iteT (four ?_ H8 (s15.trans (s6.trans s78)))
          unfold wideB
          rw [show (a, b).2.any (lineWide ((a, b).1.length : Nat)) = true from List.any_eq_true.mpr ⟨xs, List.mem_of_getElem? hx, hbad⟩, Bool.or_true]
        | false => exact iteF (mk _ _ _ ⟨s78, ⟨_, rfl⟩, go hbad⟩)
    rintro σ H7 ⟨s7, ⟨o, rfl⟩, hg2⟩
    rw [hlb, List.take_length] at hg2
    have s57 := s6.trans s7
    have nw : wideB (a, b) = false := by unfold wideB; rw [show (a, b).1.any (lineWide ((a, b).2.length : Nat)) = false from hg1, show (a, b).2.any (lineWide ((a, b).1.length : Nat)) = false from hg2]; rfl
    have e0 : lookB (a, b) = 0 := by unfold lookB; rw [hin1, nbad, nw]; rfl
    refine ⟨_, rfl, lr, _, rfl, .inl ⟨SqL.of (s57 _ _ hlr5), fun t1 ht1 => ?_⟩⟩
    have s8 : Same H7 (upd H7 t1 (.tup vr)) := same_upd ht1
    have ht8 : (upd H7 t1 (.tup vr)) t1 = some (.tup vr) := upd_same
    generalize upd H7 t1 (.tup vr) = H8 at s8 ht8 ⊢
    have s58 := s57.trans s8
    refine ⟨_, rfl, lc, _, rfl, .inl ⟨SqL.of (s58 _ _ hlc5), fun t2 ht2 => ?_⟩⟩
    have s9 : Same H8 (upd H8 t2 (.tup vc)) := same_upd ht2
    have ht9 : (upd H8 t2 (.tup vc)) t2 = some (.tup vc) := upd_same
    generalize upd H8 t2 (.tup vc) = H9 at s9 ht9 ⊢
    have s59 := s58.trans s9
    refine ⟨by show 2 ≤ sizeLine; decide, fun t ht => ?_⟩
    have s10 : Same H9 (upd H9 t (.tup [.ref t1, .ref t2])) := same_upd ht
    exact k0 e0 t _ (s15.trans (s59.trans s10)) (mk_board upd_same (mk_tups (s10 _ _ (s9 _ _ ht8)) (IsDs.mono (s59.trans s10) hd3)) (mk_tups (s10 _ _ ht9) (IsDs.mono (s59.trans s10) hd5)))
end

section
variable {P : Program} {w : World} {K : PySem.W.Frag} {mg : Str → Option Value} {base : Heap} {C : Addr}
structure Errs (K : PySem.W.Frag) (mg : Str → Option Value) (PE NL NN TM BR W NO : Addr) : Prop where
  pe : mg "PaintError" = some (.ref PE)
  nl : mg "NoLaying" = some (.ref NL)
  nn : mg "NoNumber" = some (.ref NN)
  tm : mg "TooMany" = some (.ref TM)
  br : mg "BadRun" = some (.ref BR)
  wd : mg "Wide" = some (.ref W)
  no : mg "NoNote" = some (.ref NO)
  ve : mg "ValueError" = none
  pex : ExcC K PE
structure Marks (K : PySem.W.Frag) (PE NL NN TM BR W NO C : Addr) (b0 b1 b2 b3 b4 b5 : Bool) : Prop where
  ex : ExcC K C
  sub : PySem.W.mroIn K C (.ref PE) = some true
  m0 : PySem.W.kitOne K (.ref C) (.ref NL) = some b0
  m1 : PySem.W.kitOne K (.ref C) (.ref NN) = some b1
  m2 : PySem.W.kitOne K (.ref C) (.ref TM) = some b2
  m3 : PySem.W.kitOne K (.ref C) (.ref BR) = some b3
  m4 : PySem.W.kitOne K (.ref C) (.ref W) = some b4
  m5 : PySem.W.kitOne K (.ref C) (.ref NO) = some b5
  m6 : PySem.W.kitOne K (.ref C) (.type "ValueError") = some true
theorem kit_self : PySem.W.kitOne K (.ref C) (.ref C) = some true := by unfold PySem.W.kitOne; rw [if_pos (by simp)]
theorem kit_no {D : Addr} (h1 : PySem.W.mroIn K C (.ref C) = some true) (h2 : PySem.W.mroIn K C (.ref D) = some false) (h3 : PySem.W.isClsIn K D = true) (h4 : PySem.W.typeIn K (.ref D) = some (.type "type")) : PySem.W.kitOne K (.ref C) (.ref D) = some false := by
  have hne : C ≠ D := fun z => by rw [z] at h1 h2; rw [h1] at h2; cases h2
  unfold PySem.W.kitOne
  rw [if_neg (by simp; exact hne)]
  unfold PySem.W.kitCls
  unfold PySem.W.isClsIn at h3
  show (if ((PySem.W.clsIn K D).isSome && PySem.W.typeIn K (.ref D) == some (.type "type")) = true then PySem.W.subIn K (.ref C) (.ref D) else none) = some false
  rw [h3, h4, if_pos (by decide)]
  exact h2
theorem kit_val (h : PySem.W.mroIn K C (.type "ValueError") = some true) : PySem.W.kitOne K (.ref C) (.type "ValueError") = some true := by
  unfold PySem.W.kitOne
  rw [if_neg (by simp)]
  show (if PySem.W.kitMeta "ValueError" = true then PySem.W.subIn K (.ref C) (.type "ValueError") else none) = some true
  rw [if_pos (by decide +kernel)]
  exact h
theorem bt_ValueError : bootBuiltins "ValueError" = some (.type "ValueError") := by decide +kernel
end

section
variable {P : Program} {w : World} {K : PySem.W.Frag} {mg : Str → Option Value} {base : Heap} {C : Addr}
def marksL (n : Nat) : List Bool := [decide (0 = n), decide (1 = n), decide (2 = n), decide (3 = n), decide (4 = n), decide (5 = n), true]
end

section
variable {P : Program} {w : World} {K : PySem.W.Frag} {mg : Str → Option Value} {base : Heap} {C : Addr}
theorem isDs_bls {H : Hp} : ∀ (bs : List Bool), IsDs H (bs.map Dt.bl) (bs.map V.bl)
  | [] => by unfold IsDs; rfl
  | b :: bs => by
    rw [List.map_cons, List.map_cons]
    unfold IsDs
    exact ⟨V.bl b, bs.map V.bl, rfl, by unfold IsD; rfl, isDs_bls bs⟩
theorem isD_bls {H : Hp} {a : Addr} {bs : List Bool} (h : H a = some (.lst (bs.map V.bl))) : IsD H (.lst (bs.map Dt.bl)) (.ref a) := by unfold IsD; exact ⟨a, _, rfl, h, isDs_bls bs⟩
theorem depth_bls (bs : List Bool) : depthD (.lst (bs.map Dt.bl)) ≤ 20 := by
  rw [depth_l]
  have : depthDs (bs.map Dt.bl) ≤ 0 := by
    induction bs with
    | nil => simp [depthDs]
    | cons b bs ih => rw [List.map_cons]; unfold depthDs; simp [depthD]; omega
  omega
def sp__law_refused : Sp := fun vs H Q _ => ∃ (m : Addr) (n : Nat), vs = [.ref m, .int n] ∧ H m = some (.lst ((marksL n).map V.bl)) ∧ ∀ H', Same H H' → Q (.bl true) H'
theorem sc__law_refused : FnScope ["marks", "which"] ["marks", "which"] (defScope s__law_refused) := ⟨rfl, rfl, rfl, by decide +kernel, rfl, by decide +kernel, by decide +kernel⟩
theorem ok__law_refused {f : Addr} {fd : FuncData} (F : Fun K "_law_refused" "_law_refused" s__law_refused f fd) (B : Bt mg) : FnOk P w K mg base CX0 1 f fd ["marks", "which"] sp__law_refused := by
  refine F.ok sc__law_refused (fun vs H Q E h => ?_) (fun cdv A outer s H vs Q E hr h => ?_)
  · obtain ⟨m, n, rfl, _⟩ := h
    rfl
  · obtain ⟨m, n, rfl, hm, k⟩ := h
    have hu := units20 hr
    refine ⟨_, (pss_one (ps_ret (pe_cmpR (op_eqD hu) (pv 0) (pe_op op_cat (pe_comp ["k"] [1] ⟨rfl, rfl, rfl, rfl, rfl⟩ rfl (pi_range1 rfl B.range (pa_cons pe_int pa_nil)) (fun _ _ _ _ _ => (pg_name (i := 0) (show (["k", "which"] : List Str).Nodup by decide +kernel) rfl (Or.inl rfl))) (fun _ _ _ _ _ => pcb_elt (pe_cmpR op_eq (pv 0) (pv 1) (nomark _)))) (pe_lst (pa_cons pe_bl pa_nil))) (nomark _)))), ?_⟩
    refine ⟨_, rfl, 6, rfl, by decide, by decide, comp_range (fun i ys H' => H' = H ∧ ys = ((List.range i).map fun k => decide (k = n)).map V.bl) ⟨rfl, rfl⟩ ?_ ?_ ?_ ?_⟩
    · exact Nat.le_of_lt (small1000 (by decide))
    · rintro i ys H' ⟨_, rfl⟩
      simp
    · rintro i ys H' hi ⟨rfl, rfl⟩
      refine ⟨rfl, ?_⟩
      refine ⟨_, rfl, _, rfl, rfl, rfl, ?_⟩
      rw [List.range_succ, List.map_append, List.map_append]
      have e : decide (V.int ((0 : Int) + (i : Nat)) = V.int (n : Nat)) = decide (i = n) := by
        by_cases h : i = n
        · rw [decide_eq_true h, dec_int1.mpr (by omega)]
        · rw [decide_eq_false h, decide_eq_false (fun z => h (by have := V.int.inj z; omega))]
      rw [e]
      rfl
    · rintro ys H' ⟨rfl, rfl⟩ l hl
      have s1 : Same H' (upd H' l (.lst (((List.range (6 : Int).toNat).map fun k => decide (k = n)).map V.bl))) := same_upd hl
      refine ⟨by show 1 ≤ sizeLine; decide, fun l2 hl2 => ?_⟩
      have n12 : l ≠ l2 := fun z => by rw [z, upd_same] at hl2; cases hl2
      have s2 := s1.trans (same_upd (o := HO.lst [V.bl true]) hl2)
      refine ⟨l, l2, _, _, rfl, rfl, (by rw [upd_ne n12, upd_same]), upd_same, by show 7 ≤ sizeLine; decide, fun l3 hl3 => ?_⟩
      have s3 := s2.trans (same_upd (o := HO.lst ((((List.range (6 : Int).toNat).map fun k => decide (k = n)).map V.bl) ++ [V.bl true])) hl3)
      refine ⟨.lst ((marksL n).map Dt.bl), .lst ((marksL n).map Dt.bl), isD_bls (s3 _ _ hm), isD_bls (by rw [upd_same]; rfl), rfl, rfl, depth_bls _, ?_⟩
      rw [eqD_refl]
      exact k _ s3
end

section
variable {P : Program} {w : World} {K : PySem.W.Frag} {mg : Str → Option Value} {base : Heap} {C : Addr}
def sp__law_told : Sp := fun vs H Q _ => ∃ (z : Str), vs = [.str z] ∧ z.length ≤ 1890 ∧
  (∀ b, boardO z = some b → lookB b = 0 → ∀ t l m H', Same H H' → H' t = some (.tup [.ref l, .ref m]) → IsD H' (dBoard b) (.ref l) → H' m = some (.lst []) → Q (.ref t) H') ∧
  (codeT z ≠ 0 → ∀ t m H', Same H H' → H' t = some (.tup [.non, .ref m]) → H' m = some (.lst ((marksL (codeT z)).map V.bl)) → Q (.ref t) H')
theorem sc__law_told : FnScope ["text", "found", "marks", "e"] ["text"] (defScope s__law_told) := ⟨rfl, rfl, rfl, by decide +kernel, rfl, by decide +kernel, by decide +kernel⟩
theorem ok__law_told {f PE NL NN TM BR W NO : Addr} {fd : FuncData} (F : Fun K "_law_told" "_law_told" s__law_told f fd) (B : Bt mg) (R : Errs K mg PE NL NN TM BR W NO) (M2 : Marks K PE NL NN TM BR W NO TM false false true false false false) (M4 : Marks K PE NL NN TM BR W NO W false false false false true false) (M5 : Marks K PE NL NN TM BR W NO NO false false false false false true)
    (c_read : Callee P w K mg base (CXe P w) "read" 4 ["text"] (sp_read NO TM W)) : FnOk P w K mg base CX0 5 f fd ["text"] sp__law_told := by
  refine F.ok sc__law_told (fun vs H Q E h => ?_) (fun cdv A outer s H vs Q E hr h => ?_)
  · obtain ⟨z, rfl, _⟩ := h
    rfl
  · obtain ⟨z, rfl, hz, k0, kx⟩ := h
    refine ⟨_, (pss_cons (ps_set (i := 1) sc__law_told.nd rfl (Or.inl rfl) pe_non)
      (pss_cons (ps_set (i := 2) sc__law_told.nd rfl (Or.inl rfl) (pe_lst pa_nil))
      (pss_join (ps_try K rfl sc__law_told.nd (i := 3) rfl rfl rfl rfl rfl R.pe R.pex.ex R.pex.be (EE := fun σ Cv _ H' => ∃ lm, σ = [some (.str z), some .non, some (.ref lm), none] ∧ Same H H' ∧ ((Cv = .ref TM ∧ codeT z = 2) ∨ (Cv = .ref NO ∧ codeT z = 5) ∨ (Cv = .ref W ∧ codeT z = 4))) (fun _ =>
      (pss_one (ps_set (i := 1) sc__law_told.nd rfl (Or.inl rfl) (pe_calX c_read hr takes_wx (pa_cons (pv 0) pa_nil))))) (fun _ =>
      (pss_cons (ps_set (i := 2) sc__law_told.nd rfl (Or.inl rfl) (pe_lst (pa_cons (pe_callB (call_isinstX K) rfl B.isinstance bt_isinstance (pa_cons (pv 3) (pa_cons (pe_glob (v := .ref NL) rfl R.nl rfl) pa_nil))) (pa_cons (pe_callB (call_isinstX K) rfl B.isinstance bt_isinstance (pa_cons (pv 3) (pa_cons (pe_glob (v := .ref NN) rfl R.nn rfl) pa_nil))) (pa_cons (pe_callB (call_isinstX K) rfl B.isinstance bt_isinstance (pa_cons (pv 3) (pa_cons (pe_glob (v := .ref TM) rfl R.tm rfl) pa_nil))) (pa_cons (pe_callB (call_isinstX K) rfl B.isinstance bt_isinstance (pa_cons (pv 3) (pa_cons (pe_glob (v := .ref BR) rfl R.br rfl) pa_nil))) pa_nil))))))
      (pss_one (ps_set (i := 2) sc__law_told.nd rfl (Or.inl rfl) (pe_op op_cat (pv 2) (pe_lst (pa_cons (pe_callB (call_isinstX K) rfl B.isinstance bt_isinstance (pa_cons (pv 3) (pa_cons (pe_glob (v := .ref W) rfl R.wd rfl) pa_nil))) (pa_cons (pe_callB (call_isinstX K) rfl B.isinstance bt_isinstance (pa_cons (pv 3) (pa_cons (pe_glob (v := .ref NO) rfl R.no rfl) pa_nil))) (pa_cons (pe_callB (call_isinstX K) rfl B.isinstance bt_isinstance (pa_cons (pv 3) (pa_cons (pe_bltn (v := .ty "ValueError") rfl R.ve bt_ValueError rfl) pa_nil))) pa_nil))))))))))
      (pss_one (ps_ret (pe_tup (pa_cons (pv 1) (pa_cons (pv 2) pa_nil)))))))), ?_⟩
    refine ⟨Nat.zero_le _, fun lm hlm => ?_⟩
    have s0 : Same H (upd H lm (.lst [])) := same_upd hlm
    have hlm0 : (upd H lm (.lst [])) lm = some (.lst []) := upd_same
    generalize upd H lm (.lst []) = H0 at s0 hlm0 ⊢
    refine ⟨fun σ' H' => Same H H' ∧ ((∃ (l : Addr) (b : Bd), boardO z = some b ∧ lookB b = 0 ∧ σ' = [some (.str z), some (.ref l), some (.ref lm), none] ∧ IsD H' (dBoard b) (.ref l) ∧ H' lm = some (.lst [])) ∨
      (∃ m, codeT z ≠ 0 ∧ σ' = [some (.str z), some .non, some (.ref m), none] ∧ H' m = some (.lst ((marksL (codeT z)).map V.bl)))), ⟨?_, ?_⟩, ?_⟩
    · refine ⟨_, rfl, z, rfl, hz, fun e H1 s1 => ⟨lm, rfl, s0.trans s1, .inr (.inl ⟨rfl, code_none e⟩)⟩, fun b e => ⟨fun q H1 s1 => ⟨lm, rfl, s0.trans s1, .inl ⟨rfl, (code_some e).trans q⟩⟩, fun q H1 s1 => ⟨lm, rfl, s0.trans s1, .inr (.inr ⟨rfl, (code_some e).trans q⟩)⟩, fun q t H1 s1 ht => ⟨s0.trans s1, .inl ⟨t, b, e, q, rfl, ht, s1 _ _ hlm0⟩⟩⟩⟩
    · rintro σ1 C1 a H1 ⟨lm', rfl, s1, hCs⟩ ha
      obtain ⟨b0, b1, b2, b3, b4, b5, M, hml, hne⟩ : ∃ b0 b1 b2 b3 b4 b5, Marks K PE NL NN TM BR W NO C1 b0 b1 b2 b3 b4 b5 ∧ marksL (codeT z) = [b0, b1, b2, b3, b4, b5, true] ∧ codeT z ≠ 0 := by
        rcases hCs with ⟨e, q⟩ | ⟨e, q⟩ | ⟨e, q⟩
        · cases e; exact ⟨_, _, _, _, _, _, M2, by rw [q]; rfl, by omega⟩
        · cases e; exact ⟨_, _, _, _, _, _, M5, by rw [q]; rfl, by omega⟩
        · cases e; exact ⟨_, _, _, _, _, _, M4, by rw [q]; rfl, by omega⟩
      refine ⟨M.ex.ex, M.sub, ?_⟩
      have s2 : Same H1 (upd H1 a (excO C1 a)) := same_upd ha
      have ha2 : (upd H1 a (excO C1 a)) a = some (excO C1 a) := upd_same
      generalize upd H1 a (excO C1 a) = H2 at s2 ha2 ⊢
      refine ⟨_, rfl, a, .ref NL, C1, b0, rfl, fun _ z => z, ha2, M.ex, M.m0, ?_⟩
      refine ⟨_, rfl, a, .ref NN, C1, b1, rfl, fun _ z => z, ha2, M.ex, M.m1, ?_⟩
      refine ⟨_, rfl, a, .ref TM, C1, b2, rfl, fun _ z => z, ha2, M.ex, M.m2, ?_⟩
      refine ⟨_, rfl, a, .ref BR, C1, b3, rfl, fun _ z => z, ha2, M.ex, M.m3, ?_⟩
      refine ⟨by show 4 ≤ sizeLine; decide, fun m1 hm1 => ?_⟩
      have s3 : Same H2 (upd H2 m1 (.lst [.bl b0, .bl b1, .bl b2, .bl b3])) := same_upd hm1
      have hm1' : (upd H2 m1 (.lst [.bl b0, .bl b1, .bl b2, .bl b3])) m1 = some (.lst [.bl b0, .bl b1, .bl b2, .bl b3]) := upd_same
      have ha3 := s3 _ _ ha2
      generalize upd H2 m1 (.lst [V.bl b0, V.bl b1, V.bl b2, V.bl b3]) = H3 at s3 hm1' ha3 ⊢
      refine ⟨_, rfl, _, rfl, a, .ref W, C1, b4, rfl, fun _ z => z, ha3, M.ex, M.m4, ?_⟩
      refine ⟨_, rfl, a, .ref NO, C1, b5, rfl, fun _ z => z, ha3, M.ex, M.m5, ?_⟩
      refine ⟨_, rfl, a, .ty "ValueError", C1, true, rfl, fun _ z => z, ha3, M.ex, M.m6, ?_⟩
      refine ⟨by show 3 ≤ sizeLine; decide, fun m2 hm2 => ?_⟩
      have s4 : Same H3 (upd H3 m2 (.lst [.bl b4, .bl b5, .bl true])) := same_upd hm2
      refine ⟨m1, m2, _, _, rfl, rfl, s4 _ _ hm1', upd_same, by show 7 ≤ sizeLine; decide, fun m3 hm3 => ?_⟩
      exact ⟨(((s1.trans s2).trans s3).trans s4).trans (same_upd hm3), .inr ⟨m3, hne, rfl, by rw [upd_same, hml]; rfl⟩⟩
    · rintro σ' H' ⟨s1, ⟨l, b, hb0, hz0, rfl, hl, hlm1⟩ | ⟨m, hne, rfl, hm⟩⟩
      · refine ⟨_, rfl, _, rfl, by show 2 ≤ sizeLine; decide, fun t ht => ?_⟩
        have s2 := same_upd (o := HO.tup [.ref l, .ref lm]) ht
        exact k0 b hb0 hz0 t l lm _ (s1.trans s2) upd_same (IsD.mono s2 hl) (s2 _ _ hlm1)
      · refine ⟨_, rfl, _, rfl, by show 2 ≤ sizeLine; decide, fun t ht => ?_⟩
        have s2 := same_upd (o := HO.tup [.non, .ref m]) ht
        exact kx hne t m _ (s1.trans s2) upd_same (s2 _ _ hm)
end

section
theorem bt_str : bootBuiltins "str" = some (.type "str") := by decide +kernel
theorem log_small {i : Int} (h : 1 ≤ i ∧ i ≤ 99) : i.natAbs.log2 < 1920 := by
  have h1 : i.natAbs < 2 ^ 7 := by omega
  have h2 : i.natAbs.log2 < 7 := (Nat.log2_lt (by omega)).mpr h1
  omega
def Wr (xs : List Int) : Prop := smallR xs ∧ xs.length ≤ 14
def WrB (b : Bd) : Prop := (∀ xs ∈ b.1, Wr xs) ∧ b.1.length ≤ 13 ∧ (∀ xs ∈ b.2, Wr xs) ∧ b.2.length ≤ 13
end

section
theorem runsR_pos : ∀ (ns : List Int) (acc : Int), 0 ≤ acc → ∀ x ∈ runsR acc ns, 1 ≤ x ∧ x ≤ acc + ns.length
  | [], acc, h, x, hx => by
    unfold runsR at hx
    split at hx
    · rename_i q
      have : x = acc := by simpa using hx
      simp
      omega
    · simp at hx
  | z :: r, acc, h, x, hx => by
    unfold runsR at hx
    rw [List.length_cons]
    split at hx
    · have := runsR_pos r (acc + 1) (by omega) x hx
      omega
    · split at hx
      · rcases List.mem_cons.mp hx with e | e
        · omega
        · have := runsR_pos r 0 (by omega) x e
          omega
      · have := runsR_pos r 0 (by omega) x hx
        omega
end

section
variable {P : Program} {w : World} {K : PySem.W.Frag} {mg : Str → Option Value} {base : Heap}
def sp__law_text : Sp := fun vs H Q _ => ∃ (t : Addr) (b : Bd), vs = [.ref t] ∧ IsD H (dBoard b) (.ref t) ∧ WrB b ∧ ∀ H', Same H H' → Q (.str (boardT b)) H'
theorem sc__law_text : FnScope ["board", "parts", "lines", "words", "runs", "word"] ["board"] (defScope s__law_text) := ⟨rfl, rfl, rfl, by decide +kernel, rfl, by decide +kernel, by decide +kernel⟩
theorem ok__law_text {f : Addr} {fd : FuncData} (F : Fun K "_law_text" "_law_text" s__law_text f fd) (B : Bt mg) (hst : mg "str" = none) : FnOk P w K mg base CX0 1 f fd ["board"] sp__law_text := by
  refine F.ok sc__law_text (fun vs H Q E h => ?_) (fun cdv A outer s H vs Q E hr h => ?_)
  · obtain ⟨t, b, rfl, _⟩ := h
    rfl
  · obtain ⟨t, b, rfl, hd, ⟨h1, n1, h2, n2⟩, k⟩ := h
    have hu := units20 hr
    refine ⟨_, (pss_cons (ps_set (i := 1) sc__law_text.nd rfl (Or.inl rfl) (pe_lst pa_nil))
      (pss_cons (ps_for PassesOwn.never rfl (pi_tupK K (pv 0)) (pg_name (i := 2) sc__law_text.nd rfl (Or.inl rfl))
      (pss_cons (ps_set (i := 3) sc__law_text.nd rfl (Or.inl rfl) (pe_lst pa_nil))
      (pss_cons (ps_for PassesOwn.never rfl (pi_tupK K (pv 2)) (pg_name (i := 4) sc__law_text.nd rfl (Or.inl rfl))
      (pss_cons (ps_set (i := 5) sc__law_text.nd rfl (Or.inl rfl) (pe_bm PySem.F.plainAttrs_str PySem.F.slot_str_join PySem.F.type_str_join mt_join pe_str (pa_cons (pe_comp ["run"] [] ⟨rfl, rfl, rfl, rfl, rfl⟩ rfl (pi_tupK K (pv 4)) (fun _ _ _ _ _ => (pg_name (i := 0) (show (["run"] : List Str).Nodup by decide +kernel) rfl (Or.inl rfl))) (fun _ _ _ _ _ => pcb_elt (pe_callTy call_str_int rfl hst bt_str (pa_cons (pv 0) pa_nil)))) pa_nil)))
      (pss_join (ps_if (pt_cmpR (op_eqD hu) (pv 4) (pe_tup pa_nil) (nomark _))
      (pss_one (ps_set (i := 5) sc__law_text.nd rfl (Or.inl rfl) pe_str))
      pss_nil)
      (pss_one (ps_expr (pe_bm PySem.F.plainAttrs_list PySem.F.slot_list_append PySem.F.type_list_append mt_append (pv 3) (pa_cons (pv 5) pa_nil)))))))
      (pss_one (ps_expr (pe_bm PySem.F.plainAttrs_list PySem.F.slot_list_append PySem.F.type_list_append mt_append (pv 1) (pa_cons (pe_bm PySem.F.plainAttrs_str PySem.F.slot_str_join PySem.F.type_str_join mt_join pe_str (pa_cons (pv 3) pa_nil)) pa_nil)))))))
      (pss_one (ps_ret (pe_op op_add_str (pe_op op_add_str (pe_ix (ix_listK K) (pv 1) pe_int (fun _ _ => rfl)) pe_str) (pe_ix (ix_listK K) (pv 1) pe_int (fun _ _ => rfl))))))), ?_⟩
    obtain ⟨r, c, ha, hr1, hc1⟩ := board_inv hd
    have hbig : 2000 ≤ sizeLine := by decide
    refine ⟨Nat.zero_le _, fun lp hlp => ?_⟩
    have s0 : Same H (upd H lp (.lst [])) := same_upd hlp
    refine ⟨_, rfl, t, rfl, ⟨_, SqT.of (s0 _ _ ha)⟩, for_tup (K := K) (a := t) (xs := [.ref r, .ref c]) (fun i σ H2 => ∃ (o2 o3 o4 o5 : Option V), σ = [some (.ref t), some (.ref lp), o2, o3, o4, o5] ∧ Same H H2 ∧ H2 lp = some (.lst (([linesT b.1, linesT b.2].take i).map V.str))) ⟨none, none, none, none, rfl, s0, upd_same⟩ ?_ ?_ ?_⟩
    · rintro i σ H2 _ ⟨o2, o3, o4, o5, rfl, s2, hl2⟩
      exact SqT.of (s2 _ _ ha)
    · rintro i x σ H2 hi ⟨o2, o3, o4, o5, rfl, s2, hl2⟩
      obtain ⟨q, xss, rfl, hq, hxs, hxn, hiT⟩ : ∃ (q : Addr) (xss : List (List Int)), x = .ref q ∧ IsD H (dTups xss) (.ref q) ∧ (∀ xs ∈ xss, Wr xs) ∧ xss.length ≤ 13 ∧ [linesT b.1, linesT b.2][i]? = some (linesT xss) := by
        match i, hi with
        | 0, hi => exact ⟨r, b.1, (Option.some.inj hi).symm, hr1, h1, n1, rfl⟩
        | 1, hi => exact ⟨c, b.2, (Option.some.inj hi).symm, hc1, h2, n2, rfl⟩
      obtain ⟨vs, hv, hs⟩ := tups_inv hq
      have hvl := rows_len hs
      refine ⟨Nat.zero_le _, fun lw hlw => ?_⟩
      have fw : H lw = none := s2.free hlw
      have npw : lp ≠ lw := ne_of_none hl2 hlw
      have hlp3 : (upd H2 lw (.lst [])) lp = some (.lst (([linesT b.1, linesT b.2].take i).map V.str)) := by rw [upd_ne npw]; exact hl2
      refine ⟨_, rfl, q, rfl, ⟨_, SqT.of (same_upd hlw _ _ (s2 _ _ hv))⟩, for_tup (K := K) (a := q) (xs := vs) (fun j σ H3 => ∃ (o4 o5 : Option V), σ = [some (.ref t), some (.ref lp), some (.ref q), some (.ref lw), o4, o5] ∧ Same H H3 ∧ H3 lp = some (.lst (([linesT b.1, linesT b.2].take i).map V.str)) ∧ H3 lw = some (.lst (((xss.take j).map lineT).map V.str)))
        ⟨o4, o5, rfl, s2.trans (same_upd hlw), hlp3, upd_same⟩ ?_ ?_ ?_⟩
      · rintro j σ H3 _ ⟨o4, o5, rfl, s3, _, _⟩
        exact SqT.of (s3 _ _ hv)
      · rintro j y σ H3 hj ⟨o4, o5, rfl, s3, hp3, hw3⟩
        obtain ⟨xs, hxx, hxd⟩ := rows_get hs hj
        obtain ⟨bx, rfl, hb⟩ := tup_inv hxd
        have hb3 := s3 _ _ hb
        obtain ⟨hsm, hxl⟩ := hxs xs (List.mem_of_getElem? hxx)
        have hm : (xs.map V.int).length = xs.length := List.length_map _
        refine ⟨rfl, _, rfl, bx, rfl, ⟨_, SqT.of hb3⟩, comp_tup (K := K) (a := bx) (xs := xs.map V.int) (fun j ys H4 => H4 = H3 ∧ ys = ((xs.take j).map runT).map V.str) ⟨rfl, rfl⟩ ?_ ?_ ?_ ?_ ?_⟩
        · exact Nat.le_of_lt (small1000 (by omega))
        · rintro j ys H4 ⟨_, rfl⟩
          rw [List.length_map, List.length_map, List.length_take]
          omega
        · rintro j ys H4 _ ⟨rfl, _⟩
          exact SqT.of hb3
        · rintro j y ys H4 hj ⟨rfl, rfl⟩
          obtain ⟨z, hz, rfl⟩ := map_get hj
          refine ⟨rfl, ?_⟩
          refine ⟨_, rfl, z, rfl, log_small (hsm z (List.mem_of_getElem? hz)), rfl, ?_⟩
          rw [List.take_add_one, hz, List.map_append, List.map_append]
          rfl
        · rintro ys H4 ⟨rfl, rfl⟩ l hl
          rw [hm, List.take_length]
          refine ⟨sg 32, l, xs.map runT, rfl, rfl, SqL.of upd_same, joinOk_of (B := 3) (fun y hy => ?_) (by decide) (by rw [List.length_map]; omega), ?_⟩
          · obtain ⟨x, hx', rfl⟩ := List.mem_map.mp hy
            exact runT_len (hsm x hx')
          have s4 : Same H4 (upd H4 l (.lst ((xs.map runT).map V.str))) := same_upd hl
          generalize upd H4 l (.lst ((xs.map runT).map V.str)) = H5 at s4 ⊢
          refine ⟨fun σ' H' => σ' = [some (.ref t), some (.ref lp), some (.ref q), some (.ref lw), some (.ref bx), some (.str (lineT xs))] ∧ Same H4 H', ?_, ?_⟩
          · refine ⟨_, rfl, by show 0 ≤ sizeLine; decide, fun e0 he0 => ?_⟩
            have s5 : Same H5 (upd H5 e0 (.tup [])) := same_upd he0
            refine ⟨dTup xs, dTup [], isD_tup (s5 _ _ (s4 _ _ hb3)), isD_tup upd_same, rfl, rfl, Nat.le_trans (depth_tup _) (by decide), _, rfl, ?_⟩
            generalize upd H5 e0 (.tup []) = H6 at s5 ⊢
            by_cases h0 : xs = []
            · rw [h0, eqD_refl]
              exact iteT ⟨rfl, s4.trans s5⟩
            · have he : eqD (dTup xs) (dTup []) = false := by
                unfold dTup
                rw [eqD_tt]
                cases xs with
                | nil => exact absurd rfl h0
                | cons a b => rfl
              rw [he]
              refine iteF ⟨?_, s4.trans s5⟩
              have : lineT xs = Str.join (sg 32) (xs.map runT) := by unfold lineT; rw [if_neg h0]
              rw [this]
              rfl
          · rintro σ' H6 ⟨rfl, s6⟩
            have hw6 := s6 _ _ hw3
            refine ⟨_, rfl, .inl ⟨rfl, _, SqL.of hw6⟩, _, rfl, lw, _, _, rfl, rfl, hw6, small1000 (by rw [List.length_map, List.length_map, List.length_take]; omega), ?_⟩
            refine ⟨_, _, rfl, same_upd' (s3.trans s6) fw, by rw [upd_ne npw]; exact s6 _ _ hp3, ?_⟩
            rw [upd_same, List.take_add_one, hxx, List.map_append, List.map_append]
            rfl
      · rintro σ H3 ⟨o4, o5, rfl, s3, hp3, hw3⟩
        rw [hvl, List.take_length] at hw3
        have fp : H lp = none := hlp
        refine ⟨_, rfl, .inl ⟨rfl, _, SqL.of hp3⟩, rfl, _, rfl, sg 44, lw, xss.map lineT, rfl, rfl, SqL.of hw3, joinOk_of (B := 56) (fun y hy => ?_) (by decide) (by rw [List.length_map]; omega), ?_⟩
        · obtain ⟨x, hx', rfl⟩ := List.mem_map.mp hy
          exact lineT_len (hxs x hx').1 (hxs x hx').2
        refine ⟨lp, _, _, rfl, rfl, hp3, small1000 (by rw [List.length_map, List.length_take]; simp; omega), ?_⟩
        refine ⟨_, _, _, _, rfl, same_upd' s3 fp, ?_⟩
        rw [upd_same, List.take_add_one, hiT, List.map_append]
        rfl
    · rintro σ H2 ⟨o2, o3, o4, o5, rfl, s2, hl2⟩
      have hl2' : H2 lp = some (.lst [.str (linesT b.1), .str (linesT b.2)]) := hl2
      have l1 := linesT_len (fun xs hx => h1 xs hx) n1
      have l2 := linesT_len (fun xs hx => h2 xs hx) n2
      refine ⟨_, rfl, lp, _, _, .str (linesT b.1), rfl, rfl, SqL.of hl2', rfl, ?_⟩
      refine ⟨_, _, rfl, rfl, (by show (linesT b.1).length + 1 ≤ sizeLine; omega), ?_⟩
      refine ⟨_, rfl, lp, _, _, .str (linesT b.2), rfl, rfl, SqL.of hl2', rfl, ?_⟩
      exact ⟨_, _, rfl, rfl, (by rw [len_app]; show (linesT b.1).length + 1 + (linesT b.2).length ≤ sizeLine; omega), k H2 s2⟩
theorem runs_small {ns : List Int} {n : Nat} (h : ns.length ≤ n) (hn : n ≤ 13) : Wr (runsZ ns) := by
  refine ⟨fun x hx => ?_, Nat.le_trans (runsZ_length ns) (by omega)⟩
  rw [runsZ_R] at hx
  have := runsR_pos ns 0 (Int.le_refl _) x hx
  omega
end

section
@[irreducible] def oddC0 : Expr := Expr.Constant (Const.str (Str.ofString "")) 0 { line := 154, col := 12, endLine := 154, endCol := 14 }
@[irreducible] def oddC1 : Expr := Expr.Constant (Const.str (Str.ofString "|")) 0 { line := 154, col := 16, endLine := 154, endCol := 19 }
@[irreducible] def oddC2 : Expr := Expr.Constant (Const.str (Str.ofString "0|")) 0 { line := 154, col := 21, endLine := 154, endCol := 25 }
@[irreducible] def oddC3 : Expr := Expr.Constant (Const.str (Str.ofString "|0")) 0 { line := 154, col := 27, endLine := 154, endCol := 31 }
@[irreducible] def oddC4 : Expr := Expr.Constant (Const.str (Str.ofString "0")) 0 { line := 154, col := 33, endLine := 154, endCol := 36 }
@[irreducible] def oddC5 : Expr := Expr.Constant (Const.str (Str.ofString "0|0|0")) 0 { line := 154, col := 38, endLine := 154, endCol := 45 }
@[irreducible] def oddC6 : Expr := Expr.Constant (Const.str (Str.ofString "0 |0")) 0 { line := 154, col := 47, endLine := 154, endCol := 53 }
@[irreducible] def oddC7 : Expr := Expr.Constant (Const.str (Str.ofString "0|0 ")) 0 { line := 154, col := 55, endLine := 154, endCol := 61 }
@[irreducible] def oddC8 : Expr := Expr.Constant (Const.str (Str.ofString "0,|0")) 0 { line := 154, col := 63, endLine := 154, endCol := 69 }
@[irreducible] def oddC9 : Expr := Expr.Constant (Const.str (Str.ofString "1|1,")) 0 { line := 154, col := 71, endLine := 154, endCol := 77 }
theorem pe_odd0 {X : Cx} : PE X oddC0 (tC (.str "")) := by unfold oddC0; exact pe_str
theorem st_odd0 (es : List Expr) (env : Env) : starEach (oddC0 :: es) env = (false, eval oddC0 env) :: starEach es env := by unfold oddC0; rfl
theorem pe_odd1 {X : Cx} : PE X oddC1 (tC (.str "|")) := by unfold oddC1; exact pe_str
theorem st_odd1 (es : List Expr) (env : Env) : starEach (oddC1 :: es) env = (false, eval oddC1 env) :: starEach es env := by unfold oddC1; rfl
theorem pe_odd2 {X : Cx} : PE X oddC2 (tC (.str "0|")) := by unfold oddC2; exact pe_str
theorem st_odd2 (es : List Expr) (env : Env) : starEach (oddC2 :: es) env = (false, eval oddC2 env) :: starEach es env := by unfold oddC2; rfl
theorem pe_odd3 {X : Cx} : PE X oddC3 (tC (.str "|0")) := by unfold oddC3; exact pe_str
theorem st_odd3 (es : List Expr) (env : Env) : starEach (oddC3 :: es) env = (false, eval oddC3 env) :: starEach es env := by unfold oddC3; rfl
theorem pe_odd4 {X : Cx} : PE X oddC4 (tC (.str "0")) := by unfold oddC4; exact pe_str
theorem st_odd4 (es : List Expr) (env : Env) : starEach (oddC4 :: es) env = (false, eval oddC4 env) :: starEach es env := by unfold oddC4; rfl
theorem pe_odd5 {X : Cx} : PE X oddC5 (tC (.str "0|0|0")) := by unfold oddC5; exact pe_str
theorem st_odd5 (es : List Expr) (env : Env) : starEach (oddC5 :: es) env = (false, eval oddC5 env) :: starEach es env := by unfold oddC5; rfl
theorem pe_odd6 {X : Cx} : PE X oddC6 (tC (.str "0 |0")) := by unfold oddC6; exact pe_str
theorem st_odd6 (es : List Expr) (env : Env) : starEach (oddC6 :: es) env = (false, eval oddC6 env) :: starEach es env := by unfold oddC6; rfl
theorem pe_odd7 {X : Cx} : PE X oddC7 (tC (.str "0|0 ")) := by unfold oddC7; exact pe_str
theorem st_odd7 (es : List Expr) (env : Env) : starEach (oddC7 :: es) env = (false, eval oddC7 env) :: starEach es env := by unfold oddC7; rfl
theorem pe_odd8 {X : Cx} : PE X oddC8 (tC (.str "0,|0")) := by unfold oddC8; exact pe_str
theorem st_odd8 (es : List Expr) (env : Env) : starEach (oddC8 :: es) env = (false, eval oddC8 env) :: starEach es env := by unfold oddC8; rfl
theorem pe_odd9 {X : Cx} : PE X oddC9 (tC (.str "1|1,")) := by unfold oddC9; exact pe_str
theorem st_odd9 (es : List Expr) (env : Env) : starEach (oddC9 :: es) env = (false, eval oddC9 env) :: starEach es env := by unfold oddC9; rfl
@[irreducible] def oddE : Expr := Expr.List [oddC0, oddC1, oddC2, oddC3, oddC4, oddC5, oddC6, oddC7, oddC8, oddC9] { line := 154, col := 11, endLine := 154, endCol := 78 }
theorem pe_odd {X : Cx} : PE X oddE (tLst (tCons (tC (.str "")) (tCons (tC (.str "|")) (tCons (tC (.str "0|")) (tCons (tC (.str "|0")) (tCons (tC (.str "0")) (tCons (tC (.str "0|0|0")) (tCons (tC (.str "0 |0")) (tCons (tC (.str "0|0 ")) (tCons (tC (.str "0,|0")) (tCons (tC (.str "1|1,")) tNil))))))))))) := by
  unfold oddE
  exact pe_lst (pa_cons pe_odd0 (pa_cons pe_odd1 (pa_cons pe_odd2 (pa_cons pe_odd3 (pa_cons pe_odd4 (pa_cons pe_odd5 (pa_cons pe_odd6 (pa_cons pe_odd7 (pa_cons pe_odd8 (pa_cons pe_odd9 pa_nil (st_odd9 _ _)) (st_odd8 _ _)) (st_odd7 _ _)) (st_odd6 _ _)) (st_odd5 _ _)) (st_odd4 _ _)) (st_odd3 _ _)) (st_odd2 _ _)) (st_odd1 _ _)) (st_odd0 _ _))
@[irreducible] def linedC0 : Expr := Expr.Constant (Const.str (Str.ofString "")) 0 { line := 158, col := 11, endLine := 158, endCol := 13 }
@[irreducible] def linedC1 : Expr := Expr.Constant (Const.str (Str.ofString "0")) 0 { line := 158, col := 15, endLine := 158, endCol := 18 }
@[irreducible] def linedC2 : Expr := Expr.Constant (Const.str (Str.ofString "00")) 0 { line := 158, col := 20, endLine := 158, endCol := 24 }
@[irreducible] def linedC3 : Expr := Expr.Constant (Const.str (Str.ofString "01")) 0 { line := 158, col := 26, endLine := 158, endCol := 30 }
@[irreducible] def linedC4 : Expr := Expr.Constant (Const.str (Str.ofString "1 0")) 0 { line := 158, col := 32, endLine := 158, endCol := 37 }
@[irreducible] def linedC5 : Expr := Expr.Constant (Const.str (Str.ofString "0 1")) 0 { line := 158, col := 39, endLine := 158, endCol := 44 }
@[irreducible] def linedC6 : Expr := Expr.Constant (Const.str (Str.ofString " 1")) 0 { line := 158, col := 46, endLine := 158, endCol := 50 }
@[irreducible] def linedC7 : Expr := Expr.Constant (Const.str (Str.ofString "1 ")) 0 { line := 158, col := 52, endLine := 158, endCol := 56 }
@[irreducible] def linedC8 : Expr := Expr.Constant (Const.str (Str.ofString "1  1")) 0 { line := 158, col := 58, endLine := 158, endCol := 64 }
@[irreducible] def linedC9 : Expr := Expr.Constant (Const.str (Str.ofString "+1")) 0 { line := 158, col := 66, endLine := 158, endCol := 70 }
@[irreducible] def linedC10 : Expr := Expr.Constant (Const.str (Str.ofString "1_0")) 0 { line := 158, col := 72, endLine := 158, endCol := 77 }
@[irreducible] def linedC11 : Expr := Expr.Constant (Const.str (Str.ofString "-1")) 0 { line := 158, col := 79, endLine := 158, endCol := 83 }
@[irreducible] def linedC12 : Expr := Expr.Constant (Const.str (Str.ofString "999")) 0 { line := 158, col := 85, endLine := 158, endCol := 90 }
@[irreducible] def linedC13 : Expr := Expr.Constant (Const.str (Str.ofString "1000")) 0 { line := 158, col := 92, endLine := 158, endCol := 98 }
@[irreducible] def linedC14 : Expr := Expr.Constant (Const.str (Str.ofString "1.")) 0 { line := 158, col := 100, endLine := 158, endCol := 104 }
@[irreducible] def linedC15 : Expr := Expr.Constant (Const.str (Str.ofString "a")) 0 { line := 158, col := 106, endLine := 158, endCol := 109 }
theorem pe_lined0 {X : Cx} : PE X linedC0 (tC (.str "")) := by unfold linedC0; exact pe_str
theorem st_lined0 (es : List Expr) (env : Env) : starEach (linedC0 :: es) env = (false, eval linedC0 env) :: starEach es env := by unfold linedC0; rfl
theorem pe_lined1 {X : Cx} : PE X linedC1 (tC (.str "0")) := by unfold linedC1; exact pe_str
theorem st_lined1 (es : List Expr) (env : Env) : starEach (linedC1 :: es) env = (false, eval linedC1 env) :: starEach es env := by unfold linedC1; rfl
theorem pe_lined2 {X : Cx} : PE X linedC2 (tC (.str "00")) := by unfold linedC2; exact pe_str
theorem st_lined2 (es : List Expr) (env : Env) : starEach (linedC2 :: es) env = (false, eval linedC2 env) :: starEach es env := by unfold linedC2; rfl
theorem pe_lined3 {X : Cx} : PE X linedC3 (tC (.str "01")) := by unfold linedC3; exact pe_str
theorem st_lined3 (es : List Expr) (env : Env) : starEach (linedC3 :: es) env = (false, eval linedC3 env) :: starEach es env := by unfold linedC3; rfl
theorem pe_lined4 {X : Cx} : PE X linedC4 (tC (.str "1 0")) := by unfold linedC4; exact pe_str
theorem st_lined4 (es : List Expr) (env : Env) : starEach (linedC4 :: es) env = (false, eval linedC4 env) :: starEach es env := by unfold linedC4; rfl
theorem pe_lined5 {X : Cx} : PE X linedC5 (tC (.str "0 1")) := by unfold linedC5; exact pe_str
theorem st_lined5 (es : List Expr) (env : Env) : starEach (linedC5 :: es) env = (false, eval linedC5 env) :: starEach es env := by unfold linedC5; rfl
theorem pe_lined6 {X : Cx} : PE X linedC6 (tC (.str " 1")) := by unfold linedC6; exact pe_str
theorem st_lined6 (es : List Expr) (env : Env) : starEach (linedC6 :: es) env = (false, eval linedC6 env) :: starEach es env := by unfold linedC6; rfl
theorem pe_lined7 {X : Cx} : PE X linedC7 (tC (.str "1 ")) := by unfold linedC7; exact pe_str
theorem st_lined7 (es : List Expr) (env : Env) : starEach (linedC7 :: es) env = (false, eval linedC7 env) :: starEach es env := by unfold linedC7; rfl
theorem pe_lined8 {X : Cx} : PE X linedC8 (tC (.str "1  1")) := by unfold linedC8; exact pe_str
theorem st_lined8 (es : List Expr) (env : Env) : starEach (linedC8 :: es) env = (false, eval linedC8 env) :: starEach es env := by unfold linedC8; rfl
theorem pe_lined9 {X : Cx} : PE X linedC9 (tC (.str "+1")) := by unfold linedC9; exact pe_str
theorem st_lined9 (es : List Expr) (env : Env) : starEach (linedC9 :: es) env = (false, eval linedC9 env) :: starEach es env := by unfold linedC9; rfl
theorem pe_lined10 {X : Cx} : PE X linedC10 (tC (.str "1_0")) := by unfold linedC10; exact pe_str
theorem st_lined10 (es : List Expr) (env : Env) : starEach (linedC10 :: es) env = (false, eval linedC10 env) :: starEach es env := by unfold linedC10; rfl
theorem pe_lined11 {X : Cx} : PE X linedC11 (tC (.str "-1")) := by unfold linedC11; exact pe_str
theorem st_lined11 (es : List Expr) (env : Env) : starEach (linedC11 :: es) env = (false, eval linedC11 env) :: starEach es env := by unfold linedC11; rfl
theorem pe_lined12 {X : Cx} : PE X linedC12 (tC (.str "999")) := by unfold linedC12; exact pe_str
theorem st_lined12 (es : List Expr) (env : Env) : starEach (linedC12 :: es) env = (false, eval linedC12 env) :: starEach es env := by unfold linedC12; rfl
theorem pe_lined13 {X : Cx} : PE X linedC13 (tC (.str "1000")) := by unfold linedC13; exact pe_str
theorem st_lined13 (es : List Expr) (env : Env) : starEach (linedC13 :: es) env = (false, eval linedC13 env) :: starEach es env := by unfold linedC13; rfl
theorem pe_lined14 {X : Cx} : PE X linedC14 (tC (.str "1.")) := by unfold linedC14; exact pe_str
theorem st_lined14 (es : List Expr) (env : Env) : starEach (linedC14 :: es) env = (false, eval linedC14 env) :: starEach es env := by unfold linedC14; rfl
theorem pe_lined15 {X : Cx} : PE X linedC15 (tC (.str "a")) := by unfold linedC15; exact pe_str
theorem st_lined15 (es : List Expr) (env : Env) : starEach (linedC15 :: es) env = (false, eval linedC15 env) :: starEach es env := by unfold linedC15; rfl
@[irreducible] def linedE : Expr := Expr.List [linedC0, linedC1, linedC2, linedC3, linedC4, linedC5, linedC6, linedC7, linedC8, linedC9, linedC10, linedC11, linedC12, linedC13, linedC14, linedC15] { line := 158, col := 10, endLine := 158, endCol := 110 }
theorem pe_lined {X : Cx} : PE X linedE (tLst (tCons (tC (.str "")) (tCons (tC (.str "0")) (tCons (tC (.str "00")) (tCons (tC (.str "01")) (tCons (tC (.str "1 0")) (tCons (tC (.str "0 1")) (tCons (tC (.str " 1")) (tCons (tC (.str "1 ")) (tCons (tC (.str "1  1")) (tCons (tC (.str "+1")) (tCons (tC (.str "1_0")) (tCons (tC (.str "-1")) (tCons (tC (.str "999")) (tCons (tC (.str "1000")) (tCons (tC (.str "1.")) (tCons (tC (.str "a")) tNil))))))))))))))))) := by
  unfold linedE
  exact pe_lst (pa_cons pe_lined0 (pa_cons pe_lined1 (pa_cons pe_lined2 (pa_cons pe_lined3 (pa_cons pe_lined4 (pa_cons pe_lined5 (pa_cons pe_lined6 (pa_cons pe_lined7 (pa_cons pe_lined8 (pa_cons pe_lined9 (pa_cons pe_lined10 (pa_cons pe_lined11 (pa_cons pe_lined12 (pa_cons pe_lined13 (pa_cons pe_lined14 (pa_cons pe_lined15 pa_nil (st_lined15 _ _)) (st_lined14 _ _)) (st_lined13 _ _)) (st_lined12 _ _)) (st_lined11 _ _)) (st_lined10 _ _)) (st_lined9 _ _)) (st_lined8 _ _)) (st_lined7 _ _)) (st_lined6 _ _)) (st_lined5 _ _)) (st_lined4 _ _)) (st_lined3 _ _)) (st_lined2 _ _)) (st_lined1 _ _)) (st_lined0 _ _))
theorem body_odd : defBody s__law_odd = [Stmt.Return (some (Expr.Subscript oddE (Expr.BinOp (Expr.Name (Str.ofString "cell") { line := 154, col := 79, endLine := 154, endCol := 83 }) Operator.Mod (Expr.Constant (Const.int 10) 0 { line := 154, col := 86, endLine := 154, endCol := 88 }) { line := 154, col := 79, endLine := 154, endCol := 88 }) { line := 154, col := 11, endLine := 154, endCol := 89 })) { line := 154, col := 4, endLine := 154, endCol := 89 }] := by unfold oddE oddC0 oddC1 oddC2 oddC3 oddC4 oddC5 oddC6 oddC7 oddC8 oddC9; rfl
theorem body_lined : defBody s__law_lined = [Stmt.Assign [Expr.Name (Str.ofString "parts") { line := 156, col := 4, endLine := 156, endCol := 9 }] (Expr.Call (Expr.Attribute (Expr.Name (Str.ofString "text") { line := 156, col := 12, endLine := 156, endCol := 16 }) (Str.ofString "split") { line := 156, col := 12, endLine := 156, endCol := 22 }) [Expr.Constant (Const.str (Str.ofString "|")) 0 { line := 156, col := 23, endLine := 156, endCol := 26 }] [] { line := 156, col := 12, endLine := 156, endCol := 27 }) { line := 156, col := 4, endLine := 156, endCol := 27 }, Stmt.Assign [Expr.Name (Str.ofString "lines") { line := 157, col := 4, endLine := 157, endCol := 9 }] (Expr.Call (Expr.Attribute (Expr.Subscript (Expr.Name (Str.ofString "parts") { line := 157, col := 12, endLine := 157, endCol := 17 }) (Expr.BinOp (Expr.Name (Str.ofString "cell") { line := 157, col := 18, endLine := 157, endCol := 22 }) Operator.Mod (Expr.Constant (Const.int 2) 0 { line := 157, col := 25, endLine := 157, endCol := 26 }) { line := 157, col := 18, endLine := 157, endCol := 26 }) { line := 157, col := 12, endLine := 157, endCol := 27 }) (Str.ofString "split") { line := 157, col := 12, endLine := 157, endCol := 33 }) [Expr.Constant (Const.str (Str.ofString ",")) 0 { line := 157, col := 34, endLine := 157, endCol := 37 }] [] { line := 157, col := 12, endLine := 157, endCol := 38 }) { line := 157, col := 4, endLine := 157, endCol := 38 }, Stmt.Assign [Expr.Name (Str.ofString "odd") { line := 158, col := 4, endLine := 158, endCol := 7 }] linedE { line := 158, col := 4, endLine := 158, endCol := 110 }, Stmt.Assign [Expr.Subscript (Expr.Name (Str.ofString "lines") { line := 159, col := 4, endLine := 159, endCol := 9 }) (Expr.BinOp (Expr.BinOp (Expr.Name (Str.ofString "cell") { line := 159, col := 10, endLine := 159, endCol := 14 }) Operator.FloorDiv (Expr.Constant (Const.int 2) 0 { line := 159, col := 18, endLine := 159, endCol := 19 }) { line := 159, col := 10, endLine := 159, endCol := 19 }) Operator.Mod (Expr.Call (Expr.Name (Str.ofString "len") { line := 159, col := 22, endLine := 159, endCol := 25 }) [Expr.Name (Str.ofString "lines") { line := 159, col := 26, endLine := 159, endCol := 31 }] [] { line := 159, col := 22, endLine := 159, endCol := 32 }) { line := 159, col := 10, endLine := 159, endCol := 32 }) { line := 159, col := 4, endLine := 159, endCol := 33 }] (Expr.Subscript (Expr.Name (Str.ofString "odd") { line := 159, col := 36, endLine := 159, endCol := 39 }) (Expr.BinOp (Expr.Name (Str.ofString "other") { line := 159, col := 40, endLine := 159, endCol := 45 }) Operator.Mod (Expr.Constant (Const.int 16) 0 { line := 159, col := 48, endLine := 159, endCol := 50 }) { line := 159, col := 40, endLine := 159, endCol := 50 }) { line := 159, col := 36, endLine := 159, endCol := 51 }) { line := 159, col := 4, endLine := 159, endCol := 51 }, Stmt.Assign [Expr.Subscript (Expr.Name (Str.ofString "parts") { line := 160, col := 4, endLine := 160, endCol := 9 }) (Expr.BinOp (Expr.Name (Str.ofString "cell") { line := 160, col := 10, endLine := 160, endCol := 14 }) Operator.Mod (Expr.Constant (Const.int 2) 0 { line := 160, col := 17, endLine := 160, endCol := 18 }) { line := 160, col := 10, endLine := 160, endCol := 18 }) { line := 160, col := 4, endLine := 160, endCol := 19 }] (Expr.Call (Expr.Attribute (Expr.Constant (Const.str (Str.ofString ",")) 0 { line := 160, col := 22, endLine := 160, endCol := 25 }) (Str.ofString "join") { line := 160, col := 22, endLine := 160, endCol := 30 }) [Expr.Name (Str.ofString "lines") { line := 160, col := 31, endLine := 160, endCol := 36 }] [] { line := 160, col := 22, endLine := 160, endCol := 37 }) { line := 160, col := 4, endLine := 160, endCol := 37 }, Stmt.Return (some (Expr.BinOp (Expr.BinOp (Expr.Subscript (Expr.Name (Str.ofString "parts") { line := 161, col := 11, endLine := 161, endCol := 16 }) (Expr.Constant (Const.int 0) 0 { line := 161, col := 17, endLine := 161, endCol := 18 }) { line := 161, col := 11, endLine := 161, endCol := 19 }) Operator.Add (Expr.Constant (Const.str (Str.ofString "|")) 0 { line := 161, col := 22, endLine := 161, endCol := 25 }) { line := 161, col := 11, endLine := 161, endCol := 25 }) Operator.Add (Expr.Subscript (Expr.Name (Str.ofString "parts") { line := 161, col := 28, endLine := 161, endCol := 33 }) (Expr.Constant (Const.int 1) 0 { line := 161, col := 34, endLine := 161, endCol := 35 }) { line := 161, col := 28, endLine := 161, endCol := 36 }) { line := 161, col := 11, endLine := 161, endCol := 36 })) { line := 161, col := 4, endLine := 161, endCol := 36 }] := by unfold linedE linedC0 linedC1 linedC2 linedC3 linedC4 linedC5 linedC6 linedC7 linedC8 linedC9 linedC10 linedC11 linedC12 linedC13 linedC14 linedC15; rfl
end

section
variable {P : Program} {w : World} {K : PySem.W.Frag} {mg : Str → Option Value} {base : Heap}
def sp__law_odd : Sp := fun vs H Q _ => ∃ (c : Int), vs = [.int c] ∧ ∀ z H', z.length ≤ 5 → Same H H' → Q (.str z) H'
theorem sc__law_odd : FnScope ["cell"] ["cell"] (defScope s__law_odd) := ⟨rfl, rfl, rfl, by decide +kernel, rfl, by decide +kernel, by decide +kernel⟩
theorem ixN_nat {n i : Nat} (h : i < n) : ixN n (i : Nat) = some i := by
  unfold ixN
  rw [if_pos (by omega), if_pos (by omega)]
  rfl
theorem pick_str (ss : List Str) {n B : Nat} {m : Int} (hm : m = (n : Nat)) (hn : ss.length = n) (h0 : 0 < n) (hb : (ss.all fun y => decide (y.length ≤ B)) = true) (c : Int) : ∃ y : Str, atI (ss.map V.str) (c % m) = some (.str y) ∧ y.length ≤ B := by
  subst hm
  obtain ⟨j, hj⟩ : ∃ j : Nat, c % (n : Int) = j := ⟨(c % (n : Int)).toNat, by have := Int.emod_nonneg c (b := (n : Int)) (by omega); omega⟩
  have hjl : j < n := by have := Int.emod_lt_of_pos c (b := (n : Int)) (by omega); omega
  rw [hj]
  refine ⟨ss[j], atI_nat ?_, ?_⟩
  · rw [List.getElem?_map, List.getElem?_eq_getElem (by omega)]
    rfl
  · exact of_decide_eq_true (List.all_eq_true.mp hb _ (List.getElem_mem _))
theorem ok__law_odd {f : Addr} {fd : FuncData} (F : Fun K "_law_odd" "_law_odd" s__law_odd f fd) : FnOk P w K mg base CX0 1 f fd ["cell"] sp__law_odd := by
  refine F.ok sc__law_odd (fun vs H Q E h => ?_) (fun cdv A outer s H vs Q E hr h => ?_)
  · obtain ⟨c, rfl, _⟩ := h
    rfl
  · obtain ⟨c, rfl, k⟩ := h
    rw [body_odd]
    refine ⟨_, (pss_one (ps_ret (pe_ix (ix_listK K) pe_odd (pe_op op_mod (pv 0) pe_int) (fun _ _ => rfl)))), ?_⟩
    refine ⟨by show 10 ≤ sizeLine; decide, fun l hl => ?_⟩
    obtain ⟨y, hy, hyl⟩ : ∃ y : Str, atI [V.str "", V.str "|", V.str "0|", V.str "|0", V.str "0", V.str "0|0|0", V.str "0 |0", V.str "0|0 ", V.str "0,|0", V.str "1|1,"] (c % 10) = some (.str y) ∧ y.length ≤ 5 := pick_str ["", "|", "0|", "|0", "0", "0|0|0", "0 |0", "0|0 ", "0,|0", "1|1,"] (n := 10) (B := 5) rfl rfl (by decide) (by decide +kernel) c
    exact ⟨_, rfl, _, _, rfl, rfl, pz rfl, l, _, _, .str y, rfl, rfl, SqL.of upd_same, hy, k y _ hyl (same_upd hl)⟩
def sp__law_lined : Sp := fun vs H Q _ => ∃ (b : Bd) (c o : Int), vs = [.str (boardT b), .int c, .int o] ∧ WrB b ∧ b.1 ≠ [] ∧ b.2 ≠ [] ∧ ∀ z H', z.length ≤ 1500 → Same H H' → Q (.str z) H'
theorem sc__law_lined : FnScope ["text", "cell", "other", "parts", "lines", "odd"] ["text", "cell", "other"] (defScope s__law_lined) := ⟨rfl, rfl, rfl, by decide +kernel, rfl, by decide +kernel, by decide +kernel⟩
theorem ok__law_lined {f : Addr} {fd : FuncData} (F : Fun K "_law_lined" "_law_lined" s__law_lined f fd) (B : Bt mg) : FnOk P w K mg base CX0 1 f fd ["text", "cell", "other"] sp__law_lined := by
  refine F.ok sc__law_lined (fun vs H Q E h => ?_) (fun cdv A outer s H vs Q E hr h => ?_)
  · obtain ⟨b, c, o, rfl, _⟩ := h
    rfl
  · obtain ⟨b, c, o, rfl, ⟨w1, n1, w2, n2⟩, ne1, ne2, k⟩ := h
    rw [body_lined]
    refine ⟨_, (pss_cons (ps_set (i := 3) sc__law_lined.nd rfl (Or.inl rfl) (pe_bm PySem.F.plainAttrs_str PySem.F.slot_str_split PySem.F.type_str_split mt_split (pv 0) (pa_cons pe_str pa_nil)))
      (pss_cons (ps_set (i := 4) sc__law_lined.nd rfl (Or.inl rfl) (pe_bm PySem.F.plainAttrs_str PySem.F.slot_str_split PySem.F.type_str_split mt_split (pe_ix (ix_listK K) (pv 3) (pe_op op_mod (pv 1) pe_int) (fun _ _ => rfl)) (pa_cons pe_str pa_nil)))
      (pss_cons (ps_set (i := 5) sc__law_lined.nd rfl (Or.inl rfl) pe_lined (hs := by unfold linedE; rfl))
      (pss_cons (ps_asg (pe_ix (ix_listK K) (pv 5) (pe_op op_mod (pv 2) pe_int) (fun _ _ => rfl)) (pg_sub (pv 4) (pe_op op_mod (pe_op op_fdiv (pv 1) pe_int) (pe_callB (call_lenK K) rfl B.len bt_len (pa_cons (pv 4) pa_nil))) set_list))
      (pss_cons (ps_asg (pe_bm PySem.F.plainAttrs_str PySem.F.slot_str_join PySem.F.type_str_join mt_join pe_str (pa_cons (pv 4) pa_nil)) (pg_sub (pv 3) (pe_op op_mod (pv 1) pe_int) set_list))
      (pss_one (ps_ret (pe_op op_add_str (pe_op op_add_str (pe_ix (ix_listK K) (pv 3) pe_int (fun _ _ => rfl)) pe_str) (pe_ix (ix_listK K) (pv 3) pe_int (fun _ _ => rfl)))))))))), ?_⟩
    have hbig : 2000 ≤ sizeLine := by decide
    have l1 := linesT_len (fun xs hx => w1 xs hx) n1
    have l2 := linesT_len (fun xs hx => w2 xs hx) n2
    have hlen : (boardT b).length ≤ 2000 := by
      unfold boardT
      rw [len_app, len_app]
      show (linesT b.1).length + 1 + (linesT b.2).length ≤ 2000
      omega
    have hsp := boardT_split (b := b) (fun xs h => (w1 xs h).1) (fun xs h => (w2 xs h).1)
    obtain ⟨i, hi, hi2⟩ : ∃ i : Nat, c % 2 = i ∧ i < 2 := ⟨(c % 2).toNat, by omega, by omega⟩
    obtain ⟨xss, hx1, hx2, hx3, hx4⟩ : ∃ xss : List (List Int), [linesT b.1, linesT b.2][i]? = some (linesT xss) ∧ (∀ xs ∈ xss, Wr xs) ∧ xss.length ≤ 13 ∧ xss ≠ [] := by
      match i, hi2 with
      | 0, _ => exact ⟨b.1, rfl, w1, n1, ne1⟩
      | 1, _ => exact ⟨b.2, rfl, w2, n2, ne2⟩
    have hsl := linesT_split (fun xs h => (hx2 xs h).1) hx4
    have lx := linesT_len (fun xs hx => hx2 xs hx) hx3
    have hx1' : ([linesT b.1, linesT b.2].map V.str)[i]? = some (.str (linesT xss)) := by rw [List.getElem?_map, hx1]; rfl
    refine ⟨_, rfl, rfl, boardT b, sg 124, rfl, rfl, rfl, hlen, fun lp hlp => ?_⟩
    rw [hsp]
    have s1 : Same H (upd H lp (.lst ([linesT b.1, linesT b.2].map V.str))) := same_upd hlp
    have hp1 : (upd H lp (.lst ([linesT b.1, linesT b.2].map V.str))) lp = some (.lst ([linesT b.1, linesT b.2].map V.str)) := upd_same
    generalize upd H lp (.lst ([linesT b.1, linesT b.2].map V.str)) = H1 at s1 hp1 ⊢
    refine ⟨_, rfl, _, rfl, _, _, rfl, rfl, pz rfl, lp, _, _, .str (linesT xss), rfl, rfl, SqL.of hp1, (by rw [hi]; exact atI_nat hx1'), rfl, linesT xss, sg 44, rfl, rfl, rfl, by omega, fun ll hll => ?_⟩
    rw [hsl]
    have fl : H ll = none := s1.free hll
    have npl : lp ≠ ll := ne_of_none hp1 hll
    have s2 : Same H1 (upd H1 ll (.lst ((xss.map lineT).map V.str))) := same_upd hll
    have hl2 : (upd H1 ll (.lst ((xss.map lineT).map V.str))) ll = some (.lst ((xss.map lineT).map V.str)) := upd_same
    have hp2 := s2 _ _ hp1
    generalize upd H1 ll (.lst ((xss.map lineT).map V.str)) = H2 at s2 hl2 hp2 ⊢
    refine ⟨by show 16 ≤ sizeLine; decide, fun lo hlo => ?_⟩
    have s3 : Same H2 (upd H2 lo (.lst [V.str "", V.str "0", V.str "00", V.str "01", V.str "1 0", V.str "0 1", V.str " 1", V.str "1 ", V.str "1  1", V.str "+1", V.str "1_0", V.str "-1", V.str "999", V.str "1000", V.str "1.", V.str "a"])) := same_upd hlo
    have ho3 : (upd H2 lo (.lst [V.str "", V.str "0", V.str "00", V.str "01", V.str "1 0", V.str "0 1", V.str " 1", V.str "1 ", V.str "1  1", V.str "+1", V.str "1_0", V.str "-1", V.str "999", V.str "1000", V.str "1.", V.str "a"])) lo = some (.lst [V.str "", V.str "0", V.str "00", V.str "01", V.str "1 0", V.str "0 1", V.str " 1", V.str "1 ", V.str "1  1", V.str "+1", V.str "1_0", V.str "-1", V.str "999", V.str "1000", V.str "1.", V.str "a"]) := upd_same
    have hl3 := s3 _ _ hl2
    have hp3 := s3 _ _ hp2
    generalize upd H2 lo (.lst [V.str "", V.str "0", V.str "00", V.str "01", V.str "1 0", V.str "0 1", V.str " 1", V.str "1 ", V.str "1  1", V.str "+1", V.str "1_0", V.str "-1", V.str "999", V.str "1000", V.str "1.", V.str "a"]) = H3 at s3 ho3 hl3 hp3 ⊢
    obtain ⟨y, hy, hyl⟩ : ∃ y : Str, atI [V.str "", V.str "0", V.str "00", V.str "01", V.str "1 0", V.str "0 1", V.str " 1", V.str "1 ", V.str "1  1", V.str "+1", V.str "1_0", V.str "-1", V.str "999", V.str "1000", V.str "1.", V.str "a"] (o % 16) = some (.str y) ∧ y.length ≤ 4 := pick_str ["", "0", "00", "01", "1 0", "0 1", " 1", "1 ", "1  1", "+1", "1_0", "-1", "999", "1000", "1.", "a"] (n := 16) (B := 4) rfl rfl (by decide) (by decide +kernel) o
    have hml : ((xss.map lineT).map V.str).length = xss.length := by rw [List.length_map, List.length_map]
    have hxp : 0 < xss.length := List.length_pos_iff.mpr hx4
    obtain ⟨j, hj⟩ : ∃ j : Nat, c / 2 % ((xss.length : Nat) : Int) = j := ⟨(c / 2 % ((xss.length : Nat) : Int)).toNat, by have := Int.emod_nonneg (c / 2) (b := ((xss.length : Nat) : Int)) (by omega); omega⟩
    have hjl : j < xss.length := by have := Int.emod_lt_of_pos (c / 2) (b := ((xss.length : Nat) : Int)) (by omega); omega
    refine ⟨_, rfl, _, rfl, _, _, rfl, rfl, pz rfl, lo, _, _, .str y, rfl, rfl, SqL.of ho3, hy, _, rfl, _, rfl, _, _, rfl, rfl, ⟨by decide, by decide⟩, _, rfl, ll, _, rfl, .inl (SqL.of hl3), _, _, rfl, rfl, by omega, ll, _, _, j, rfl, rfl, hl3, ?_, ?_⟩
    · rw [hml, hj]
      exact ixN_nat hjl
    have hset : ((xss.map lineT).map V.str).set j (V.str y) = ((xss.map lineT).set j y).map V.str := by rw [List.map_set]
    rw [hset]
    have hl4 : (upd H3 ll (.lst (((xss.map lineT).set j y).map V.str))) ll = some (.lst (((xss.map lineT).set j y).map V.str)) := upd_same
    have hp4 : (upd H3 ll (.lst (((xss.map lineT).set j y).map V.str))) lp = some (.lst ([linesT b.1, linesT b.2].map V.str)) := by rw [upd_ne npl]; exact hp3
    have s4 : Same H (upd H3 ll (.lst (((xss.map lineT).set j y).map V.str))) := same_upd' (s1.trans (s2.trans s3)) fl
    have hB : ∀ t ∈ (xss.map lineT).set j y, t.length ≤ 56 := fun t ht => by
      rcases List.mem_or_eq_of_mem_set ht with q | q
      · obtain ⟨xs, hxs, rfl⟩ := List.mem_map.mp q
        exact lineT_len (hx2 xs hxs).1 (hx2 xs hxs).2
      · rw [q]; omega
    have hN : ((xss.map lineT).set j y).length ≤ 13 := by rw [List.length_set, List.length_map]; exact hx3
    generalize (xss.map lineT).set j y = ts at hl4 hp4 s4 hB hN ⊢
    generalize upd H3 ll (.lst (ts.map V.str)) = H4 at hl4 hp4 s4 ⊢
    have hjoin := join_len (c := 44) hB hN
    refine ⟨rfl, _, rfl, sg 44, ll, ts, rfl, rfl, SqL.of hl4, joinOk_of (B := 56) hB (by decide) (by omega), _, rfl, _, rfl, _, _, rfl, rfl, pz rfl, lp, _, _, i, rfl, rfl, hp4, (by rw [hi]; exact ixN_nat hi2), ?_⟩
    have hset2 : ([linesT b.1, linesT b.2].map V.str).set i (V.str (Str.join (sg 44) ts)) = ([linesT b.1, linesT b.2].set i (Str.join (sg 44) ts)).map V.str := by rw [List.map_set]
    rw [hset2]
    obtain ⟨u, v, huv, hul, hvl⟩ : ∃ u v : Str, [linesT b.1, linesT b.2].set i (Str.join (sg 44) ts) = [u, v] ∧ u.length ≤ 741 ∧ v.length ≤ 741 := by
      match i, hi2 with
      | 0, _ => exact ⟨_, _, rfl, hjoin, l2⟩
      | 1, _ => exact ⟨_, _, rfl, l1, hjoin⟩
    rw [huv]
    have s5 : Same H (upd H4 lp (.lst ([u, v].map V.str))) := same_upd' s4 hlp
    have hp5 : (upd H4 lp (.lst ([u, v].map V.str))) lp = some (.lst [.str u, .str v]) := upd_same
    generalize upd H4 lp (.lst ([u, v].map V.str)) = H5 at s5 hp5 ⊢
    refine ⟨_, rfl, lp, _, _, .str u, rfl, rfl, SqL.of hp5, rfl, _, _, rfl, rfl, (by show u.length + 1 ≤ sizeLine; omega), _, rfl, lp, _, _, .str v, rfl, rfl, SqL.of hp5, rfl, _, _, rfl, rfl, (by rw [len_app]; show u.length + 1 + v.length ≤ sizeLine; omega), k _ H5 ?_ s5⟩
    rw [len_app, len_app]
    show u.length + 1 + v.length ≤ 1500
    omega
end

section
variable {P : Program} {w : World} {K : PySem.W.Frag} {mg : Str → Option Value} {base : Heap}
def sp_law (K : PySem.W.Frag) : Sp := fun vs H Q _ => ∃ (a : Addr) (ns : List Int), vs = [.ref a] ∧ SqL K H a (ns.map V.int) ∧ ns.length ≤ 63 ∧ ∀ H', Q (.bl true) H'
theorem sc_law : FnScope ["script", "cell", "text", "way", "at", "put", "due", "told"] ["script"] (defScope s_law) := ⟨rfl, rfl, rfl, by decide +kernel, rfl, by decide +kernel, by decide +kernel⟩
theorem board_wr {xss : List (List Int)} {wd : Nat} (h1 : 1 ≤ xss.length ∧ xss.length ≤ 13) (hw : 1 ≤ wd ∧ wd ≤ 8) (hl : ∀ xs ∈ xss, xs.length = wd) : WrB (boardZ xss wd) ∧ (boardZ xss wd).1 ≠ [] ∧ (boardZ xss wd).2 ≠ [] := by
  have e1 : (boardZ xss wd).1.length = xss.length := by unfold boardZ; rw [List.length_map]
  have e2 : (boardZ xss wd).2.length = wd := by unfold boardZ; rw [List.length_map, List.length_range]
  refine ⟨⟨fun rs hr => ?_, by omega, fun rs hr => ?_, by omega⟩, fun z => by rw [z] at e1; simp at e1; omega, fun z => by rw [z] at e2; simp at e2; omega⟩
  · unfold boardZ at hr
    obtain ⟨xs, hx, rfl⟩ := List.mem_map.mp hr
    exact runs_small (n := 13) (by rw [hl xs hx]; omega) (by omega)
  · unfold boardZ at hr
    obtain ⟨j, _, rfl⟩ := List.mem_map.mp hr
    exact runs_small (n := 13) (by unfold colZ; rw [List.length_map]; omega) (by omega)
theorem look0_len {b : Bd} {z : Str} (hb : boardO z = some b) (h : lookB b = 0) : b.1.length ≤ 12 ∧ b.2.length ≤ 12 ∧ (∀ ys ∈ b.1, ys.length ≤ 200) ∧ ∀ ys ∈ b.2, ys.length ≤ 200 := by
  have hin : inB b = true := by
    cases q : inB b with
    | true => rfl
    | false => unfold lookB at h; rw [if_pos q] at h; cases h
  have hbad : badB b = false := by
    cases q : badB b with
    | false => rfl
    | true => unfold lookB at h; rw [hin, q] at h; cases h
  have hwide : wideB b = false := by
    cases q : wideB b with
    | false => rfl
    | true => unfold lookB at h; rw [hin, hbad, q] at h; cases h
  unfold inB at hin
  rw [Bool.and_eq_true, Bool.and_eq_true, Bool.and_eq_true, decide_eq_true_eq, decide_eq_true_eq, decide_eq_true_eq, decide_eq_true_eq] at hin
  obtain ⟨p, q, hs, h1, h2⟩ := board_some hb
  have key : ∀ (xs : List Int), (∀ x ∈ xs, 1 ≤ x) → (xs.length : Int) ≤ xs.sum := by
    intro xs
    induction xs with
    | nil => intro _; simp
    | cons x r ih =>
      intro hx
      have := ih fun y hy => hx y (List.mem_cons_of_mem _ hy)
      have := hx x (List.mem_cons_self ..)
      rw [List.length_cons, List.sum_cons]
      omega
  unfold wideB at hwide
  rw [Bool.or_eq_false_iff, List.any_eq_false, List.any_eq_false] at hwide
  refine ⟨hin.1.2, hin.2.2, fun ys hy => ?_, fun ys hy => ?_⟩
  · have := hwide.1 ys hy
    unfold lineWide at this
    rw [decide_eq_true_eq] at this
    have := key ys (lines_pos h1 ys hy)
    omega
  · have := hwide.2 ys hy
    unfold lineWide at this
    rw [decide_eq_true_eq] at this
    have := key ys (lines_pos h2 ys hy)
    omega
theorem ok_law {f : Addr} {fd : FuncData} (F : Fun K "law" "law" s_law f fd) (B : Bt mg) (c__law_cell_at : Callee P w K mg base CX0 "_law_cell_at" 1 ["script", "k"] (sp__law_cell_at K)) (c__law_picture : Callee P w K mg base CX0 "_law_picture" 2 ["cell", "rows", "columns"] sp__law_picture) (c__law_board : Callee P w K mg base CX0 "_law_board" 3 ["picture"] sp_board)
    (c__law_text : Callee P w K mg base CX0 "_law_text" 1 ["board"] sp__law_text) (c__law_lined : Callee P w K mg base CX0 "_law_lined" 1 ["text", "cell", "other"] sp__law_lined) (c__law_odd : Callee P w K mg base CX0 "_law_odd" 1 ["cell"] sp__law_odd) (c__law_due : Callee P w K mg base CX0 "_law_due" 2 ["text"] sp__law_due) (c__law_told : Callee P w K mg base CX0 "_law_told" 5 ["text"] sp__law_told)
    (c__law_refused : Callee P w K mg base CX0 "_law_refused" 1 ["marks", "which"] sp__law_refused) (c__law_lines : Callee P w K mg base CX0 "_law_lines" 2 ["found", "due"] sp__law_lines) : FnOk P w K mg base CX0 6 f fd ["script"] (sp_law K) := by
  refine F.ok sc_law (fun vs H Q E h => ?_) (fun cdv A outer s H vs Q E hr h => ?_)
  · obtain ⟨a, ns, rfl, _⟩ := h
    rfl
  · obtain ⟨a, ns, rfl, hS, hl, k⟩ := h
    have hu := units20 hr
    refine ⟨_, (pss_cons (ps_set (i := 1) sc_law.nd rfl (Or.inl rfl) (pe_cal c__law_cell_at hr (pa_cons (pv 0) (pa_cons pe_int pa_nil))))
      (pss_cons (ps_set (i := 2) sc_law.nd rfl (Or.inl rfl) (pe_cal c__law_text hr (pa_cons (pe_cal c__law_board hr (pa_cons (pe_cal c__law_picture hr (pa_cons (pe_cal c__law_cell_at hr (pa_cons (pv 0) (pa_cons pe_int pa_nil))) (pa_cons (pe_op op_add pe_int (pe_op op_mod (pv 1) pe_int)) (pa_cons (pe_op op_add pe_int (pe_op op_mod (pe_op op_fdiv (pv 1) pe_int) pe_int)) pa_nil)))) pa_nil)) pa_nil)))
      (pss_cons (ps_set (i := 3) sc_law.nd rfl (Or.inl rfl) (pe_op op_mod (pe_cal c__law_cell_at hr (pa_cons (pv 0) (pa_cons pe_int pa_nil))) pe_int))
      (pss_cons (ps_set (i := 4) sc_law.nd rfl (Or.inl rfl) (pe_op op_mod (pe_cal c__law_cell_at hr (pa_cons (pv 0) (pa_cons pe_int pa_nil))) (pe_op op_add (pe_callB call_len_str rfl B.len bt_len (pa_cons (pv 2) pa_nil)) pe_int)))
      (pss_cons (ps_set (i := 5) sc_law.nd rfl (Or.inl rfl) (pe_ix ix_str pe_str (pe_op op_mod (pe_cal c__law_cell_at hr (pa_cons (pv 0) (pa_cons pe_int pa_nil))) pe_int) (fun _ _ => rfl)))
      (pss_join (ps_if (PW.pt (pw_or (pt_cmpR op_eq (pv 3) pe_int (nomark _)) (pw_or1 (pt_cmpR op_eq (pv 3) pe_int (nomark _)))))
      (pss_one (ps_set (i := 2) sc_law.nd rfl (Or.inl rfl) (pe_op op_add_str (pe_op op_add_str (pe_slice sl_str (pv 2) po_none (po_some (pv 4))) (pv 5)) (pe_slice sl_str (pv 2) (po_some (pv 4)) po_none))))
      pss_nil)
      (pss_join (ps_if (pt_cmpR op_eq (pv 3) pe_int (nomark _))
      (pss_one (ps_set (i := 2) sc_law.nd rfl (Or.inl rfl) (pe_op op_add_str (pe_op op_add_str (pe_slice sl_str (pv 2) po_none (po_some (pv 4))) (pv 5)) (pe_slice sl_str (pv 2) (po_some (pe_op op_add (pv 4) pe_int)) po_none))))
      pss_nil)
      (pss_join (ps_if (pt_cmpR op_eq (pv 3) pe_int (nomark _))
      (pss_one (ps_set (i := 2) sc_law.nd rfl (Or.inl rfl) (pe_op op_add_str (pe_slice sl_str (pv 2) po_none (po_some (pv 4))) (pe_slice sl_str (pv 2) (po_some (pe_op op_add (pv 4) pe_int)) po_none))))
      pss_nil)
      (pss_join (ps_if (PW.pt (pw_or (pt_cmpR op_eq (pv 3) pe_int (nomark _)) (pw_or1 (pt_cmpR op_eq (pv 3) pe_int (nomark _)))))
      (pss_one (ps_set (i := 2) sc_law.nd rfl (Or.inl rfl) (pe_cal c__law_lined hr (pa_cons (pv 2) (pa_cons (pe_cal c__law_cell_at hr (pa_cons (pv 0) (pa_cons pe_int pa_nil))) (pa_cons (pe_cal c__law_cell_at hr (pa_cons (pv 0) (pa_cons pe_int pa_nil))) pa_nil))))))
      pss_nil)
      (pss_join (ps_if (pt_cmpR op_eq (pv 3) pe_int (nomark _))
      (pss_one (ps_set (i := 2) sc_law.nd rfl (Or.inl rfl) (pe_cal c__law_odd hr (pa_cons (pe_cal c__law_cell_at hr (pa_cons (pv 0) (pa_cons pe_int pa_nil))) pa_nil))))
      pss_nil)
      (pss_cons (ps_set (i := 6) sc_law.nd rfl (Or.inl rfl) (pe_cal c__law_due hr (pa_cons (pv 2) pa_nil)))
      (pss_cons (ps_set (i := 7) sc_law.nd rfl (Or.inl rfl) (pe_cal c__law_told hr (pa_cons (pv 2) pa_nil)))
      (pss_cons (ps_if (pt_not (pt_val (pe_callB (call_isinstK K) rfl B.isinstance bt_isinstance (pa_cons (pv 6) (pa_cons (pe_bltn (v := .ty "tuple") rfl B.tuple bt_tuple rfl) pa_nil)))))
      (pss_one (ps_ret (pe_cal c__law_refused hr (pa_cons (pe_ix (ix_tupK K) (pv 7) pe_int (fun _ _ => rfl)) (pa_cons (pv 6) pa_nil)))))
      pss_nil)
      (pss_cons (ps_if (PW.pt (pw_or (pt_cmpR (op_neD hu) (pe_ix (ix_tupK K) (pv 7) pe_int (fun _ _ => rfl)) (pe_lst pa_nil) (nomark _)) (pw_or (pt_not (pt_val (pe_callB (call_isinstK K) rfl B.isinstance bt_isinstance (pa_cons (pe_ix (ix_tupK K) (pv 7) pe_int (fun _ _ => rfl)) (pa_cons (pe_bltn (v := .ty "tuple") rfl B.tuple bt_tuple rfl) pa_nil))))) (pw_or1 (pt_cmpR op_ne (pe_callB (call_lenK K) rfl B.len bt_len (pa_cons (pe_ix (ix_tupK K) (pv 7) pe_int (fun _ _ => rfl)) pa_nil)) pe_int (nomark _))))))
      (pss_one (ps_ret pe_bl))
      pss_nil)
      (pss_one (ps_ret (pe_and (pe_cal c__law_lines hr (pa_cons (pe_ix (ix_tupK K) (pe_ix (ix_tupK K) (pv 7) pe_int (fun _ _ => rfl)) pe_int (fun _ _ => rfl)) (pa_cons (pe_ix (ix_tupK K) (pv 6) pe_int (fun _ _ => rfl)) pa_nil))) (pe_one (pe_cal c__law_lines hr (pa_cons (pe_ix (ix_tupK K) (pe_ix (ix_tupK K) (pv 7) pe_int (fun _ _ => rfl)) pe_int (fun _ _ => rfl)) (pa_cons (pe_ix (ix_tupK K) (pv 6) pe_int (fun _ _ => rfl)) pa_nil))))))))))))))))))))), ?_⟩
    refine ⟨_, rfl, a, ns, 0, rfl, hS, ?_⟩
    generalize hc0 : cellZ ns 0 = c0
    obtain ⟨r, hr0⟩ : ∃ r : Nat, 1 + c0 % 13 = r := ⟨(1 + c0 % 13).toNat, by omega⟩
    obtain ⟨wd, hw0⟩ : ∃ wd : Nat, 1 + c0 / 13 % 8 = wd := ⟨(1 + c0 / 13 % 8).toNat, by omega⟩
    have hr13 : 1 ≤ r ∧ r ≤ 13 := by omega
    have hw8 : 1 ≤ wd ∧ wd ≤ 8 := by omega
    refine ⟨_, rfl, a, ns, 1, rfl, hS, _, rfl, _, _, rfl, rfl, pz rfl, _, _, rfl, rfl, _, rfl, _, _, rfl, rfl, ⟨by decide, by decide⟩, _, _, rfl, rfl, pz rfl, _, _, rfl, rfl, cellZ ns 1, r, wd, (show [V.int (cellZ ns 1), V.int (1 + c0 % 13), V.int (1 + c0 / 13 % 8)] = [V.int (cellZ ns 1), V.int (r : Nat), V.int (wd : Nat)] by rw [hr0, hw0]), by omega, by omega, fun pa H1 s1 npa hpa => ?_⟩
    generalize hpic : picZ (cellZ ns 1) r wd = pic at hpa ⊢
    have hpl : pic.length = r := by rw [← hpic]; exact picZ_len _ _ _
    have hpw : ∀ xs ∈ pic, xs.length = wd := by rw [← hpic]; exact fun xs hx => picZ_row hx
    refine ⟨pa, pic, wd, rfl, hpa, by omega, by omega, by omega, hpw, fun d H2 s2 hd => ?_⟩
    obtain ⟨hwb, hb1, hb2⟩ := board_wr (xss := pic) (wd := wd) (by omega) hw8 hpw
    generalize boardZ pic wd = b at hd hwb hb1 hb2
    refine ⟨d, b, rfl, hd, hwb, fun H3 s3 => ?_⟩
    have s03 := s1.trans (s2.trans s3)
    have hbig : 8000 ≤ sizeLine := by decide
    have hlen : (boardT b).length ≤ 1490 := by
      obtain ⟨h1, n1, h2, n2⟩ := hwb
      have l1 := linesT_len (fun xs hx => h1 xs hx) n1
      have l2 := linesT_len (fun xs hx => h2 xs hx) n2
      unfold boardT
      rw [len_app, len_app]
      show (linesT b.1).length + 1 + (linesT b.2).length ≤ 1490
      omega
    have hS3 := s03.seq hS
    refine ⟨_, rfl, a, ns, 2, rfl, hS3, _, _, rfl, rfl, pz rfl, ?_⟩
    show gName 3 (V.int (cellZ ns 2 % 10)) _ _ _
    have wy0 : 0 ≤ cellZ ns 2 % 10 := by omega
    generalize cellZ ns 2 % 10 = wy at wy0 ⊢
    refine ⟨_, rfl, a, ns, 3, rfl, hS3, _, rfl, _, rfl, by omega, _, _, rfl, rfl, _, _, rfl, rfl, by omega, ?_⟩
    show gName 4 (V.int (cellZ ns 3 % (((boardT b).length : Nat) + 1))) _ _ _
    have at0 : 0 ≤ cellZ ns 3 % (((boardT b).length : Nat) + 1) := Int.emod_nonneg _ (by omega)
    generalize cellZ ns 3 % (((boardT b).length : Nat) + 1) = at' at at0 ⊢
    obtain ⟨c, hc⟩ : ∃ c, atI (Str.ofString " ,|0129-+_.a;1").cps.toList (cellZ ns 4 % 14) = some c := by
      obtain ⟨j, hj⟩ : ∃ j : Nat, cellZ ns 4 % 14 = j := ⟨(cellZ ns 4 % 14).toNat, by omega⟩
      have hjl : j < (Str.ofString " ,|0129-+_.a;1").cps.toList.length := by
        have : (Str.ofString " ,|0129-+_.a;1").cps.toList.length = 14 := by decide +kernel
        omega
      rw [hj]
      exact ⟨_, atI_nat (List.getElem?_eq_getElem hjl)⟩
    refine ⟨_, rfl, a, ns, 4, rfl, hS3, _, _, rfl, rfl, pz rfl, _, _, c, rfl, rfl, (by show (Str.ofString " ,|0129-+_.a;1").length ≤ sizeLine; exact Nat.le_trans (by decide +kernel : (Str.ofString " ,|0129-+_.a;1").length ≤ 8000) hbig), hc, ?_⟩
    have hput : (⟨#[c]⟩ : Str).length = 1 := rfl
    generalize (⟨#[c]⟩ : Str) = put at hput ⊢
    -- what the ifs leave
    refine joinL (fun σ' H' => ∃ z : Str, σ' = [some (V.ref a), some (.int c0), some (.str z), some (.int wy), some (.int at'), some (.str put), none, none] ∧ Same H H' ∧ z.length ≤ 1500 ∧ (2 ≤ wy → z = boardT b)) (fun J mJ => ?_) ?_
    · obtain ⟨z, hz⟩ : ∃ z, z = boardT b := ⟨_, rfl⟩
      rw [← hz] at hlen ⊢
      refine ⟨_, rfl, rfl, _, rfl, ?_⟩
      by_cases w0 : wy = 0
      · rw [show decide (V.int wy = V.int 0) = true from dec_int1.mpr w0]
        refine iteT (iteT ⟨_, rfl, _, rfl, _, rfl, z, rfl, by omega, fun y1 l1 l2 _ => ⟨_, rfl, _, _, rfl, rfl, by omega, _, rfl, _, rfl, _, rfl, z, rfl, by omega, fun y2 m1 _ m3 => ⟨_, _, rfl, rfl, by rw [len_app]; omega, ?_⟩⟩⟩)
        have g2 := l2 _ rfl at0
        have g3 := m3 _ rfl at0
        exact mJ _ _ ⟨_, rfl, s03, by rw [len_app, len_app]; omega, fun q => by omega⟩
      rw [show decide (V.int wy = V.int 0) = false from decide_eq_false fun z => w0 (V.int.inj z)]
      refine iteF ⟨_, rfl, rfl, _, rfl, ?_⟩
      by_cases w1 : wy = 1
      · rw [show decide (V.int wy = V.int 1) = true from dec_int1.mpr w1]
        refine iteT ⟨_, rfl, _, rfl, _, rfl, z, rfl, by omega, fun y1 l1 l2 _ => ⟨_, rfl, _, _, rfl, rfl, by omega, _, rfl, _, rfl, _, rfl, z, rfl, by omega, fun y2 m1 _ m3 => ⟨_, _, rfl, rfl, by rw [len_app]; omega, ?_⟩⟩⟩
        have g2 := l2 _ rfl at0
        have g3 := m3 _ rfl at0
        exact mJ _ _ ⟨_, rfl, s03, by rw [len_app, len_app]; omega, fun q => by omega⟩
      rw [show decide (V.int wy = V.int 1) = false from decide_eq_false fun z => w1 (V.int.inj z)]
      exact iteF (mJ _ _ ⟨z, rfl, s03, by omega, fun _ => hz⟩)
    rintro σ1 H4 ⟨z, rfl, s4, hz, hz2⟩
    refine joinL (fun σ' H' => ∃ z : Str, σ' = [some (V.ref a), some (.int c0), some (.str z), some (.int wy), some (.int at'), some (.str put), none, none] ∧ Same H H' ∧ z.length ≤ 1500 ∧ (3 ≤ wy → z = boardT b)) (fun J mJ => ?_) ?_
    · refine ⟨_, rfl, rfl, _, rfl, ?_⟩
      by_cases w2 : wy = 2
      · rw [show decide (V.int wy = V.int 2) = true from dec_int1.mpr w2]
        have hzb := hz2 (by omega)
        have hz' : z.length ≤ 1490 := by rw [hzb]; exact hlen
        refine iteT ⟨_, rfl, _, rfl, _, rfl, z, rfl, by omega, fun y1 l1 l2 _ => ⟨_, rfl, _, _, rfl, rfl, by omega, _, rfl, _, rfl, _, _, rfl, rfl, _, rfl, z, rfl, by omega, fun y2 m1 _ m3 => ⟨_, _, rfl, rfl, by rw [len_app]; omega, ?_⟩⟩⟩
        have g2 := l2 _ rfl at0
        have g3 := m3 _ rfl (by omega)
        exact mJ _ _ ⟨_, rfl, s4, by rw [len_app, len_app]; omega, fun q => by omega⟩
      rw [show decide (V.int wy = V.int 2) = false from decide_eq_false fun z => w2 (V.int.inj z)]
      exact iteF (mJ _ _ ⟨z, rfl, s4, hz, fun q => hz2 (by omega)⟩)
    clear hz hz2 s4
    rintro σ1 H5 ⟨z, rfl, s5, hz, hz3⟩
    refine joinL (fun σ' H' => ∃ z : Str, σ' = [some (V.ref a), some (.int c0), some (.str z), some (.int wy), some (.int at'), some (.str put), none, none] ∧ Same H H' ∧ z.length ≤ 1500 ∧ (4 ≤ wy → z = boardT b)) (fun J mJ => ?_) ?_
    · refine ⟨_, rfl, rfl, _, rfl, ?_⟩
      by_cases w3 : wy = 3
      · rw [show decide (V.int wy = V.int 3) = true from dec_int1.mpr w3]
        have hzb := hz3 (by omega)
        have hz' : z.length ≤ 1490 := by rw [hzb]; exact hlen
        refine iteT ⟨_, rfl, _, rfl, _, rfl, z, rfl, by omega, fun y1 l1 l2 _ => ⟨_, rfl, _, rfl, _, _, rfl, rfl, _, rfl, z, rfl, by omega, fun y2 m1 _ m3 => ⟨_, _, rfl, rfl, by omega, ?_⟩⟩⟩
        have g2 := l2 _ rfl at0
        have g3 := m3 _ rfl (by omega)
        exact mJ _ _ ⟨_, rfl, s5, by rw [len_app]; omega, fun q => by omega⟩
      rw [show decide (V.int wy = V.int 3) = false from decide_eq_false fun z => w3 (V.int.inj z)]
      exact iteF (mJ _ _ ⟨z, rfl, s5, hz, fun q => hz3 (by omega)⟩)
    clear hz hz3 s5
    rintro σ1 H6 ⟨z, rfl, s6, hz, hz4⟩
    have hS6 := s6.seq hS
    refine joinL (fun σ' H' => ∃ z : Str, σ' = [some (V.ref a), some (.int c0), some (.str z), some (.int wy), some (.int at'), some (.str put), none, none] ∧ Same H H' ∧ z.length ≤ 1500) (fun J mJ => ?_) ?_
    · refine ⟨_, rfl, rfl, _, rfl, ?_⟩
      by_cases w4 : wy = 4
      · rw [show decide (V.int wy = V.int 4) = true from dec_int1.mpr w4]
        have hzb := hz4 (by omega)
        refine iteT (iteT ⟨_, rfl, _, rfl, a, ns, 3, rfl, hS6, _, rfl, a, ns, 4, rfl, hS6, b, cellZ ns 3, cellZ ns 4, (by rw [hzb]; rfl), hwb, hb1, hb2, fun z' H7 hz' s7 => ?_⟩)
        exact mJ _ _ ⟨z', rfl, s6.trans s7, hz'⟩
      rw [show decide (V.int wy = V.int 4) = false from decide_eq_false fun z => w4 (V.int.inj z)]
      refine iteF ⟨_, rfl, rfl, _, rfl, ?_⟩
      by_cases w5 : wy = 5
      · rw [show decide (V.int wy = V.int 5) = true from dec_int1.mpr w5]
        have hzb := hz4 (by omega)
        refine iteT ⟨_, rfl, _, rfl, a, ns, 3, rfl, hS6, _, rfl, a, ns, 4, rfl, hS6, b, cellZ ns 3, cellZ ns 4, (by rw [hzb]; rfl), hwb, hb1, hb2, fun z' H7 hz' s7 => ?_⟩
        exact mJ _ _ ⟨z', rfl, s6.trans s7, hz'⟩
      rw [show decide (V.int wy = V.int 5) = false from decide_eq_false fun z => w5 (V.int.inj z)]
      exact iteF (mJ _ _ ⟨z, rfl, s6, hz⟩)
    clear hz hz4 hS6 s6
    rintro σ1 H7 ⟨z, rfl, s7, hz⟩
    have hS7 := s7.seq hS
    refine joinL (fun σ' H' => ∃ z : Str, σ' = [some (V.ref a), some (.int c0), some (.str z), some (.int wy), some (.int at'), some (.str put), none, none] ∧ Same H H' ∧ z.length ≤ 1500) (fun J mJ => ?_) ?_
    · refine ⟨_, rfl, rfl, _, rfl, ?_⟩
      by_cases w6 : wy = 6
      · rw [show decide (V.int wy = V.int 6) = true from dec_int1.mpr w6]
        refine iteT ⟨_, rfl, a, ns, 4, rfl, hS7, _, rfl, fun z' H8 hz' s8 => ?_⟩
        exact mJ _ _ ⟨z', rfl, s7.trans s8, by omega⟩
      rw [show decide (V.int wy = V.int 6) = false from decide_eq_false fun z => w6 (V.int.inj z)]
      exact iteF (mJ _ _ ⟨z, rfl, s7, hz⟩)
    clear hz hS7 s7
    rintro σ1 H9 ⟨z, rfl, s9, hz⟩
    refine ⟨_, rfl, z, rfl, by omega, fun hne H10 s10 => ?_, fun b' hb' h0 t H10 s10 ht => ?_⟩
    · refine ⟨_, rfl, z, rfl, by omega, fun b' hb' h0 => absurd ((code_some hb').trans h0) hne, fun _ tt m H11 s11 htt hm => ?_⟩
      refine ⟨_, rfl, _, _, _, false, rfl, fun _ z => z, .int _, rfl, _, rfl, iteT ?_⟩
      exact ⟨_, rfl, tt, _, _, .ref m, rfl, rfl, SqT.of htt, rfl, _, rfl, m, codeT z, rfl, hm, fun H' _ => k H'⟩
    · refine ⟨_, rfl, z, rfl, by omega, fun b2 hb2 h02 tt l m H11 s11 htt hl hm => ?_, fun hne => absurd ((code_some hb').trans h0) hne⟩
      rw [hb'] at hb2
      cases hb2
      obtain ⟨q1, q2, q3, q4⟩ := look0_len hb' h0
      obtain ⟨dr, dc, hdd, hdr, hdc⟩ := board_inv (IsD.mono s11 ht)
      obtain ⟨fr, fc, hff, hfr, hfc⟩ := board_inv hl
      refine ⟨_, rfl, _, _, _, true, rfl, fun _ z => z, .tup hdd, rfl, _, rfl, iteF ?_⟩
      refine ⟨_, rfl, tt, _, _, .ref m, rfl, rfl, SqT.of htt, rfl, Nat.zero_le _, fun e0 he0 => ?_⟩
      have s12 : Same H11 (upd H11 e0 (.lst [])) := same_upd he0
      have he1 : (upd H11 e0 (.lst [])) e0 = some (.lst []) := upd_same
      generalize upd H11 e0 (.lst []) = H12 at s12 he1 ⊢
      refine ⟨.lst [], .lst [], isD_nil (s12 _ _ hm), isD_nil he1, .inl ⟨_, _, rfl, rfl⟩, by decide, _, rfl, ?_⟩
      rw [eqD_refl]
      refine iteF ?_
      have htt2 := s12 _ _ htt
      have hff2 := s12 _ _ hff
      have hdd2 := s12 _ _ hdd
      refine ⟨_, rfl, tt, _, _, .ref l, rfl, rfl, SqT.of htt2, rfl, _, _, _, true, rfl, fun _ z => z, .tup hff2, rfl, _, rfl, iteF ?_⟩
      refine ⟨_, rfl, tt, _, _, .ref l, rfl, rfl, SqT.of htt2, rfl, l, _, rfl, .inr (SqT.of hff2), rfl, _, rfl, iteNS rfl ?_⟩
      refine ⟨_, rfl, tt, _, _, .ref l, rfl, rfl, SqT.of htt2, rfl, l, _, _, .ref fr, rfl, rfl, SqT.of hff2, rfl, _, rfl, t, _, _, .ref dr, rfl, rfl, SqT.of hdd2, rfl, fr, dr, b'.1, rfl, IsD.mono s12 hfr, IsD.mono s12 hdr, by omega, q3, fun H13 s13 => ⟨_, rfl, iteT ?_⟩⟩
      have s23 := s12.trans s13
      exact ⟨_, rfl, tt, _, _, .ref l, rfl, rfl, SqT.of (s13 _ _ htt2), rfl, l, _, _, .ref fc, rfl, rfl, SqT.of (s13 _ _ hff2), rfl, _, rfl, t, _, _, .ref dc, rfl, rfl, SqT.of (s13 _ _ hdd2), rfl, fc, dc, b'.2, rfl, IsD.mono s23 hfc, IsD.mono s23 hdc, by omega, q4, fun H14 s14 => k H14⟩
end

theorem all_mk {l : PySem.W.OpenLaw} {w : World} {K : PySem.W.Frag} {h : Heap} {mg : Str → Option Value} {fa : Addr} (X : K.In h) (G : h.Ns mainGlobals mg) (hfa : mg "law" = some (.ref fa))
    {f_refuse_too_many : Addr} {od_refuse_too_many an_refuse_too_many : Option Addr} {sl_refuse_too_many : Array (Option Value)} {oc_refuse_too_many kV_refuse_too_many dc_refuse_too_many pm_refuse_too_many cd_refuse_too_many ct_refuse_too_many : Value}
    (a_refuse_too_many : PySem.W.nsIn K mainGlobals "refuse_too_many" = some (some (.ref f_refuse_too_many))) (l_refuse_too_many : K.lookup f_refuse_too_many = some ⟨oc_refuse_too_many, od_refuse_too_many, .func (PySem.W.fnOf "refuse_too_many" "refuse_too_many" (defArgs s_refuse_too_many) (defBody s_refuse_too_many) (defScope s_refuse_too_many) .none kV_refuse_too_many dc_refuse_too_many pm_refuse_too_many an_refuse_too_many cd_refuse_too_many ct_refuse_too_many), sl_refuse_too_many⟩) (c_refuse_too_many : PySem.W.codeIn K cd_refuse_too_many "refuse_too_many" = true) (k_refuse_too_many : PySem.W.keepIn K (.ref f_refuse_too_many) = true)
    {f_refuse_bad_runs : Addr} {od_refuse_bad_runs an_refuse_bad_runs : Option Addr} {sl_refuse_bad_runs : Array (Option Value)} {oc_refuse_bad_runs kV_refuse_bad_runs dc_refuse_bad_runs pm_refuse_bad_runs cd_refuse_bad_runs ct_refuse_bad_runs : Value}
    (a_refuse_bad_runs : PySem.W.nsIn K mainGlobals "refuse_bad_runs" = some (some (.ref f_refuse_bad_runs))) (l_refuse_bad_runs : K.lookup f_refuse_bad_runs = some ⟨oc_refuse_bad_runs, od_refuse_bad_runs, .func (PySem.W.fnOf "refuse_bad_runs" "refuse_bad_runs" (defArgs s_refuse_bad_runs) (defBody s_refuse_bad_runs) (defScope s_refuse_bad_runs) .none kV_refuse_bad_runs dc_refuse_bad_runs pm_refuse_bad_runs an_refuse_bad_runs cd_refuse_bad_runs ct_refuse_bad_runs), sl_refuse_bad_runs⟩) (c_refuse_bad_runs : PySem.W.codeIn K cd_refuse_bad_runs "refuse_bad_runs" = true) (k_refuse_bad_runs : PySem.W.keepIn K (.ref f_refuse_bad_runs) = true)
    {f_refuse_wide : Addr} {od_refuse_wide an_refuse_wide : Option Addr} {sl_refuse_wide : Array (Option Value)} {oc_refuse_wide kV_refuse_wide dc_refuse_wide pm_refuse_wide cd_refuse_wide ct_refuse_wide : Value}
    (a_refuse_wide : PySem.W.nsIn K mainGlobals "refuse_wide" = some (some (.ref f_refuse_wide))) (l_refuse_wide : K.lookup f_refuse_wide = some ⟨oc_refuse_wide, od_refuse_wide, .func (PySem.W.fnOf "refuse_wide" "refuse_wide" (defArgs s_refuse_wide) (defBody s_refuse_wide) (defScope s_refuse_wide) .none kV_refuse_wide dc_refuse_wide pm_refuse_wide an_refuse_wide cd_refuse_wide ct_refuse_wide), sl_refuse_wide⟩) (c_refuse_wide : PySem.W.codeIn K cd_refuse_wide "refuse_wide" = true) (k_refuse_wide : PySem.W.keepIn K (.ref f_refuse_wide) = true)
    {f_looked : Addr} {od_looked an_looked : Option Addr} {sl_looked : Array (Option Value)} {oc_looked kV_looked dc_looked pm_looked cd_looked ct_looked : Value}
    (a_looked : PySem.W.nsIn K mainGlobals "looked" = some (some (.ref f_looked))) (l_looked : K.lookup f_looked = some ⟨oc_looked, od_looked, .func (PySem.W.fnOf "looked" "looked" (defArgs s_looked) (defBody s_looked) (defScope s_looked) .none kV_looked dc_looked pm_looked an_looked cd_looked ct_looked), sl_looked⟩) (c_looked : PySem.W.codeIn K cd_looked "looked" = true) (k_looked : PySem.W.keepIn K (.ref f_looked) = true)
    {f_run_read : Addr} {od_run_read an_run_read : Option Addr} {sl_run_read : Array (Option Value)} {oc_run_read kV_run_read dc_run_read pm_run_read cd_run_read ct_run_read : Value}
    (a_run_read : PySem.W.nsIn K mainGlobals "run_read" = some (some (.ref f_run_read))) (l_run_read : K.lookup f_run_read = some ⟨oc_run_read, od_run_read, .func (PySem.W.fnOf "run_read" "run_read" (defArgs s_run_read) (defBody s_run_read) (defScope s_run_read) .none kV_run_read dc_run_read pm_run_read an_run_read cd_run_read ct_run_read), sl_run_read⟩) (c_run_read : PySem.W.codeIn K cd_run_read "run_read" = true) (k_run_read : PySem.W.keepIn K (.ref f_run_read) = true)
    {f_runs_read : Addr} {od_runs_read an_runs_read : Option Addr} {sl_runs_read : Array (Option Value)} {oc_runs_read kV_runs_read dc_runs_read pm_runs_read cd_runs_read ct_runs_read : Value}
    (a_runs_read : PySem.W.nsIn K mainGlobals "runs_read" = some (some (.ref f_runs_read))) (l_runs_read : K.lookup f_runs_read = some ⟨oc_runs_read, od_runs_read, .func (PySem.W.fnOf "runs_read" "runs_read" (defArgs s_runs_read) (defBody s_runs_read) (defScope s_runs_read) .none kV_runs_read dc_runs_read pm_runs_read an_runs_read cd_runs_read ct_runs_read), sl_runs_read⟩) (c_runs_read : PySem.W.codeIn K cd_runs_read "runs_read" = true) (k_runs_read : PySem.W.keepIn K (.ref f_runs_read) = true)
    {f_lines_read : Addr} {od_lines_read an_lines_read : Option Addr} {sl_lines_read : Array (Option Value)} {oc_lines_read kV_lines_read dc_lines_read pm_lines_read cd_lines_read ct_lines_read : Value}
    (a_lines_read : PySem.W.nsIn K mainGlobals "lines_read" = some (some (.ref f_lines_read))) (l_lines_read : K.lookup f_lines_read = some ⟨oc_lines_read, od_lines_read, .func (PySem.W.fnOf "lines_read" "lines_read" (defArgs s_lines_read) (defBody s_lines_read) (defScope s_lines_read) .none kV_lines_read dc_lines_read pm_lines_read an_lines_read cd_lines_read ct_lines_read), sl_lines_read⟩) (c_lines_read : PySem.W.codeIn K cd_lines_read "lines_read" = true) (k_lines_read : PySem.W.keepIn K (.ref f_lines_read) = true)
    {f_read : Addr} {od_read an_read : Option Addr} {sl_read : Array (Option Value)} {oc_read kV_read dc_read pm_read cd_read ct_read : Value}
    (a_read : PySem.W.nsIn K mainGlobals "read" = some (some (.ref f_read))) (l_read : K.lookup f_read = some ⟨oc_read, od_read, .func (PySem.W.fnOf "read" "read" (defArgs s_read) (defBody s_read) (defScope s_read) .none kV_read dc_read pm_read an_read cd_read ct_read), sl_read⟩) (c_read : PySem.W.codeIn K cd_read "read" = true) (k_read : PySem.W.keepIn K (.ref f_read) = true)
    {f__law_cell_at : Addr} {od__law_cell_at an__law_cell_at : Option Addr} {sl__law_cell_at : Array (Option Value)} {oc__law_cell_at kV__law_cell_at dc__law_cell_at pm__law_cell_at cd__law_cell_at ct__law_cell_at : Value}
    (a__law_cell_at : PySem.W.nsIn K mainGlobals "_law_cell_at" = some (some (.ref f__law_cell_at))) (l__law_cell_at : K.lookup f__law_cell_at = some ⟨oc__law_cell_at, od__law_cell_at, .func (PySem.W.fnOf "_law_cell_at" "_law_cell_at" (defArgs s__law_cell_at) (defBody s__law_cell_at) (defScope s__law_cell_at) .none kV__law_cell_at dc__law_cell_at pm__law_cell_at an__law_cell_at cd__law_cell_at ct__law_cell_at), sl__law_cell_at⟩) (c__law_cell_at : PySem.W.codeIn K cd__law_cell_at "_law_cell_at" = true) (k__law_cell_at : PySem.W.keepIn K (.ref f__law_cell_at) = true)
    {f__law_whole : Addr} {od__law_whole an__law_whole : Option Addr} {sl__law_whole : Array (Option Value)} {oc__law_whole kV__law_whole dc__law_whole pm__law_whole cd__law_whole ct__law_whole : Value}
    (a__law_whole : PySem.W.nsIn K mainGlobals "_law_whole" = some (some (.ref f__law_whole))) (l__law_whole : K.lookup f__law_whole = some ⟨oc__law_whole, od__law_whole, .func (PySem.W.fnOf "_law_whole" "_law_whole" (defArgs s__law_whole) (defBody s__law_whole) (defScope s__law_whole) .none kV__law_whole dc__law_whole pm__law_whole an__law_whole cd__law_whole ct__law_whole), sl__law_whole⟩) (c__law_whole : PySem.W.codeIn K cd__law_whole "_law_whole" = true) (k__law_whole : PySem.W.keepIn K (.ref f__law_whole) = true)
    {f__law_mix : Addr} {od__law_mix an__law_mix : Option Addr} {sl__law_mix : Array (Option Value)} {oc__law_mix kV__law_mix dc__law_mix pm__law_mix cd__law_mix ct__law_mix : Value}
    (a__law_mix : PySem.W.nsIn K mainGlobals "_law_mix" = some (some (.ref f__law_mix))) (l__law_mix : K.lookup f__law_mix = some ⟨oc__law_mix, od__law_mix, .func (PySem.W.fnOf "_law_mix" "_law_mix" (defArgs s__law_mix) (defBody s__law_mix) (defScope s__law_mix) .none kV__law_mix dc__law_mix pm__law_mix an__law_mix cd__law_mix ct__law_mix), sl__law_mix⟩) (c__law_mix : PySem.W.codeIn K cd__law_mix "_law_mix" = true) (k__law_mix : PySem.W.keepIn K (.ref f__law_mix) = true)
    {f__law_runs : Addr} {od__law_runs an__law_runs : Option Addr} {sl__law_runs : Array (Option Value)} {oc__law_runs kV__law_runs dc__law_runs pm__law_runs cd__law_runs ct__law_runs : Value}
    (a__law_runs : PySem.W.nsIn K mainGlobals "_law_runs" = some (some (.ref f__law_runs))) (l__law_runs : K.lookup f__law_runs = some ⟨oc__law_runs, od__law_runs, .func (PySem.W.fnOf "_law_runs" "_law_runs" (defArgs s__law_runs) (defBody s__law_runs) (defScope s__law_runs) .none kV__law_runs dc__law_runs pm__law_runs an__law_runs cd__law_runs ct__law_runs), sl__law_runs⟩) (c__law_runs : PySem.W.codeIn K cd__law_runs "_law_runs" = true) (k__law_runs : PySem.W.keepIn K (.ref f__law_runs) = true)
    {f__law_picture : Addr} {od__law_picture an__law_picture : Option Addr} {sl__law_picture : Array (Option Value)} {oc__law_picture kV__law_picture dc__law_picture pm__law_picture cd__law_picture ct__law_picture : Value}
    (a__law_picture : PySem.W.nsIn K mainGlobals "_law_picture" = some (some (.ref f__law_picture))) (l__law_picture : K.lookup f__law_picture = some ⟨oc__law_picture, od__law_picture, .func (PySem.W.fnOf "_law_picture" "_law_picture" (defArgs s__law_picture) (defBody s__law_picture) (defScope s__law_picture) .none kV__law_picture dc__law_picture pm__law_picture an__law_picture cd__law_picture ct__law_picture), sl__law_picture⟩) (c__law_picture : PySem.W.codeIn K cd__law_picture "_law_picture" = true) (k__law_picture : PySem.W.keepIn K (.ref f__law_picture) = true)
    {f__law_column : Addr} {od__law_column an__law_column : Option Addr} {sl__law_column : Array (Option Value)} {oc__law_column kV__law_column dc__law_column pm__law_column cd__law_column ct__law_column : Value}
    (a__law_column : PySem.W.nsIn K mainGlobals "_law_column" = some (some (.ref f__law_column))) (l__law_column : K.lookup f__law_column = some ⟨oc__law_column, od__law_column, .func (PySem.W.fnOf "_law_column" "_law_column" (defArgs s__law_column) (defBody s__law_column) (defScope s__law_column) .none kV__law_column dc__law_column pm__law_column an__law_column cd__law_column ct__law_column), sl__law_column⟩) (c__law_column : PySem.W.codeIn K cd__law_column "_law_column" = true) (k__law_column : PySem.W.keepIn K (.ref f__law_column) = true)
    {f__law_board : Addr} {od__law_board an__law_board : Option Addr} {sl__law_board : Array (Option Value)} {oc__law_board kV__law_board dc__law_board pm__law_board cd__law_board ct__law_board : Value}
    (a__law_board : PySem.W.nsIn K mainGlobals "_law_board" = some (some (.ref f__law_board))) (l__law_board : K.lookup f__law_board = some ⟨oc__law_board, od__law_board, .func (PySem.W.fnOf "_law_board" "_law_board" (defArgs s__law_board) (defBody s__law_board) (defScope s__law_board) .none kV__law_board dc__law_board pm__law_board an__law_board cd__law_board ct__law_board), sl__law_board⟩) (c__law_board : PySem.W.codeIn K cd__law_board "_law_board" = true) (k__law_board : PySem.W.keepIn K (.ref f__law_board) = true)
    {f__law_lines : Addr} {od__law_lines an__law_lines : Option Addr} {sl__law_lines : Array (Option Value)} {oc__law_lines kV__law_lines dc__law_lines pm__law_lines cd__law_lines ct__law_lines : Value}
    (a__law_lines : PySem.W.nsIn K mainGlobals "_law_lines" = some (some (.ref f__law_lines))) (l__law_lines : K.lookup f__law_lines = some ⟨oc__law_lines, od__law_lines, .func (PySem.W.fnOf "_law_lines" "_law_lines" (defArgs s__law_lines) (defBody s__law_lines) (defScope s__law_lines) .none kV__law_lines dc__law_lines pm__law_lines an__law_lines cd__law_lines ct__law_lines), sl__law_lines⟩) (c__law_lines : PySem.W.codeIn K cd__law_lines "_law_lines" = true) (k__law_lines : PySem.W.keepIn K (.ref f__law_lines) = true)
    {f__law_text : Addr} {od__law_text an__law_text : Option Addr} {sl__law_text : Array (Option Value)} {oc__law_text kV__law_text dc__law_text pm__law_text cd__law_text ct__law_text : Value}
    (a__law_text : PySem.W.nsIn K mainGlobals "_law_text" = some (some (.ref f__law_text))) (l__law_text : K.lookup f__law_text = some ⟨oc__law_text, od__law_text, .func (PySem.W.fnOf "_law_text" "_law_text" (defArgs s__law_text) (defBody s__law_text) (defScope s__law_text) .none kV__law_text dc__law_text pm__law_text an__law_text cd__law_text ct__law_text), sl__law_text⟩) (c__law_text : PySem.W.codeIn K cd__law_text "_law_text" = true) (k__law_text : PySem.W.keepIn K (.ref f__law_text) = true)
    {f__law_refused : Addr} {od__law_refused an__law_refused : Option Addr} {sl__law_refused : Array (Option Value)} {oc__law_refused kV__law_refused dc__law_refused pm__law_refused cd__law_refused ct__law_refused : Value}
    (a__law_refused : PySem.W.nsIn K mainGlobals "_law_refused" = some (some (.ref f__law_refused))) (l__law_refused : K.lookup f__law_refused = some ⟨oc__law_refused, od__law_refused, .func (PySem.W.fnOf "_law_refused" "_law_refused" (defArgs s__law_refused) (defBody s__law_refused) (defScope s__law_refused) .none kV__law_refused dc__law_refused pm__law_refused an__law_refused cd__law_refused ct__law_refused), sl__law_refused⟩) (c__law_refused : PySem.W.codeIn K cd__law_refused "_law_refused" = true) (k__law_refused : PySem.W.keepIn K (.ref f__law_refused) = true)
    {f__law_told : Addr} {od__law_told an__law_told : Option Addr} {sl__law_told : Array (Option Value)} {oc__law_told kV__law_told dc__law_told pm__law_told cd__law_told ct__law_told : Value}
    (a__law_told : PySem.W.nsIn K mainGlobals "_law_told" = some (some (.ref f__law_told))) (l__law_told : K.lookup f__law_told = some ⟨oc__law_told, od__law_told, .func (PySem.W.fnOf "_law_told" "_law_told" (defArgs s__law_told) (defBody s__law_told) (defScope s__law_told) .none kV__law_told dc__law_told pm__law_told an__law_told cd__law_told ct__law_told), sl__law_told⟩) (c__law_told : PySem.W.codeIn K cd__law_told "_law_told" = true) (k__law_told : PySem.W.keepIn K (.ref f__law_told) = true)
    {f__law_line_of : Addr} {od__law_line_of an__law_line_of : Option Addr} {sl__law_line_of : Array (Option Value)} {oc__law_line_of kV__law_line_of dc__law_line_of pm__law_line_of cd__law_line_of ct__law_line_of : Value}
    (a__law_line_of : PySem.W.nsIn K mainGlobals "_law_line_of" = some (some (.ref f__law_line_of))) (l__law_line_of : K.lookup f__law_line_of = some ⟨oc__law_line_of, od__law_line_of, .func (PySem.W.fnOf "_law_line_of" "_law_line_of" (defArgs s__law_line_of) (defBody s__law_line_of) (defScope s__law_line_of) .none kV__law_line_of dc__law_line_of pm__law_line_of an__law_line_of cd__law_line_of ct__law_line_of), sl__law_line_of⟩) (c__law_line_of : PySem.W.codeIn K cd__law_line_of "_law_line_of" = true) (k__law_line_of : PySem.W.keepIn K (.ref f__law_line_of) = true)
    {f__law_due : Addr} {od__law_due an__law_due : Option Addr} {sl__law_due : Array (Option Value)} {oc__law_due kV__law_due dc__law_due pm__law_due cd__law_due ct__law_due : Value}
    (a__law_due : PySem.W.nsIn K mainGlobals "_law_due" = some (some (.ref f__law_due))) (l__law_due : K.lookup f__law_due = some ⟨oc__law_due, od__law_due, .func (PySem.W.fnOf "_law_due" "_law_due" (defArgs s__law_due) (defBody s__law_due) (defScope s__law_due) .none kV__law_due dc__law_due pm__law_due an__law_due cd__law_due ct__law_due), sl__law_due⟩) (c__law_due : PySem.W.codeIn K cd__law_due "_law_due" = true) (k__law_due : PySem.W.keepIn K (.ref f__law_due) = true)
    {f__law_odd : Addr} {od__law_odd an__law_odd : Option Addr} {sl__law_odd : Array (Option Value)} {oc__law_odd kV__law_odd dc__law_odd pm__law_odd cd__law_odd ct__law_odd : Value}
    (a__law_odd : PySem.W.nsIn K mainGlobals "_law_odd" = some (some (.ref f__law_odd))) (l__law_odd : K.lookup f__law_odd = some ⟨oc__law_odd, od__law_odd, .func (PySem.W.fnOf "_law_odd" "_law_odd" (defArgs s__law_odd) (defBody s__law_odd) (defScope s__law_odd) .none kV__law_odd dc__law_odd pm__law_odd an__law_odd cd__law_odd ct__law_odd), sl__law_odd⟩) (c__law_odd : PySem.W.codeIn K cd__law_odd "_law_odd" = true) (k__law_odd : PySem.W.keepIn K (.ref f__law_odd) = true)
    {f__law_lined : Addr} {od__law_lined an__law_lined : Option Addr} {sl__law_lined : Array (Option Value)} {oc__law_lined kV__law_lined dc__law_lined pm__law_lined cd__law_lined ct__law_lined : Value}
    (a__law_lined : PySem.W.nsIn K mainGlobals "_law_lined" = some (some (.ref f__law_lined))) (l__law_lined : K.lookup f__law_lined = some ⟨oc__law_lined, od__law_lined, .func (PySem.W.fnOf "_law_lined" "_law_lined" (defArgs s__law_lined) (defBody s__law_lined) (defScope s__law_lined) .none kV__law_lined dc__law_lined pm__law_lined an__law_lined cd__law_lined ct__law_lined), sl__law_lined⟩) (c__law_lined : PySem.W.codeIn K cd__law_lined "_law_lined" = true) (k__law_lined : PySem.W.keepIn K (.ref f__law_lined) = true)
    {f_law : Addr} {od_law an_law : Option Addr} {sl_law : Array (Option Value)} {oc_law kV_law dc_law pm_law cd_law ct_law : Value}
    (a_law : PySem.W.nsIn K mainGlobals "law" = some (some (.ref f_law))) (l_law : K.lookup f_law = some ⟨oc_law, od_law, .func (PySem.W.fnOf "law" "law" (defArgs s_law) (defBody s_law) (defScope s_law) .none kV_law dc_law pm_law an_law cd_law ct_law), sl_law⟩) (c_law : PySem.W.codeIn K cd_law "law" = true) (k_law : PySem.W.keepIn K (.ref f_law) = true)
    {C_PaintError : Addr} (aC_PaintError : PySem.W.nsIn K mainGlobals "PaintError" = some (some (.ref C_PaintError)))
    {C_NoLaying : Addr} (aC_NoLaying : PySem.W.nsIn K mainGlobals "NoLaying" = some (some (.ref C_NoLaying)))
    {C_NoNumber : Addr} (aC_NoNumber : PySem.W.nsIn K mainGlobals "NoNumber" = some (some (.ref C_NoNumber)))
    {C_TooMany : Addr} (aC_TooMany : PySem.W.nsIn K mainGlobals "TooMany" = some (some (.ref C_TooMany)))
    {C_BadRun : Addr} (aC_BadRun : PySem.W.nsIn K mainGlobals "BadRun" = some (some (.ref C_BadRun)))
    {C_Wide : Addr} (aC_Wide : PySem.W.nsIn K mainGlobals "Wide" = some (some (.ref C_Wide)))
    {C_NoNote : Addr} (aC_NoNote : PySem.W.nsIn K mainGlobals "NoNote" = some (some (.ref C_NoNote)))
    (z_ValueError : PySem.W.nsIn K mainGlobals "ValueError" = some none) (x_sg : PySem.W.specialIn K (.builtin "object.__class__") "__get__" = some (some (.builtin "getset_descriptor.__get__"))) (x_tk : PySem.W.takesIn K (.builtin "object.__class__") = some true)
    (xe_PaintError : PySem.W.excIn K C_PaintError bmV "ValueError.__new__" = true) (xb_PaintError : PySem.W.mroIn K C_PaintError (.type "BaseException") = some true) (xo_PaintError : PySem.W.mroIn K C_PaintError (.type "object") = some true) (xa_PaintError : PySem.W.findIn K (.ref C_PaintError) "__getattribute__" = some (some (.builtin "BaseException.__getattribute__"))) (xn_PaintError : PySem.W.findIn K (.ref C_PaintError) "__getattr__" = some none) (xc_PaintError : PySem.W.findIn K (.ref C_PaintError) "__class__" = some (some (.builtin "object.__class__")))
    (xe_TooMany : PySem.W.excIn K C_TooMany bmV "ValueError.__new__" = true) (xb_TooMany : PySem.W.mroIn K C_TooMany (.type "BaseException") = some true) (xo_TooMany : PySem.W.mroIn K C_TooMany (.type "object") = some true) (xa_TooMany : PySem.W.findIn K (.ref C_TooMany) "__getattribute__" = some (some (.builtin "BaseException.__getattribute__"))) (xn_TooMany : PySem.W.findIn K (.ref C_TooMany) "__getattr__" = some none) (xc_TooMany : PySem.W.findIn K (.ref C_TooMany) "__class__" = some (some (.builtin "object.__class__")))
    (xe_BadRun : PySem.W.excIn K C_BadRun bmV "ValueError.__new__" = true) (xb_BadRun : PySem.W.mroIn K C_BadRun (.type "BaseException") = some true) (xo_BadRun : PySem.W.mroIn K C_BadRun (.type "object") = some true) (xa_BadRun : PySem.W.findIn K (.ref C_BadRun) "__getattribute__" = some (some (.builtin "BaseException.__getattribute__"))) (xn_BadRun : PySem.W.findIn K (.ref C_BadRun) "__getattr__" = some none) (xc_BadRun : PySem.W.findIn K (.ref C_BadRun) "__class__" = some (some (.builtin "object.__class__")))
    (xe_Wide : PySem.W.excIn K C_Wide bmV "ValueError.__new__" = true) (xb_Wide : PySem.W.mroIn K C_Wide (.type "BaseException") = some true) (xo_Wide : PySem.W.mroIn K C_Wide (.type "object") = some true) (xa_Wide : PySem.W.findIn K (.ref C_Wide) "__getattribute__" = some (some (.builtin "BaseException.__getattribute__"))) (xn_Wide : PySem.W.findIn K (.ref C_Wide) "__getattr__" = some none) (xc_Wide : PySem.W.findIn K (.ref C_Wide) "__class__" = some (some (.builtin "object.__class__")))
    (xe_NoNote : PySem.W.excIn K C_NoNote bmV "ValueError.__new__" = true) (xb_NoNote : PySem.W.mroIn K C_NoNote (.type "BaseException") = some true) (xo_NoNote : PySem.W.mroIn K C_NoNote (.type "object") = some true) (xa_NoNote : PySem.W.findIn K (.ref C_NoNote) "__getattribute__" = some (some (.builtin "BaseException.__getattribute__"))) (xn_NoNote : PySem.W.findIn K (.ref C_NoNote) "__getattr__" = some none) (xc_NoNote : PySem.W.findIn K (.ref C_NoNote) "__class__" = some (some (.builtin "object.__class__")))
    (xs_TooMany : PySem.W.mroIn K C_TooMany (.ref C_PaintError) = some true)
    (xm_TooMany_NoLaying : PySem.W.mroIn K C_TooMany (.ref C_NoLaying) = some false)
    (xm_TooMany_NoNumber : PySem.W.mroIn K C_TooMany (.ref C_NoNumber) = some false)
    (xm_TooMany_TooMany : PySem.W.mroIn K C_TooMany (.ref C_TooMany) = some true)
    (xm_TooMany_BadRun : PySem.W.mroIn K C_TooMany (.ref C_BadRun) = some false)
    (xm_TooMany_Wide : PySem.W.mroIn K C_TooMany (.ref C_Wide) = some false)
    (xm_TooMany_NoNote : PySem.W.mroIn K C_TooMany (.ref C_NoNote) = some false)
    (xv_TooMany : PySem.W.mroIn K C_TooMany (.type "ValueError") = some true)
    (xs_BadRun : PySem.W.mroIn K C_BadRun (.ref C_PaintError) = some true)
    (xm_BadRun_NoLaying : PySem.W.mroIn K C_BadRun (.ref C_NoLaying) = some false)
    (xm_BadRun_NoNumber : PySem.W.mroIn K C_BadRun (.ref C_NoNumber) = some false)
    (xm_BadRun_TooMany : PySem.W.mroIn K C_BadRun (.ref C_TooMany) = some false)
    (xm_BadRun_BadRun : PySem.W.mroIn K C_BadRun (.ref C_BadRun) = some true)
    (xm_BadRun_Wide : PySem.W.mroIn K C_BadRun (.ref C_Wide) = some false)
    (xm_BadRun_NoNote : PySem.W.mroIn K C_BadRun (.ref C_NoNote) = some false)
    (xv_BadRun : PySem.W.mroIn K C_BadRun (.type "ValueError") = some true)
    (xs_Wide : PySem.W.mroIn K C_Wide (.ref C_PaintError) = some true)
    (xm_Wide_NoLaying : PySem.W.mroIn K C_Wide (.ref C_NoLaying) = some false)
    (xm_Wide_NoNumber : PySem.W.mroIn K C_Wide (.ref C_NoNumber) = some false)
    (xm_Wide_TooMany : PySem.W.mroIn K C_Wide (.ref C_TooMany) = some false)
    (xm_Wide_BadRun : PySem.W.mroIn K C_Wide (.ref C_BadRun) = some false)
    (xm_Wide_Wide : PySem.W.mroIn K C_Wide (.ref C_Wide) = some true)
    (xm_Wide_NoNote : PySem.W.mroIn K C_Wide (.ref C_NoNote) = some false)
    (xv_Wide : PySem.W.mroIn K C_Wide (.type "ValueError") = some true)
    (xs_NoNote : PySem.W.mroIn K C_NoNote (.ref C_PaintError) = some true)
    (xm_NoNote_NoLaying : PySem.W.mroIn K C_NoNote (.ref C_NoLaying) = some false)
    (xm_NoNote_NoNumber : PySem.W.mroIn K C_NoNote (.ref C_NoNumber) = some false)
    (xm_NoNote_TooMany : PySem.W.mroIn K C_NoNote (.ref C_TooMany) = some false)
    (xm_NoNote_BadRun : PySem.W.mroIn K C_NoNote (.ref C_BadRun) = some false)
    (xm_NoNote_Wide : PySem.W.mroIn K C_NoNote (.ref C_Wide) = some false)
    (xm_NoNote_NoNote : PySem.W.mroIn K C_NoNote (.ref C_NoNote) = some true)
    (xv_NoNote : PySem.W.mroIn K C_NoNote (.type "ValueError") = some true)
    (xi_NoLaying : PySem.W.isClsIn K C_NoLaying = true) (xt_NoLaying : PySem.W.typeIn K (.ref C_NoLaying) = some (.type "type"))
    (xi_NoNumber : PySem.W.isClsIn K C_NoNumber = true) (xt_NoNumber : PySem.W.typeIn K (.ref C_NoNumber) = some (.type "type"))
    (xi_TooMany : PySem.W.isClsIn K C_TooMany = true) (xt_TooMany : PySem.W.typeIn K (.ref C_TooMany) = some (.type "type"))
    (xi_BadRun : PySem.W.isClsIn K C_BadRun = true) (xt_BadRun : PySem.W.typeIn K (.ref C_BadRun) = some (.type "type"))
    (xi_Wide : PySem.W.isClsIn K C_Wide = true) (xt_Wide : PySem.W.typeIn K (.ref C_Wide) = some (.type "type"))
    (xi_NoNote : PySem.W.isClsIn K C_NoNote = true) (xt_NoNote : PySem.W.typeIn K (.ref C_NoNote) = some (.type "type"))
    {t_MOST_LINES : Tok} (g_MOST_LINES : PySem.W.nsIn K mainGlobals "MOST_LINES" = some (some (.int 12 t_MOST_LINES)))
    {t_MOST_FIGURES : Tok} (g_MOST_FIGURES : PySem.W.nsIn K mainGlobals "MOST_FIGURES" = some (some (.int 3 t_MOST_FIGURES)))
    {t_FIGURES : Tok} (g_FIGURES : PySem.W.nsIn K mainGlobals "FIGURES" = some (some (.str "0123456789" t_FIGURES)))
    (z_len : PySem.W.nsIn K mainGlobals "len" = some none)
    (z_range : PySem.W.nsIn K mainGlobals "range" = some none)
    (z_isinstance : PySem.W.nsIn K mainGlobals "isinstance" = some none)
    (z_all : PySem.W.nsIn K mainGlobals "all" = some none)
    (z_any : PySem.W.nsIn K mainGlobals "any" = some none)
    (z_sum : PySem.W.nsIn K mainGlobals "sum" = some none)
    (z_min : PySem.W.nsIn K mainGlobals "min" = some none)
    (z_max : PySem.W.nsIn K mainGlobals "max" = some none)
    (z_int : PySem.W.nsIn K mainGlobals "int" = some none)
    (z_bool : PySem.W.nsIn K mainGlobals "bool" = some none)
    (z_tuple : PySem.W.nsIn K mainGlobals "tuple" = some none)
    (z_list : PySem.W.nsIn K mainGlobals "list" = some none)
    (z_reversed : PySem.W.nsIn K mainGlobals "reversed" = some none)
    (z_str : PySem.W.nsIn K mainGlobals "str" = some none)
    : ∃ fd : FuncData, (∀ (s : Shared) (v : Value), BindsTo s fd ⟨[v], []⟩ [("script", v)]) ∧ ∀ base : Heap, K.In base → base.Ns mainGlobals mg → FnOk l.prog w K mg base CX0 6 fa fd ["script"] (sp_law K) := by
  have e := hfa.symm.trans (PySem.W.mg_of X G a_law)
  cases e
  have B : Bt mg := ⟨PySem.W.mg_none_of X G z_len, PySem.W.mg_none_of X G z_range, PySem.W.mg_none_of X G z_isinstance, PySem.W.mg_none_of X G z_all, PySem.W.mg_none_of X G z_any, PySem.W.mg_none_of X G z_sum, PySem.W.mg_none_of X G z_min, PySem.W.mg_none_of X G z_max, PySem.W.mg_none_of X G z_int, PySem.W.mg_none_of X G z_bool, PySem.W.mg_none_of X G z_tuple, PySem.W.mg_none_of X G z_list, PySem.W.mg_none_of X G z_reversed⟩
  have H_str := PySem.W.mg_none_of X G z_str
  have X_PaintError : ExcC K C_PaintError := ⟨xe_PaintError, xb_PaintError, xo_PaintError, xa_PaintError, xn_PaintError, xc_PaintError, x_sg, x_tk⟩
  have X_TooMany : ExcC K C_TooMany := ⟨xe_TooMany, xb_TooMany, xo_TooMany, xa_TooMany, xn_TooMany, xc_TooMany, x_sg, x_tk⟩
  have X_BadRun : ExcC K C_BadRun := ⟨xe_BadRun, xb_BadRun, xo_BadRun, xa_BadRun, xn_BadRun, xc_BadRun, x_sg, x_tk⟩
  have X_Wide : ExcC K C_Wide := ⟨xe_Wide, xb_Wide, xo_Wide, xa_Wide, xn_Wide, xc_Wide, x_sg, x_tk⟩
  have X_NoNote : ExcC K C_NoNote := ⟨xe_NoNote, xb_NoNote, xo_NoNote, xa_NoNote, xn_NoNote, xc_NoNote, x_sg, x_tk⟩
  have hm_PaintError := PySem.W.mg_of X G aC_PaintError
  have hm_NoLaying := PySem.W.mg_of X G aC_NoLaying
  have hm_NoNumber := PySem.W.mg_of X G aC_NoNumber
  have hm_TooMany := PySem.W.mg_of X G aC_TooMany
  have hm_BadRun := PySem.W.mg_of X G aC_BadRun
  have hm_Wide := PySem.W.mg_of X G aC_Wide
  have hm_NoNote := PySem.W.mg_of X G aC_NoNote
  have R : Errs K mg C_PaintError C_NoLaying C_NoNumber C_TooMany C_BadRun C_Wide C_NoNote := ⟨PySem.W.mg_of X G aC_PaintError, PySem.W.mg_of X G aC_NoLaying, PySem.W.mg_of X G aC_NoNumber, PySem.W.mg_of X G aC_TooMany, PySem.W.mg_of X G aC_BadRun, PySem.W.mg_of X G aC_Wide, PySem.W.mg_of X G aC_NoNote, PySem.W.mg_none_of X G z_ValueError, X_PaintError⟩
  have M_TooMany : Marks K C_PaintError C_NoLaying C_NoNumber C_TooMany C_BadRun C_Wide C_NoNote C_TooMany false false true false false false := ⟨X_TooMany, xs_TooMany, kit_no xm_TooMany_TooMany xm_TooMany_NoLaying xi_NoLaying xt_NoLaying, kit_no xm_TooMany_TooMany xm_TooMany_NoNumber xi_NoNumber xt_NoNumber, kit_self, kit_no xm_TooMany_TooMany xm_TooMany_BadRun xi_BadRun xt_BadRun, kit_no xm_TooMany_TooMany xm_TooMany_Wide xi_Wide xt_Wide, kit_no xm_TooMany_TooMany xm_TooMany_NoNote xi_NoNote xt_NoNote, kit_val xv_TooMany⟩
  have M_BadRun : Marks K C_PaintError C_NoLaying C_NoNumber C_TooMany C_BadRun C_Wide C_NoNote C_BadRun false false false true false false := ⟨X_BadRun, xs_BadRun, kit_no xm_BadRun_BadRun xm_BadRun_NoLaying xi_NoLaying xt_NoLaying, kit_no xm_BadRun_BadRun xm_BadRun_NoNumber xi_NoNumber xt_NoNumber, kit_no xm_BadRun_BadRun xm_BadRun_TooMany xi_TooMany xt_TooMany, kit_self, kit_no xm_BadRun_BadRun xm_BadRun_Wide xi_Wide xt_Wide, kit_no xm_BadRun_BadRun xm_BadRun_NoNote xi_NoNote xt_NoNote, kit_val xv_BadRun⟩
  have M_Wide : Marks K C_PaintError C_NoLaying C_NoNumber C_TooMany C_BadRun C_Wide C_NoNote C_Wide false false false false true false := ⟨X_Wide, xs_Wide, kit_no xm_Wide_Wide xm_Wide_NoLaying xi_NoLaying xt_NoLaying, kit_no xm_Wide_Wide xm_Wide_NoNumber xi_NoNumber xt_NoNumber, kit_no xm_Wide_Wide xm_Wide_TooMany xi_TooMany xt_TooMany, kit_no xm_Wide_Wide xm_Wide_BadRun xi_BadRun xt_BadRun, kit_self, kit_no xm_Wide_Wide xm_Wide_NoNote xi_NoNote xt_NoNote, kit_val xv_Wide⟩
  have M_NoNote : Marks K C_PaintError C_NoLaying C_NoNumber C_TooMany C_BadRun C_Wide C_NoNote C_NoNote false false false false false true := ⟨X_NoNote, xs_NoNote, kit_no xm_NoNote_NoNote xm_NoNote_NoLaying xi_NoLaying xt_NoLaying, kit_no xm_NoNote_NoNote xm_NoNote_NoNumber xi_NoNumber xt_NoNumber, kit_no xm_NoNote_NoNote xm_NoNote_TooMany xi_TooMany xt_TooMany, kit_no xm_NoNote_NoNote xm_NoNote_BadRun xi_BadRun xt_BadRun, kit_no xm_NoNote_NoNote xm_NoNote_Wide xi_Wide xt_Wide, kit_self, kit_val xv_NoNote⟩
  have H_MOST_LINES := PySem.W.mg_of X G g_MOST_LINES
  have H_MOST_FIGURES := PySem.W.mg_of X G g_MOST_FIGURES
  have H_FIGURES := PySem.W.mg_of X G g_FIGURES
  have F_refuse_too_many := fun_mk (st := s_refuse_too_many) l_refuse_too_many c_refuse_too_many k_refuse_too_many
  have b_refuse_too_many := F_refuse_too_many.binds (ps := ["lines"]) fun _ _ _ _ _ _ us hl => match us, hl with | [_], _ => rfl
  have F_refuse_bad_runs := fun_mk (st := s_refuse_bad_runs) l_refuse_bad_runs c_refuse_bad_runs k_refuse_bad_runs
  have b_refuse_bad_runs := F_refuse_bad_runs.binds (ps := ["lines"]) fun _ _ _ _ _ _ us hl => match us, hl with | [_], _ => rfl
  have F_refuse_wide := fun_mk (st := s_refuse_wide) l_refuse_wide c_refuse_wide k_refuse_wide
  have b_refuse_wide := F_refuse_wide.binds (ps := ["lines", "cells"]) fun _ _ _ _ _ _ us hl => match us, hl with | [_, _], _ => rfl
  have F_looked := fun_mk (st := s_looked) l_looked c_looked k_looked
  have b_looked := F_looked.binds (ps := ["board"]) fun _ _ _ _ _ _ us hl => match us, hl with | [_], _ => rfl
  have F_run_read := fun_mk (st := s_run_read) l_run_read c_run_read k_run_read
  have b_run_read := F_run_read.binds (ps := ["word"]) fun _ _ _ _ _ _ us hl => match us, hl with | [_], _ => rfl
  have F_runs_read := fun_mk (st := s_runs_read) l_runs_read c_runs_read k_runs_read
  have b_runs_read := F_runs_read.binds (ps := ["line"]) fun _ _ _ _ _ _ us hl => match us, hl with | [_], _ => rfl
  have F_lines_read := fun_mk (st := s_lines_read) l_lines_read c_lines_read k_lines_read
  have b_lines_read := F_lines_read.binds (ps := ["part"]) fun _ _ _ _ _ _ us hl => match us, hl with | [_], _ => rfl
  have F_read := fun_mk (st := s_read) l_read c_read k_read
  have b_read := F_read.binds (ps := ["text"]) fun _ _ _ _ _ _ us hl => match us, hl with | [_], _ => rfl
  have F__law_cell_at := fun_mk (st := s__law_cell_at) l__law_cell_at c__law_cell_at k__law_cell_at
  have b__law_cell_at := F__law_cell_at.binds (ps := ["script", "k"]) fun _ _ _ _ _ _ us hl => match us, hl with | [_, _], _ => rfl
  have F__law_whole := fun_mk (st := s__law_whole) l__law_whole c__law_whole k__law_whole
  have b__law_whole := F__law_whole.binds (ps := ["x"]) fun _ _ _ _ _ _ us hl => match us, hl with | [_], _ => rfl
  have F__law_mix := fun_mk (st := s__law_mix) l__law_mix c__law_mix k__law_mix
  have b__law_mix := F__law_mix.binds (ps := ["cell", "k"]) fun _ _ _ _ _ _ us hl => match us, hl with | [_, _], _ => rfl
  have F__law_runs := fun_mk (st := s__law_runs) l__law_runs c__law_runs k__law_runs
  have b__law_runs := F__law_runs.binds (ps := ["cells"]) fun _ _ _ _ _ _ us hl => match us, hl with | [_], _ => rfl
  have F__law_picture := fun_mk (st := s__law_picture) l__law_picture c__law_picture k__law_picture
  have b__law_picture := F__law_picture.binds (ps := ["cell", "rows", "columns"]) fun _ _ _ _ _ _ us hl => match us, hl with | [_, _, _], _ => rfl
  have F__law_column := fun_mk (st := s__law_column) l__law_column c__law_column k__law_column
  have b__law_column := F__law_column.binds (ps := ["rows", "at"]) fun _ _ _ _ _ _ us hl => match us, hl with | [_, _], _ => rfl
  have F__law_board := fun_mk (st := s__law_board) l__law_board c__law_board k__law_board
  have b__law_board := F__law_board.binds (ps := ["picture"]) fun _ _ _ _ _ _ us hl => match us, hl with | [_], _ => rfl
  have F__law_lines := fun_mk (st := s__law_lines) l__law_lines c__law_lines k__law_lines
  have b__law_lines := F__law_lines.binds (ps := ["found", "due"]) fun _ _ _ _ _ _ us hl => match us, hl with | [_, _], _ => rfl
  have F__law_text := fun_mk (st := s__law_text) l__law_text c__law_text k__law_text
  have b__law_text := F__law_text.binds (ps := ["board"]) fun _ _ _ _ _ _ us hl => match us, hl with | [_], _ => rfl
  have F__law_refused := fun_mk (st := s__law_refused) l__law_refused c__law_refused k__law_refused
  have b__law_refused := F__law_refused.binds (ps := ["marks", "which"]) fun _ _ _ _ _ _ us hl => match us, hl with | [_, _], _ => rfl
  have F__law_told := fun_mk (st := s__law_told) l__law_told c__law_told k__law_told
  have b__law_told := F__law_told.binds (ps := ["text"]) fun _ _ _ _ _ _ us hl => match us, hl with | [_], _ => rfl
  have F__law_line_of := fun_mk (st := s__law_line_of) l__law_line_of c__law_line_of k__law_line_of
  have b__law_line_of := F__law_line_of.binds (ps := ["text"]) fun _ _ _ _ _ _ us hl => match us, hl with | [_], _ => rfl
  have F__law_due := fun_mk (st := s__law_due) l__law_due c__law_due k__law_due
  have b__law_due := F__law_due.binds (ps := ["text"]) fun _ _ _ _ _ _ us hl => match us, hl with | [_], _ => rfl
  have F__law_odd := fun_mk (st := s__law_odd) l__law_odd c__law_odd k__law_odd
  have b__law_odd := F__law_odd.binds (ps := ["cell"]) fun _ _ _ _ _ _ us hl => match us, hl with | [_], _ => rfl
  have F__law_lined := fun_mk (st := s__law_lined) l__law_lined c__law_lined k__law_lined
  have b__law_lined := F__law_lined.binds (ps := ["text", "cell", "other"]) fun _ _ _ _ _ _ us hl => match us, hl with | [_, _, _], _ => rfl
  have F_law := fun_mk (st := s_law) l_law c_law k_law
  refine ⟨PySem.W.fnOf "law" "law" (defArgs s_law) (defBody s_law) (defScope s_law) .none kV_law dc_law pm_law an_law cd_law ct_law, fun s v => .of_eq rfl, fun base _ _ => ?_⟩
  have c_refuse_too_many : Callee l.prog w K mg base (CXe l.prog w) "refuse_too_many" 1 ["lines"] (sp_tm C_TooMany) := ⟨⟨f_refuse_too_many, _, PySem.W.mg_of X G a_refuse_too_many, k_refuse_too_many, b_refuse_too_many, ok_refuse_too_many F_refuse_too_many B H_MOST_LINES R.tm X_TooMany⟩⟩
  have c_refuse_bad_runs : Callee l.prog w K mg base (CXe l.prog w) "refuse_bad_runs" 1 ["lines"] (sp_br C_BadRun) := ⟨⟨f_refuse_bad_runs, _, PySem.W.mg_of X G a_refuse_bad_runs, k_refuse_bad_runs, b_refuse_bad_runs, ok_refuse_bad_runs F_refuse_bad_runs B R.br X_BadRun⟩⟩
  have c_refuse_wide : Callee l.prog w K mg base (CXe l.prog w) "refuse_wide" 1 ["lines", "cells"] (sp_wd C_Wide) := ⟨⟨f_refuse_wide, _, PySem.W.mg_of X G a_refuse_wide, k_refuse_wide, b_refuse_wide, ok_refuse_wide F_refuse_wide B R.wd X_Wide⟩⟩
  have c_looked : Callee l.prog w K mg base (CXe l.prog w) "looked" 2 ["board"] (sp_looked C_TooMany C_BadRun C_Wide) := ⟨⟨f_looked, _, PySem.W.mg_of X G a_looked, k_looked, b_looked, ok_looked F_looked B c_refuse_too_many c_refuse_bad_runs c_refuse_wide⟩⟩
  have c_run_read : Callee l.prog w K mg base (CXe l.prog w) "run_read" 1 ["word"] (sp_run_read C_NoNote) := ⟨⟨f_run_read, _, PySem.W.mg_of X G a_run_read, k_run_read, b_run_read, ok_run_read F_run_read B H_MOST_FIGURES H_FIGURES R.no X_NoNote⟩⟩
  have c_runs_read : Callee l.prog w K mg base (CXe l.prog w) "runs_read" 2 ["line"] (sp_runs_read C_NoNote) := ⟨⟨f_runs_read, _, PySem.W.mg_of X G a_runs_read, k_runs_read, b_runs_read, ok_runs_read F_runs_read B c_run_read⟩⟩
  have c_lines_read : Callee l.prog w K mg base (CXe l.prog w) "lines_read" 3 ["part"] (sp_lines_read C_NoNote) := ⟨⟨f_lines_read, _, PySem.W.mg_of X G a_lines_read, k_lines_read, b_lines_read, ok_lines_read F_lines_read B c_runs_read⟩⟩
  have c_read : Callee l.prog w K mg base (CXe l.prog w) "read" 4 ["text"] (sp_read C_NoNote C_TooMany C_Wide) := ⟨⟨f_read, _, PySem.W.mg_of X G a_read, k_read, b_read, ok_read F_read B R.no X_NoNote c_lines_read c_looked⟩⟩
  have c__law_cell_at : Callee l.prog w K mg base CX0 "_law_cell_at" 1 ["script", "k"] (sp__law_cell_at K) := ⟨⟨f__law_cell_at, _, PySem.W.mg_of X G a__law_cell_at, k__law_cell_at, b__law_cell_at, ok__law_cell_at F__law_cell_at B⟩⟩
  have c__law_whole : Callee l.prog w K mg base CX0 "_law_whole" 1 ["x"] sp__law_whole := ⟨⟨f__law_whole, _, PySem.W.mg_of X G a__law_whole, k__law_whole, b__law_whole, ok__law_whole F__law_whole B⟩⟩
  have c__law_mix : Callee l.prog w K mg base CX0 "_law_mix" 1 ["cell", "k"] sp__law_mix := ⟨⟨f__law_mix, _, PySem.W.mg_of X G a__law_mix, k__law_mix, b__law_mix, ok__law_mix F__law_mix⟩⟩
  have c__law_runs : Callee l.prog w K mg base CX0 "_law_runs" 1 ["cells"] sp__law_runs := ⟨⟨f__law_runs, _, PySem.W.mg_of X G a__law_runs, k__law_runs, b__law_runs, ok__law_runs F__law_runs B⟩⟩
  have c__law_picture : Callee l.prog w K mg base CX0 "_law_picture" 2 ["cell", "rows", "columns"] sp__law_picture := ⟨⟨f__law_picture, _, PySem.W.mg_of X G a__law_picture, k__law_picture, b__law_picture, ok__law_picture F__law_picture B c__law_mix⟩⟩
  have c__law_column : Callee l.prog w K mg base CX0 "_law_column" 1 ["rows", "at"] sp_column := ⟨⟨f__law_column, _, PySem.W.mg_of X G a__law_column, k__law_column, b__law_column, ok__law_column F__law_column B⟩⟩
  have c__law_board : Callee l.prog w K mg base CX0 "_law_board" 3 ["picture"] sp_board := ⟨⟨f__law_board, _, PySem.W.mg_of X G a__law_board, k__law_board, b__law_board, ok__law_board F__law_board B c__law_column c__law_runs⟩⟩
  have c__law_lines : Callee l.prog w K mg base CX0 "_law_lines" 2 ["found", "due"] sp__law_lines := ⟨⟨f__law_lines, _, PySem.W.mg_of X G a__law_lines, k__law_lines, b__law_lines, ok__law_lines F__law_lines B c__law_whole⟩⟩
  have c__law_text : Callee l.prog w K mg base CX0 "_law_text" 1 ["board"] sp__law_text := ⟨⟨f__law_text, _, PySem.W.mg_of X G a__law_text, k__law_text, b__law_text, ok__law_text F__law_text B H_str⟩⟩
  have c__law_refused : Callee l.prog w K mg base CX0 "_law_refused" 1 ["marks", "which"] sp__law_refused := ⟨⟨f__law_refused, _, PySem.W.mg_of X G a__law_refused, k__law_refused, b__law_refused, ok__law_refused F__law_refused B⟩⟩
  have c__law_told : Callee l.prog w K mg base CX0 "_law_told" 5 ["text"] sp__law_told := ⟨⟨f__law_told, _, PySem.W.mg_of X G a__law_told, k__law_told, b__law_told, ok__law_told F__law_told B R M_TooMany M_Wide M_NoNote c_read⟩⟩
  have c__law_line_of : Callee l.prog w K mg base CX0 "_law_line_of" 1 ["text"] sp__law_line_of := ⟨⟨f__law_line_of, _, PySem.W.mg_of X G a__law_line_of, k__law_line_of, b__law_line_of, ok__law_line_of F__law_line_of B⟩⟩
  have c__law_due : Callee l.prog w K mg base CX0 "_law_due" 2 ["text"] sp__law_due := ⟨⟨f__law_due, _, PySem.W.mg_of X G a__law_due, k__law_due, b__law_due, ok__law_due F__law_due B c__law_line_of⟩⟩
  have c__law_odd : Callee l.prog w K mg base CX0 "_law_odd" 1 ["cell"] sp__law_odd := ⟨⟨f__law_odd, _, PySem.W.mg_of X G a__law_odd, k__law_odd, b__law_odd, ok__law_odd F__law_odd⟩⟩
  have c__law_lined : Callee l.prog w K mg base CX0 "_law_lined" 1 ["text", "cell", "other"] sp__law_lined := ⟨⟨f__law_lined, _, PySem.W.mg_of X G a__law_lined, k__law_lined, b__law_lined, ok__law_lined F__law_lined B⟩⟩
  exact ok_law F_law B c__law_cell_at c__law_picture c__law_board c__law_text c__law_lined c__law_odd c__law_due c__law_told c__law_refused c__law_lines
theorem walk {l : PySem.W.OpenLaw} {q : Program} {loose : List Str} {XP : (Str → Option Value) → Heap → Prop} {YP : World → Heap → Prop} {d : DefRec} {K : Params → PySem.W.Frag} (hn : l.most = some 63) (hdf : d.params.defaults = [])
    (hY : ∀ (w : World) (h : Heap), YP w h → (K w.params).In h)
    (F : ∀ (w : World) (mg : Str → Option Value) (fa : Addr) (h : Heap), (K w.params).In h → h.Ns mainGlobals mg → mg d.name = some (.ref fa) →
      ∃ fd : FuncData, (∀ (s : Shared) (u : Value), BindsTo s fd ⟨[u], []⟩ [("script", u)]) ∧ ∀ base : Heap, (K w.params).In base → base.Ns mainGlobals mg → FnOk l.prog w (K w.params) mg base CX0 6 fa fd ["script"] (sp_law (K w.params))) :
    PySem.W.WalkO q loose XP YP l.row.toRowW d [] (fun f vs => PySem.call f vs) :=
  L2.walk_of (n := 63) (k := 6) (x := "script") (CX := fun _ => CX0) (sp := fun w => sp_law (K w.params)) hn (by decide) hdf ⟨rfl, by decide, by decide⟩ hY F (fun _ _ a ns hl _ hS => ⟨a, ns, rfl, hS, hl, fun _ => rfl⟩) fun _ _ _ _ _ z => z
end K14
open PySem PySem.W PyProof.Rows
set_option maxRecDepth 100000 in
set_option maxHeartbeats 0 in
theorem PySem.Challenge.cw_runpaint_k14_read_holds : PySem.Challenge.rw_runpaint_k14_read.Holds := by
  w_on; o_law; k_head; (case hw => w_witness2)
  k_fill
  refine K14.walk (l := PySem.Challenge.rw_runpaint_k14_read) rfl rfl (fun w h Y => PySem.W.kIn_of Y) ?F
  case F =>
    intro w mg fa h KX G hmg
    refine' K14.all_mk KX G hmg ?a_refuse_too_many ?l_refuse_too_many ?c_refuse_too_many ?k_refuse_too_many ?a_refuse_bad_runs ?l_refuse_bad_runs ?c_refuse_bad_runs ?k_refuse_bad_runs ?a_refuse_wide ?l_refuse_wide ?c_refuse_wide ?k_refuse_wide ?a_looked ?l_looked ?c_looked ?k_looked ?a_run_read ?l_run_read ?c_run_read ?k_run_read ?a_runs_read ?l_runs_read ?c_runs_read ?k_runs_read ?a_lines_read ?l_lines_read ?c_lines_read ?k_lines_read ?a_read ?l_read ?c_read ?k_read ?a__law_cell_at ?l__law_cell_at ?c__law_cell_at ?k__law_cell_at ?a__law_whole ?l__law_whole ?c__law_whole ?k__law_whole ?a__law_mix ?l__law_mix ?c__law_mix ?k__law_mix ?a__law_runs ?l__law_runs ?c__law_runs ?k__law_runs ?a__law_picture ?l__law_picture ?c__law_picture ?k__law_picture ?a__law_column ?l__law_column ?c__law_column ?k__law_column ?a__law_board ?l__law_board ?c__law_board ?k__law_board ?a__law_lines ?l__law_lines ?c__law_lines ?k__law_lines ?a__law_text ?l__law_text ?c__law_text ?k__law_text ?a__law_refused ?l__law_refused ?c__law_refused ?k__law_refused ?a__law_told ?l__law_told ?c__law_told ?k__law_told ?a__law_line_of ?l__law_line_of ?c__law_line_of ?k__law_line_of ?a__law_due ?l__law_due ?c__law_due ?k__law_due ?a__law_odd ?l__law_odd ?c__law_odd ?k__law_odd ?a__law_lined ?l__law_lined ?c__law_lined ?k__law_lined ?a_law ?l_law ?c_law ?k_law ?aC_PaintError ?aC_NoLaying ?aC_NoNumber ?aC_TooMany ?aC_BadRun ?aC_Wide ?aC_NoNote ?z_ValueError ?x_sg ?x_tk ?xe_PaintError ?xb_PaintError ?xo_PaintError ?xa_PaintError ?xn_PaintError ?xc_PaintError ?xe_TooMany ?xb_TooMany ?xo_TooMany ?xa_TooMany ?xn_TooMany ?xc_TooMany ?xe_BadRun ?xb_BadRun ?xo_BadRun ?xa_BadRun ?xn_BadRun ?xc_BadRun ?xe_Wide ?xb_Wide ?xo_Wide ?xa_Wide ?xn_Wide ?xc_Wide ?xe_NoNote ?xb_NoNote ?xo_NoNote ?xa_NoNote ?xn_NoNote ?xc_NoNote ?xs_TooMany ?xm_TooMany_NoLaying ?xm_TooMany_NoNumber ?xm_TooMany_TooMany ?xm_TooMany_BadRun ?xm_TooMany_Wide ?xm_TooMany_NoNote ?xv_TooMany ?xs_BadRun ?xm_BadRun_NoLaying ?xm_BadRun_NoNumber ?xm_BadRun_TooMany ?xm_BadRun_BadRun ?xm_BadRun_Wide ?xm_BadRun_NoNote ?xv_BadRun ?xs_Wide ?xm_Wide_NoLaying ?xm_Wide_NoNumber ?xm_Wide_TooMany ?xm_Wide_BadRun ?xm_Wide_Wide ?xm_Wide_NoNote ?xv_Wide ?xs_NoNote ?xm_NoNote_NoLaying ?xm_NoNote_NoNumber ?xm_NoNote_TooMany ?xm_NoNote_BadRun ?xm_NoNote_Wide ?xm_NoNote_NoNote ?xv_NoNote ?xi_NoLaying ?xt_NoLaying ?xi_NoNumber ?xt_NoNumber ?xi_TooMany ?xt_TooMany ?xi_BadRun ?xt_BadRun ?xi_Wide ?xt_Wide ?xi_NoNote ?xt_NoNote ?g_MOST_LINES ?g_MOST_FIGURES ?g_FIGURES ?z_len ?z_range ?z_isinstance ?z_all ?z_any ?z_sum ?z_min ?z_max ?z_int ?z_bool ?z_tuple ?z_list ?z_reversed ?z_str
    (case a_refuse_too_many => k_is)
    (case l_refuse_too_many => k_is)
    (case c_refuse_too_many => k_is)
    (case k_refuse_too_many => k_is)
    (case a_refuse_bad_runs => k_is)
    (case l_refuse_bad_runs => k_is)
    (case c_refuse_bad_runs => k_is)
    (case k_refuse_bad_runs => k_is)
    (case a_refuse_wide => k_is)
    (case l_refuse_wide => k_is)
    (case c_refuse_wide => k_is)
    (case k_refuse_wide => k_is)
    (case a_looked => k_is)
    (case l_looked => k_is)
    (case c_looked => k_is)
    (case k_looked => k_is)
    (case a_run_read => k_is)
    (case l_run_read => k_is)
    (case c_run_read => k_is)
    (case k_run_read => k_is)
    (case a_runs_read => k_is)
    (case l_runs_read => k_is)
    (case c_runs_read => k_is)
    (case k_runs_read => k_is)
    (case a_lines_read => k_is)
    (case l_lines_read => k_is)
    (case c_lines_read => k_is)
    (case k_lines_read => k_is)
    (case a_read => k_is)
    (case l_read => k_is)
    (case c_read => k_is)
    (case k_read => k_is)
    (case a__law_cell_at => k_is)
    (case l__law_cell_at => k_is)
    (case c__law_cell_at => k_is)
    (case k__law_cell_at => k_is)
    (case a__law_whole => k_is)
    (case l__law_whole => k_is)
    (case c__law_whole => k_is)
    (case k__law_whole => k_is)
    (case a__law_mix => k_is)
    (case l__law_mix => k_is)
    (case c__law_mix => k_is)
    (case k__law_mix => k_is)
    (case a__law_runs => k_is)
    (case l__law_runs => k_is)
    (case c__law_runs => k_is)
    (case k__law_runs => k_is)
    (case a__law_picture => k_is)
    (case l__law_picture => k_is)
    (case c__law_picture => k_is)
    (case k__law_picture => k_is)
    (case a__law_column => k_is)
    (case l__law_column => k_is)
    (case c__law_column => k_is)
    (case k__law_column => k_is)
    (case a__law_board => k_is)
    (case l__law_board => k_is)
    (case c__law_board => k_is)
    (case k__law_board => k_is)
    (case a__law_lines => k_is)
    (case l__law_lines => k_is)
    (case c__law_lines => k_is)
    (case k__law_lines => k_is)
    (case a__law_text => k_is)
    (case l__law_text => k_is)
    (case c__law_text => k_is)
    (case k__law_text => k_is)
    (case a__law_refused => k_is)
    (case l__law_refused => k_is)
    (case c__law_refused => k_is)
    (case k__law_refused => k_is)
    (case a__law_told => k_is)
    (case l__law_told => k_is)
    (case c__law_told => k_is)
    (case k__law_told => k_is)
    (case a__law_line_of => k_is)
    (case l__law_line_of => k_is)
    (case c__law_line_of => k_is)
    (case k__law_line_of => k_is)
    (case a__law_due => k_is)
    (case l__law_due => k_is)
    (case c__law_due => k_is)
    (case k__law_due => k_is)
    (case a__law_odd => k_is)
    (case l__law_odd => k_is)
    (case c__law_odd => k_is)
    (case k__law_odd => k_is)
    (case a__law_lined => k_is)
    (case l__law_lined => k_is)
    (case c__law_lined => k_is)
    (case k__law_lined => k_is)
    (case a_law => k_is)
    (case l_law => k_is)
    (case c_law => k_is)
    (case k_law => k_is)
    (case aC_PaintError => k_is)
    (case aC_NoLaying => k_is)
    (case aC_NoNumber => k_is)
    (case aC_TooMany => k_is)
    (case aC_BadRun => k_is)
    (case aC_Wide => k_is)
    (case aC_NoNote => k_is)
    (case z_ValueError => k_is)
    (case x_sg => k_is)
    (case x_tk => k_is)
    (case xe_PaintError => k_exc)
    (case xb_PaintError => k_is)
    (case xo_PaintError => k_is)
    (case xa_PaintError => k_is)
    (case xn_PaintError => k_is)
    (case xc_PaintError => k_is)
    (case xe_TooMany => k_exc)
    (case xb_TooMany => k_is)
    (case xo_TooMany => k_is)
    (case xa_TooMany => k_is)
    (case xn_TooMany => k_is)
    (case xc_TooMany => k_is)
    (case xe_BadRun => k_exc)
    (case xb_BadRun => k_is)
    (case xo_BadRun => k_is)
    (case xa_BadRun => k_is)
    (case xn_BadRun => k_is)
    (case xc_BadRun => k_is)
    (case xe_Wide => k_exc)
    (case xb_Wide => k_is)
    (case xo_Wide => k_is)
    (case xa_Wide => k_is)
    (case xn_Wide => k_is)
    (case xc_Wide => k_is)
    (case xe_NoNote => k_exc)
    (case xb_NoNote => k_is)
    (case xo_NoNote => k_is)
    (case xa_NoNote => k_is)
    (case xn_NoNote => k_is)
    (case xc_NoNote => k_is)
    (case xs_TooMany => k_is)
    (case xm_TooMany_NoLaying => k_is)
    (case xm_TooMany_NoNumber => k_is)
    (case xm_TooMany_TooMany => k_is)
    (case xm_TooMany_BadRun => k_is)
    (case xm_TooMany_Wide => k_is)
    (case xm_TooMany_NoNote => k_is)
    (case xv_TooMany => k_is)
    (case xs_BadRun => k_is)
    (case xm_BadRun_NoLaying => k_is)
    (case xm_BadRun_NoNumber => k_is)
    (case xm_BadRun_TooMany => k_is)
    (case xm_BadRun_BadRun => k_is)
    (case xm_BadRun_Wide => k_is)
    (case xm_BadRun_NoNote => k_is)
    (case xv_BadRun => k_is)
    (case xs_Wide => k_is)
    (case xm_Wide_NoLaying => k_is)
    (case xm_Wide_NoNumber => k_is)
    (case xm_Wide_TooMany => k_is)
    (case xm_Wide_BadRun => k_is)
    (case xm_Wide_Wide => k_is)
    (case xm_Wide_NoNote => k_is)
    (case xv_Wide => k_is)
    (case xs_NoNote => k_is)
    (case xm_NoNote_NoLaying => k_is)
    (case xm_NoNote_NoNumber => k_is)
    (case xm_NoNote_TooMany => k_is)
    (case xm_NoNote_BadRun => k_is)
    (case xm_NoNote_Wide => k_is)
    (case xm_NoNote_NoNote => k_is)
    (case xv_NoNote => k_is)
    (case xi_NoLaying => k_is)
    (case xt_NoLaying => k_is)
    (case xi_NoNumber => k_is)
    (case xt_NoNumber => k_is)
    (case xi_TooMany => k_is)
    (case xt_TooMany => k_is)
    (case xi_BadRun => k_is)
    (case xt_BadRun => k_is)
    (case xi_Wide => k_is)
    (case xt_Wide => k_is)
    (case xi_NoNote => k_is)
    (case xt_NoNote => k_is)
    (case g_MOST_LINES => k_is)
    (case g_MOST_FIGURES => k_is)
    (case g_FIGURES => k_is)
    (case z_len => k_is)
    (case z_range => k_is)
    (case z_isinstance => k_is)
    (case z_all => k_is)
    (case z_any => k_is)
    (case z_sum => k_is)
    (case z_min => k_is)
    (case z_max => k_is)
    (case z_int => k_is)
    (case z_bool => k_is)
    (case z_tuple => k_is)
    (case z_list => k_is)
    (case z_reversed => k_is)
    (case z_str => k_is)
#print axioms PySem.Challenge.cw_runpaint_k14_read_holds
